/- Several texts in one: MbSim, MbRun. -/
import Derived.Test.YtdkimllfpiphgaaRdNewAll
import Derived.Test.YtdkimllfpiphgaaMdSym
import Derived.Test.YtdkimllfpiphgaaMdPure
import Derived.Test.YtdkimllfpiphgaaCoGrow
/- What the model coded is decoded as it was: the mathematics. -/
namespace Go.Proofs.Ytdkimllfpiphgaa
open Go.RowKit

abbrev PS := (Nat → Nat) × Rc.St
abbrev PD := (Nat → Nat) × Rd.St
def Fair (P : Nat → Nat) : Prop := ∀ i, 1 ≤ P i ∧ P i ≤ 2047
theorem Fair.put {P : Nat → Nat} (h : Fair P) (i : Nat) (b : Bool) : Fair (Md.put P i (Rc.next (P i) b)) := by
  intro j
  unfold Md.put
  split
  · exact Rc.next_bounds (h i).1 (h i).2 b
  · exact h j
def Sim (S : Rc.St) (L : List UInt8) (x : PS) (y : PD) : Prop := y.1 = x.1 ∧ Follows S L x.2 y.2
/-- The decoder does as the encoder did, as long as what was coded at last lies behind it. -/
def Good (S : Rc.St) (L : List UInt8) {α : Type} (f : PS → α × PS) (h : PD → α × PD) : Prop := ∀ x, Fair x.1 → Fair (f x).2.1 ∧ (Rc.Inside (f x).2.2 S → Rc.Inside x.2 S) ∧ ∀ y, Sim S L x y → Rc.Inside (f x).2.2 S → (h y).1 = (f x).1 ∧ Sim S L (f x).2 (h y).2
/-- A distance's number behind its slot. -/
def Md.distG (io : Io) (d s : Nat) (x : io.S) : Nat × io.S :=
  if s < 4 then (s + 1, x)
  else if s < 14 then
    ((2 + s % 2) * 2 ^ (s / 2 - 1) + (Md.rev io (1716 + 32 * s) (s / 2 - 1) (d : Nat) x).1 + 1, (Md.rev io (1716 + 32 * s) (s / 2 - 1) (d : Nat) x).2)
  else
    ((2 + s % 2) * 2 ^ (s / 2 - 1) + (io.plain x.2 (d / 16 % 2 ^ (s / 2 - 1 - 4)) (s / 2 - 1 - 4)).1 % 2 ^ (s / 2 - 1 - 4) * 16 + (Md.rev io 2164 4 (d : Nat) (x.1, (io.plain x.2 (d / 16 % 2 ^ (s / 2 - 1 - 4)) (s / 2 - 1 - 4)).2)).1 + 1, (Md.rev io 2164 4 (d : Nat) (x.1, (io.plain x.2 (d / 16 % 2 ^ (s / 2 - 1 - 4)) (s / 2 - 1 - 4)).2)).2)
section
variable {S : Rc.St} {L : List UInt8} {α β : Type}
theorem good_pure (a : α) : Good S L (fun x => (a, x)) (fun y => (a, y)) := fun _ hx => ⟨hx, fun h => h, fun _ hs _ => ⟨rfl, hs⟩⟩
theorem good_bind {f : PS → α × PS} {h : PD → α × PD} (H : Good S L f h) {g1 : α → PS → β × PS} {g2 : α → PD → β × PD} (K : ∀ a, Good S L (g1 a) (g2 a)) : Good S L (fun x => g1 (f x).1 (f x).2) (fun y => g2 (h y).1 (h y).2) := by
  intro x hx
  obtain ⟨f1, f2, f3⟩ := H x hx
  obtain ⟨k1, k2, k3⟩ := K (f x).1 (f x).2 f1
  refine ⟨k1, fun hi => f2 (k2 hi), fun y hs hi => ?_⟩
  obtain ⟨e, s⟩ := f3 y hs (k2 hi)
  have hk := k3 (h y).2 s hi
  show (g2 (h y).1 (h y).2).1 = (g1 (f x).1 (f x).2).1 ∧ Sim S L (g1 (f x).1 (f x).2).2 (g2 (h y).1 (h y).2).2
  rw [e]; exact hk
theorem good_map {f : PS → α × PS} {h : PD → α × PD} (H : Good S L f h) (φ : α → β) : Good S L (fun x => (φ (f x).1, (f x).2)) (fun y => (φ (h y).1, (h y).2)) :=
  good_bind H (g1 := fun a x => (φ a, x)) (g2 := fun a y => (φ a, y)) fun a => good_pure (φ a)
variable (hA : Agree S L) (hS : 0 < S.r) (hl : 5 + S.k ≤ L.length) (ge gd o cap : Nat)
include hA hS hl
theorem good_bit (i : Nat) (b b' : Bool) : Good S L ((encIo ge).bitAt i b) ((decIo gd o cap L).bitAt i b') := by
  intro x hx
  have hc : Rc.fair (x.1 i) = x.1 i := by have := hx i; unfold Rc.fair; rw [if_neg (by omega)]
  have e1 : (encIo ge).bitAt i b x = (b, Md.put x.1 i (Rc.next (x.1 i) b), x.2.bit (x.1 i) b) := by
    unfold Rc.St.bit
    rw [hc]; rfl
  rw [e1]
  refine ⟨hx.put i b, fun hi => (Rc.inside_bit _ _ _).trans hi, fun y hs hi => ?_⟩
  obtain ⟨h1, h2⟩ := follow_bit hA hS (x.1 i) b hs.2 hi
  rw [hc] at h1 h2
  have h0 : (x.2.bit (x.1 i) b).k ≤ S.k := hi.1
  have h3 := h2 (by omega)
  have e2 : (decIo gd o cap L).bitAt i b' y = ((y.2.bit L (y.1 i)).1, Md.put y.1 i (Rc.next (y.1 i) (y.2.bit L (y.1 i)).1), (y.2.bit L (y.1 i)).2) := rfl
  rw [e2, hs.1, h3]
  exact ⟨rfl, rfl, h1⟩
theorem good_plain (v v' m : Nat) (hv : v < 2 ^ m) : Good S L (fun x => (((encIo ge).plain x.2 v m).1, (x.1, ((encIo ge).plain x.2 v m).2))) (fun y => (((decIo gd o cap L).plain y.2 v' m).1, (y.1, ((decIo gd o cap L).plain y.2 v' m).2))) := by
  intro x hx
  refine ⟨hx, fun hi => (Rc.inside_plain _ _ _).trans hi, fun y hs hi => ?_⟩
  obtain ⟨h1, h2⟩ := follow_plain hA hS hs.2 m v hi
  have h0 : (x.2.plain v m).k ≤ S.k := hi.1
  have h3 := h2 (by omega)
  rw [Nat.mod_eq_of_lt hv] at h3
  exact ⟨h3, hs.1, h1⟩
theorem good_treeGo (at_ : Nat) (v v' : Int) : ∀ n m, Good S L (Md.treeGo (encIo ge) at_ v n m) (Md.treeGo (decIo gd o cap L) at_ v' n m)
  | 0, m => good_pure m
  | n + 1, m => good_bind (good_bit hA hS hl ge gd o cap (at_ + m) (Md.bitOf v n) (Md.bitOf v' n)) (g1 := fun a x => Md.treeGo (encIo ge) at_ v n (2 * m + a.toNat) x) (g2 := fun a y => Md.treeGo (decIo gd o cap L) at_ v' n (2 * m + a.toNat) y) fun a => good_treeGo at_ v v' n (2 * m + a.toNat)
theorem good_tree (at_ n : Nat) (v v' : Int) : Good S L (Md.tree (encIo ge) at_ n v) (Md.tree (decIo gd o cap L) at_ n v') :=
  good_map (good_treeGo hA hS hl ge gd o cap at_ v v' n 1) fun a => a - 2 ^ n
theorem good_revGo (at_ : Nat) (v v' : Int) : ∀ k i m g, Good S L (Md.revGo (encIo ge) at_ v k i m g) (Md.revGo (decIo gd o cap L) at_ v' k i m g)
  | 0, _, _, g => good_pure g
  | k + 1, i, m, g => good_bind (good_bit hA hS hl ge gd o cap (at_ + m) (Md.bitOf v i) (Md.bitOf v' i)) (g1 := fun a x => Md.revGo (encIo ge) at_ v k (i + 1) (2 * m + a.toNat) (g + a.toNat * 2 ^ i) x) (g2 := fun a y => Md.revGo (decIo gd o cap L) at_ v' k (i + 1) (2 * m + a.toNat) (g + a.toNat * 2 ^ i) y) fun a => good_revGo at_ v v' k (i + 1) (2 * m + a.toNat) (g + a.toNat * 2 ^ i)
theorem good_rev (at_ n : Nat) (v v' : Int) : Good S L (Md.rev (encIo ge) at_ n v) (Md.rev (decIo gd o cap L) at_ n v') := good_revGo hA hS hl ge gd o cap at_ v v' n 0 1 0
theorem good_len (A p : Nat) (l l' : Int) : Good S L (Md.len (encIo ge) A p l) (Md.len (decIo gd o cap L) A p l') := by
  refine good_bind (good_bit hA hS hl ge gd o cap A (decide (8 ≤ l - 2)) (decide (8 ≤ l' - 2)))
    (g1 := fun a x => if a = false then (2 + (Md.tree (encIo ge) (A + 2 + 8 * p) 3 (l - 2) x).1, (Md.tree (encIo ge) (A + 2 + 8 * p) 3 (l - 2) x).2)
      else
        let z := (encIo ge).bitAt (A + 1) (decide (16 ≤ l - 2)) x
        if z.1 = false then (10 + (Md.tree (encIo ge) (A + 130 + 8 * p) 3 (l - 2 - 8) z.2).1, (Md.tree (encIo ge) (A + 130 + 8 * p) 3 (l - 2 - 8) z.2).2)
        else (18 + (Md.tree (encIo ge) (A + 258) 8 (l - 2 - 16) z.2).1, (Md.tree (encIo ge) (A + 258) 8 (l - 2 - 16) z.2).2))
    (g2 := fun a x => if a = false then (2 + (Md.tree (decIo gd o cap L) (A + 2 + 8 * p) 3 (l' - 2) x).1, (Md.tree (decIo gd o cap L) (A + 2 + 8 * p) 3 (l' - 2) x).2)
      else
        let z := (decIo gd o cap L).bitAt (A + 1) (decide (16 ≤ l' - 2)) x
        if z.1 = false then (10 + (Md.tree (decIo gd o cap L) (A + 130 + 8 * p) 3 (l' - 2 - 8) z.2).1, (Md.tree (decIo gd o cap L) (A + 130 + 8 * p) 3 (l' - 2 - 8) z.2).2)
        else (18 + (Md.tree (decIo gd o cap L) (A + 258) 8 (l' - 2 - 16) z.2).1, (Md.tree (decIo gd o cap L) (A + 258) 8 (l' - 2 - 16) z.2).2)) ?_
  intro a
  cases a with
  | false => exact good_map (good_tree hA hS hl ge gd o cap (A + 2 + 8 * p) 3 (l - 2) (l' - 2)) fun a => 2 + a
  | true =>
    refine good_bind (good_bit hA hS hl ge gd o cap (A + 1) (decide (16 ≤ l - 2)) (decide (16 ≤ l' - 2)))
      (g1 := fun a x => if a = false then (10 + (Md.tree (encIo ge) (A + 130 + 8 * p) 3 (l - 2 - 8) x).1, (Md.tree (encIo ge) (A + 130 + 8 * p) 3 (l - 2 - 8) x).2)
        else (18 + (Md.tree (encIo ge) (A + 258) 8 (l - 2 - 16) x).1, (Md.tree (encIo ge) (A + 258) 8 (l - 2 - 16) x).2))
      (g2 := fun a x => if a = false then (10 + (Md.tree (decIo gd o cap L) (A + 130 + 8 * p) 3 (l' - 2 - 8) x).1, (Md.tree (decIo gd o cap L) (A + 130 + 8 * p) 3 (l' - 2 - 8) x).2)
        else (18 + (Md.tree (decIo gd o cap L) (A + 258) 8 (l' - 2 - 16) x).1, (Md.tree (decIo gd o cap L) (A + 258) 8 (l' - 2 - 16) x).2)) ?_
    intro a
    cases a with
    | false => exact good_map (good_tree hA hS hl ge gd o cap (A + 130 + 8 * p) 3 (l - 2 - 8) (l' - 2 - 8)) fun a => 10 + a
    | true => exact good_map (good_tree hA hS hl ge gd o cap (A + 258) 8 (l - 2 - 16) (l' - 2 - 16)) fun a => 18 + a
theorem good_dist (l : Nat) (dd dd' : Int) : Good S L (Md.dist (encIo ge) l dd) (Md.dist (decIo gd o cap L) l dd') := by
  obtain ⟨d, hd⟩ : ∃ d, ((dd - 1) % 4294967296).toNat = d := ⟨_, rfl⟩
  obtain ⟨d', hd'⟩ : ∃ d, ((dd' - 1) % 4294967296).toNat = d := ⟨_, rfl⟩
  have key := good_bind (good_tree hA hS hl ge gd o cap (1460 + 64 * min (l - 2) 3) 6 (slotN d : Nat) (slotN d' : Nat)) (g1 := Md.distG (encIo ge) d) (g2 := Md.distG (decIo gd o cap L) d') fun s => by
    unfold Md.distG
    by_cases h4 : s < 4
    · simp only [if_pos h4]
      exact good_pure (s + 1)
    · by_cases h14 : s < 14
      · simp only [if_neg h4, if_pos h14]
        exact good_map (good_rev hA hS hl ge gd o cap (1716 + 32 * s) (s / 2 - 1) (d : Nat) (d' : Nat)) fun a => (2 + s % 2) * 2 ^ (s / 2 - 1) + a + 1
      · simp only [if_neg h4, if_neg h14]
        exact good_bind (good_plain hA hS hl ge gd o cap (d / 16 % 2 ^ (s / 2 - 1 - 4)) (d' / 16 % 2 ^ (s / 2 - 1 - 4)) (s / 2 - 1 - 4) (Nat.mod_lt _ (Nat.pow_pos (by decide))))
          (g1 := fun q x => ((2 + s % 2) * 2 ^ (s / 2 - 1) + q % 2 ^ (s / 2 - 1 - 4) * 16 + (Md.rev (encIo ge) 2164 4 (d : Nat) x).1 + 1, (Md.rev (encIo ge) 2164 4 (d : Nat) x).2))
          (g2 := fun q x => ((2 + s % 2) * 2 ^ (s / 2 - 1) + q % 2 ^ (s / 2 - 1 - 4) * 16 + (Md.rev (decIo gd o cap L) 2164 4 (d' : Nat) x).1 + 1, (Md.rev (decIo gd o cap L) 2164 4 (d' : Nat) x).2)) fun q =>
            good_map (good_rev hA hS hl ge gd o cap 2164 4 (d : Nat) (d' : Nat)) fun a => (2 + s % 2) * 2 ^ (s / 2 - 1) + q % 2 ^ (s / 2 - 1 - 4) * 16 + a + 1
  subst hd hd'
  exact key
theorem good_litGo (T like : Nat) (v v' : Int) : ∀ n m al, Good S L (Md.litGo (encIo ge) T like v n m al) (Md.litGo (decIo gd o cap L) T like v' n m al)
  | 0, m, _ => good_pure m
  | n + 1, m, al => good_bind (good_bit hA hS hl ge gd o cap (T + (if al then m + (256 + 256 * (like / 2 ^ n % 2)) else m)) (Md.bitOf v n) (Md.bitOf v' n)) (g1 := fun a x => Md.litGo (encIo ge) T like v n (2 * m + a.toNat) (al && (a.toNat == like / 2 ^ n % 2)) x) (g2 := fun a y => Md.litGo (decIo gd o cap L) T like v' n (2 * m + a.toNat) (al && (a.toNat == like / 2 ^ n % 2)) y) fun a => good_litGo T like v v' n (2 * m + a.toNat) (al && (a.toNat == like / 2 ^ n % 2))
theorem good_lit (lc lp st : Nat) (a : Int) (H : List UInt8) (v v' : Int) : Good S L (Md.lit (encIo ge) lc lp st a H v) (Md.lit (decIo gd o cap L) lc lp st a H v') :=
  good_map (good_litGo hA hS hl ge gd o cap (2180 + 768 * ctxN lc lp H) (Md.likeN H a) v v' 8 1 (decide (7 ≤ st))) fun a => UInt8.ofNat a
theorem good_which (st : Nat) (q q' : Int) : Good S L (Md.which (encIo ge) st q) (Md.which (decIo gd o cap L) st q') := by
  refine good_bind (good_bit hA hS hl ge gd o cap (204 + st) (q != 0) (q' != 0))
    (g1 := fun a x => if a = false then (0, x) else
      let b := (encIo ge).bitAt (216 + st) (q != 1) x
      if b.1 = false then (1, b.2) else
        let c := (encIo ge).bitAt (228 + st) (q != 2) b.2
        (2 + c.1.toNat, c.2))
    (g2 := fun a x => if a = false then (0, x) else
      let b := (decIo gd o cap L).bitAt (216 + st) (q' != 1) x
      if b.1 = false then (1, b.2) else
        let c := (decIo gd o cap L).bitAt (228 + st) (q' != 2) b.2
        (2 + c.1.toNat, c.2)) ?_
  intro a
  cases a with
  | false => exact good_pure 0
  | true =>
    refine good_bind (good_bit hA hS hl ge gd o cap (216 + st) (q != 1) (q' != 1))
      (g1 := fun b x => if b = false then (1, x) else
        let c := (encIo ge).bitAt (228 + st) (q != 2) x
        (2 + c.1.toNat, c.2))
      (g2 := fun b x => if b = false then (1, x) else
        let c := (decIo gd o cap L).bitAt (228 + st) (q' != 2) x
        (2 + c.1.toNat, c.2)) ?_
    intro b
    cases b with
    | false => exact good_pure 1
    | true => exact good_map (good_bit hA hS hl ge gd o cap (228 + st) (q != 2) (q' != 2)) fun c => 2 + c.toNat
theorem good_rept (st p : Nat) (l l' q q' : Int) : Good S L (Md.rept (encIo ge) st p l q) (Md.rept (decIo gd o cap L) st p l' q') := by
  refine good_bind (good_which hA hS hl ge gd o cap st q q')
    (g1 := fun a x => if a = 0 then
        let s := (encIo ge).bitAt (240 + 16 * st + p) (l != 1) x
        if s.1 = false then ((0, 1), s.2) else
          let n := Md.len (encIo ge) 946 p l s.2
          ((0, n.1), n.2)
      else
        let n := Md.len (encIo ge) 946 p l x
        ((a, n.1), n.2))
    (g2 := fun a x => if a = 0 then
        let s := (decIo gd o cap L).bitAt (240 + 16 * st + p) (l' != 1) x
        if s.1 = false then ((0, 1), s.2) else
          let n := Md.len (decIo gd o cap L) 946 p l' s.2
          ((0, n.1), n.2)
      else
        let n := Md.len (decIo gd o cap L) 946 p l' x
        ((a, n.1), n.2)) ?_
  intro a
  by_cases h0 : a = 0
  · subst h0
    refine good_bind (good_bit hA hS hl ge gd o cap (240 + 16 * st + p) (l != 1) (l' != 1))
      (g1 := fun s x => if s = false then ((0, 1), x) else
          let n := Md.len (encIo ge) 946 p l x
          ((0, n.1), n.2))
      (g2 := fun s x => if s = false then ((0, 1), x) else
          let n := Md.len (decIo gd o cap L) 946 p l' x
          ((0, n.1), n.2)) ?_
    intro s
    cases s with
    | false => exact good_pure (0, 1)
    | true => exact good_map (good_len hA hS hl ge gd o cap 946 p l l') fun n => (0, n)
  · simp only [if_neg h0]
    exact good_map (good_len hA hS hl ge gd o cap 946 p l l') fun n => (a, n)
end
namespace Md
/-- Md.sym with its results first. -/
def sym2 (io : Io) (lc lp pb st : Nat) (r : R4) (H : List UInt8) (k : Int) (b : UInt8) (l d q : Int) (x : io.S) : (Sy × Nat × R4) × io.S :=
  let a := io.bitAt (16 * st + H.length % 2 ^ pb) (k != 0) x
  if a.1 = false then
    let z := lit io lc lp st r.1 H (b.toNat : Nat) a.2
    ((⟨0, z.1, 0, 0, 0⟩, litState st, r), z.2)
  else
    let c := io.bitAt (192 + st) (k != 1) a.2
    if c.1 = false then
      let n := len io 432 (H.length % 2 ^ pb) l c.2
      let z := dist io n.1 d n.2
      ((⟨1, 0, n.1, z.1, 0⟩, (if st < 7 then 7 else 10), frontR r 3 (z.1 : Nat)), z.2)
    else
      let z := rept io st (H.length % 2 ^ pb) l q c.2
      ((⟨2, 0, z.1.2, 0, z.1.1⟩, (if st < 7 then (if z.1.2 = 1 then 9 else 8) else 11), frontR r z.1.1 (r4 r.1 r.2.1 r.2.2.1 r.2.2.2 z.1.1)), z.2)
theorem sym_sym2 (io : Io) (lc lp pb st : Nat) (r : R4) (H : List UInt8) (k : Int) (b : UInt8) (l d q : Int) (x : io.S) : sym io lc lp pb st r H k b l d q x = ((sym2 io lc lp pb st r H k b l d q x).1.1, (sym2 io lc lp pb st r H k b l d q x).1.2.1, (sym2 io lc lp pb st r H k b l d q x).1.2.2, (sym2 io lc lp pb st r H k b l d q x).2) := by
  unfold sym sym2
  by_cases h1 : (io.bitAt (16 * st + H.length % 2 ^ pb) (k != 0) x).1 = false
  · simp only [h1, if_true]
  · simp only [h1]
    by_cases h2 : (io.bitAt (192 + st) (k != 1) (io.bitAt (16 * st + H.length % 2 ^ pb) (k != 0) x).2).1 = false
    · simp only [h2, if_true]; rfl
    · simp only [h2]; rfl
end Md
section
variable {S : Rc.St} {L : List UInt8} (hA : Agree S L) (hS : 0 < S.r) (hl : 5 + S.k ≤ L.length) (ge gd o cap : Nat)
include hA hS hl
theorem good_sym2 (lc lp pb st : Nat) (r : R4) (H : List UInt8) (k k' : Int) (b b' : UInt8) (l l' d d' q q' : Int) : Good S L (Md.sym2 (encIo ge) lc lp pb st r H k b l d q) (Md.sym2 (decIo gd o cap L) lc lp pb st r H k' b' l' d' q') := by
  refine good_bind (good_bit hA hS hl ge gd o cap (16 * st + H.length % 2 ^ pb) (k != 0) (k' != 0))
    (g1 := fun a x => if a = false then
        let z := Md.lit (encIo ge) lc lp st r.1 H (b.toNat : Nat) x
        (((⟨0, z.1, 0, 0, 0⟩ : Sy), litState st, r), z.2)
      else
        let c := (encIo ge).bitAt (192 + st) (k != 1) x
        if c.1 = false then
          let n := Md.len (encIo ge) 432 (H.length % 2 ^ pb) l c.2
          let z := Md.dist (encIo ge) n.1 d n.2
          (((⟨1, 0, n.1, z.1, 0⟩ : Sy), (if st < 7 then 7 else 10 : Nat), frontR r 3 (z.1 : Nat)), z.2)
        else
          let z := Md.rept (encIo ge) st (H.length % 2 ^ pb) l q c.2
          (((⟨2, 0, z.1.2, 0, z.1.1⟩ : Sy), (if st < 7 then (if z.1.2 = 1 then 9 else 8) else 11 : Nat), frontR r z.1.1 (r4 r.1 r.2.1 r.2.2.1 r.2.2.2 z.1.1)), z.2))
    (g2 := fun a x => if a = false then
        let z := Md.lit (decIo gd o cap L) lc lp st r.1 H (b'.toNat : Nat) x
        (((⟨0, z.1, 0, 0, 0⟩ : Sy), litState st, r), z.2)
      else
        let c := (decIo gd o cap L).bitAt (192 + st) (k' != 1) x
        if c.1 = false then
          let n := Md.len (decIo gd o cap L) 432 (H.length % 2 ^ pb) l' c.2
          let z := Md.dist (decIo gd o cap L) n.1 d' n.2
          (((⟨1, 0, n.1, z.1, 0⟩ : Sy), (if st < 7 then 7 else 10 : Nat), frontR r 3 (z.1 : Nat)), z.2)
        else
          let z := Md.rept (decIo gd o cap L) st (H.length % 2 ^ pb) l' q' c.2
          (((⟨2, 0, z.1.2, 0, z.1.1⟩ : Sy), (if st < 7 then (if z.1.2 = 1 then 9 else 8) else 11 : Nat), frontR r z.1.1 (r4 r.1 r.2.1 r.2.2.1 r.2.2.2 z.1.1)), z.2)) ?_
  intro a
  cases a with
  | false => exact good_map (good_lit hA hS hl ge gd o cap lc lp st r.1 H (b.toNat : Nat) (b'.toNat : Nat)) fun z => ((⟨0, z, 0, 0, 0⟩ : Sy), litState st, r)
  | true =>
    refine good_bind (good_bit hA hS hl ge gd o cap (192 + st) (k != 1) (k' != 1))
      (g1 := fun c x => if c = false then
          let n := Md.len (encIo ge) 432 (H.length % 2 ^ pb) l x
          let z := Md.dist (encIo ge) n.1 d n.2
          (((⟨1, 0, n.1, z.1, 0⟩ : Sy), (if st < 7 then 7 else 10 : Nat), frontR r 3 (z.1 : Nat)), z.2)
        else
          let z := Md.rept (encIo ge) st (H.length % 2 ^ pb) l q x
          (((⟨2, 0, z.1.2, 0, z.1.1⟩ : Sy), (if st < 7 then (if z.1.2 = 1 then 9 else 8) else 11 : Nat), frontR r z.1.1 (r4 r.1 r.2.1 r.2.2.1 r.2.2.2 z.1.1)), z.2))
      (g2 := fun c x => if c = false then
          let n := Md.len (decIo gd o cap L) 432 (H.length % 2 ^ pb) l' x
          let z := Md.dist (decIo gd o cap L) n.1 d' n.2
          (((⟨1, 0, n.1, z.1, 0⟩ : Sy), (if st < 7 then 7 else 10 : Nat), frontR r 3 (z.1 : Nat)), z.2)
        else
          let z := Md.rept (decIo gd o cap L) st (H.length % 2 ^ pb) l' q' x
          (((⟨2, 0, z.1.2, 0, z.1.1⟩ : Sy), (if st < 7 then (if z.1.2 = 1 then 9 else 8) else 11 : Nat), frontR r z.1.1 (r4 r.1 r.2.1 r.2.2.1 r.2.2.2 z.1.1)), z.2)) ?_
    intro c
    cases c with
    | false =>
      refine good_bind (good_len hA hS hl ge gd o cap 432 (H.length % 2 ^ pb) l l')
        (g1 := fun n x => (((⟨1, 0, n, (Md.dist (encIo ge) n d x).1, 0⟩ : Sy), (if st < 7 then 7 else 10 : Nat), frontR r 3 ((Md.dist (encIo ge) n d x).1 : Nat)), (Md.dist (encIo ge) n d x).2))
        (g2 := fun n x => (((⟨1, 0, n, (Md.dist (decIo gd o cap L) n d' x).1, 0⟩ : Sy), (if st < 7 then 7 else 10 : Nat), frontR r 3 ((Md.dist (decIo gd o cap L) n d' x).1 : Nat)), (Md.dist (decIo gd o cap L) n d' x).2)) fun n => ?_
      exact good_map (good_dist hA hS hl ge gd o cap n d d') fun z => ((⟨1, 0, n, z, 0⟩ : Sy), (if st < 7 then 7 else 10 : Nat), frontR r 3 (z : Nat))
    | true => exact good_map (good_rept hA hS hl ge gd o cap st (H.length % 2 ^ pb) l l' q q') fun z => ((⟨2, 0, z.2, 0, z.1⟩ : Sy), (if st < 7 then (if z.2 = 1 then 9 else 8) else 11 : Nat), frontR r z.1 (r4 r.1 r.2.1 r.2.2.1 r.2.2.2 z.1))
/-- The decoder tells back the symbol that was coded. -/
theorem sym_back {lc lp pb st : Nat} {r : R4} {H : List UInt8} {k l d q : Int} {b : UInt8} {x z : PS} {s' : Sy} {st' : Nat} {r' : R4} (hx : Fair x.1) (h : Md.sym (encIo ge) lc lp pb st r H k b l d q x = (s', st', r', z)) (hi : Rc.Inside z.2 S) {y : PD} (hs : Sim S L x y) :
    ∃ z' : PD, Md.sym (decIo gd o cap L) lc lp pb st r H 0 0 0 0 0 y = (s', st', r', z') ∧ Sim S L z z' := by
  obtain ⟨_, _, h3⟩ := good_sym2 hA hS hl ge gd o cap lc lp pb st r H k 0 b 0 l 0 d 0 q 0 x hx
  have e := (Md.sym_sym2 (encIo ge) lc lp pb st r H k b l d q x).symm.trans h
  have e1 := congrArg (fun t => t.1) e
  have e2 := congrArg (fun t => t.2.1) e
  have e3 := congrArg (fun t => t.2.2.1) e
  have e4 := congrArg (fun t => t.2.2.2) e
  obtain ⟨k1, k2⟩ := h3 y hs (by rw [show (Md.sym2 (encIo ge) lc lp pb st r H k b l d q x).2 = z from e4]; exact hi)
  refine ⟨(Md.sym2 (decIo gd o cap L) lc lp pb st r H 0 0 0 0 0 y).2, (Md.sym_sym2 (decIo gd o cap L) lc lp pb st r H 0 0 0 0 0 y).trans ?_, ?_⟩
  · exact Prod.ext ((congrArg (fun t => t.1) k1).trans e1) (Prod.ext ((congrArg (fun t => t.2.1) k1).trans e2) (Prod.ext ((congrArg (fun t => t.2.2) k1).trans e3) rfl))
  · rw [show (Md.sym2 (encIo ge) lc lp pb st r H k b l d q x).2 = z from e4] at k2
    exact k2
theorem sym_inside {lc lp pb st : Nat} {r : R4} {H : List UInt8} {k l d q : Int} {b : UInt8} {x z : PS} {s' : Sy} {st' : Nat} {r' : R4} (hx : Fair x.1) (h : Md.sym (encIo ge) lc lp pb st r H k b l d q x = (s', st', r', z)) : Fair z.1 ∧ (Rc.Inside z.2 S → Rc.Inside x.2 S) := by
  obtain ⟨h1, h2, _⟩ := good_sym2 hA hS hl ge 0 0 0 lc lp pb st r H k 0 b 0 l 0 d 0 q 0 x hx
  have e := (Md.sym_sym2 (encIo ge) lc lp pb st r H k b l d q x).symm.trans h
  have e4 : (Md.sym2 (encIo ge) lc lp pb st r H k b l d q x).2 = z := congrArg (fun t => t.2.2.2) e
  rw [e4] at h1 h2
  exact ⟨h1, h2⟩
end
end Go.Proofs.Ytdkimllfpiphgaa

/- Symbols coded one behind another, and told back. -/
namespace Go.Proofs.Ytdkimllfpiphgaa
open Go.RowKit

/-- Where a coder stands. -/
structure MSt where
  H : List UInt8
  st : Nat
  r : R4
  x : PS
/-- A symbol takes the coder from one place to the next. -/
structure Link (g lc lp pb : Nat) (a : MSt) (s : Sy) (b : MSt) : Prop where
  sym : ∃ (k : Int) (c : UInt8) (l d q : Int), Md.sym (encIo g) lc lp pb a.st a.r a.H k c l d q a.x = (s, b.st, b.r, b.x)
  k : s.k ≤ 2
  q : s.r ≤ 3
  short : s.l ≤ 273
  pos : s.k ≠ 0 → 1 ≤ s.l
  hist : ∃ bk : Nat, distZ a.r (s.k : Nat) (s.d : Nat) (s.r : Nat) = (bk : Int) ∧ (((s.k : Nat) : Int) ≠ 0 → 1 ≤ bk ∧ bk ≤ a.H.length) ∧ b.H = growS a.H (s.k : Nat) s.b s.l bk
  st : ((b.st : Nat) : Int) = stateAfter (a.st : Nat) (s.k : Nat) (s.l : Nat)
  r : b.r = repsAfter a.r (s.k : Nat) (s.d : Nat) (s.r : Nat)
  ok : b.x.2.ok
theorem growS_zero (H : List UInt8) (b : UInt8) (l l' back back' : Nat) : growS H 0 b l back = growS H 0 b l' back' := by
  unfold growS
  rw [if_pos rfl, if_pos rfl]
theorem growS_ne {k : Int} (hk : k ≠ 0) (H : List UInt8) (b b' : UInt8) (l back : Nat) : growS H k b l back = growS H k b' l back := by
  unfold growS
  rw [if_neg hk, if_neg hk]
theorem fits_link {g lc lp pb : Nat} {a : MSt} {k : Int} {b : UInt8} {l d q : Int} (hr : rGood a.r) (hf : fitsZ a.r (a.H.length : Int) k l d q = true) :
    ∃ s st' r' z, Md.sym (encIo g) lc lp pb a.st a.r a.H k b l d q a.x = (s, st', r', z) ∧ r' = repsAfter a.r k d q ∧ ((st' : Nat) : Int) = stateAfter (a.st : Nat) k l ∧ s.val = plainZ k b l d q ∧ ∀ bk : Nat, distZ a.r k d q = (bk : Int) → z.2.ok → Link g lc lp pb a s ⟨growS a.H k b l.toNat bk, st', r', z⟩ := by
  have hr1 : ∀ q : Nat, q ≤ 3 → 1 ≤ rAt a.r (q : Nat) := by
    intro q hq
    obtain ⟨⟨a1, a2, a3, a4⟩, _⟩ := hr
    unfold rAt
    rcases (by omega : q = 0 ∨ q = 1 ∨ q = 2 ∨ q = 3) with rfl | rfl | rfl | rfl
    · exact a1
    · exact a2
    · exact a3
    · exact a4
  rcases fitsZ_cases hf with rfl | ⟨rfl, h2, h3, h4, h5, h6⟩ | ⟨rfl, h0, h1, h4, h5⟩
  · obtain ⟨z, hz, _⟩ := sym_lit_enc g lc lp pb a.st a.r a.H b l d q a.x
    refine ⟨_, _, _, _, hz, rfl, lit_state a.st l, rfl, fun bk hbk hok => ?_⟩
    exact ⟨⟨0, b, l, d, q, hz⟩, show 0 ≤ 2 by decide, show 0 ≤ 3 by decide, show 0 ≤ 273 by decide, fun h => absurd rfl h, ⟨0, rfl, fun h => absurd rfl h, growS_zero a.H b l.toNat 0 bk 0⟩, lit_state a.st _, rfl, hok⟩
  · obtain ⟨l, rfl⟩ : ∃ n : Nat, l = n := ⟨l.toNat, by omega⟩
    obtain ⟨d, rfl⟩ : ∃ n : Nat, d = n := ⟨d.toNat, by omega⟩
    obtain ⟨z, hz, _⟩ := sym_match_enc g lc lp pb a.st a.r a.H b l d q (by omega) (by omega) (by omega) (by omega) a.x
    refine ⟨_, _, _, _, hz, rfl, match_state a.st l, rfl, fun bk hbk hok => ?_⟩
    have hd : distZ a.r 1 (d : Nat) q = (d : Int) := by unfold distZ; rw [if_pos rfl]
    rw [hd] at hbk
    refine ⟨⟨1, b, l, d, q, hz⟩, show 1 ≤ 2 by decide, show 0 ≤ 3 by decide, by show l ≤ 273; omega, fun _ => by show 1 ≤ l; omega, ⟨bk, ?_, fun _ => by show 1 ≤ bk ∧ bk ≤ a.H.length; omega, growS_ne (show (1 : Int) ≠ 0 by decide) a.H b 0 l bk⟩, match_state a.st _, rfl, hok⟩
    show distZ a.r 1 (d : Nat) 0 = (bk : Int)
    unfold distZ
    rw [if_pos rfl]; exact hbk
  · obtain ⟨l, rfl⟩ : ∃ n : Nat, l = n := ⟨l.toNat, by omega⟩
    obtain ⟨q, rfl⟩ : ∃ n : Nat, q = n := ⟨q.toNat, by omega⟩
    obtain ⟨z, hz, _⟩ := sym_rept_enc g lc lp pb a.st a.r a.H b l q d (by omega) (by omega) (by omega) (by omega) a.x
    refine ⟨_, _, _, _, hz, rept_reps a.r q (by omega) d, rept_state a.st l, rfl, fun bk hbk hok => ?_⟩
    have hd : distZ a.r 2 d (q : Nat) = rAt a.r (q : Nat) := by unfold distZ; rw [if_neg (by decide), if_pos rfl]
    rw [hd] at hbk
    have h1' := hr1 q (by omega)
    refine ⟨⟨2, b, l, d, q, hz⟩, show 2 ≤ 2 by decide, by show q ≤ 3; omega, by show l ≤ 273; omega, fun _ => by show 1 ≤ l; omega, ⟨bk, ?_, fun _ => by show 1 ≤ bk ∧ bk ≤ a.H.length; omega, growS_ne (show (2 : Int) ≠ 0 by decide) a.H b 0 l bk⟩, rept_state a.st l, rept_reps a.r q (by omega) _, hok⟩
    show distZ a.r 2 0 (q : Nat) = (bk : Int)
    unfold distZ
    rw [if_neg (by decide), if_pos rfl]; exact hbk
/-- The places of a run, and its symbols. -/
def Chain (g lc lp pb : Nat) (ss : List Sy) (M : Nat → MSt) : Prop := ∀ t (h : t < ss.length), Link g lc lp pb (M t) ss[t] (M (t + 1))
theorem Chain.snoc {g lc lp pb : Nat} {ss : List Sy} {M : Nat → MSt} {s : Sy} {b : MSt} (h : Chain g lc lp pb ss M) (hl : Link g lc lp pb (M ss.length) s b) : Chain g lc lp pb (ss ++ [s]) (fun t => if t ≤ ss.length then M t else b) ∧ (if (ss ++ [s]).length ≤ ss.length then M (ss ++ [s]).length else b) = b := by
  refine ⟨fun t ht => ?_, if_neg (by simp)⟩
  have ht' : t < ss.length + 1 := by simpa using ht
  show Link g lc lp pb (if t ≤ ss.length then M t else b) (ss ++ [s])[t] (if t + 1 ≤ ss.length then M (t + 1) else b)
  rw [if_pos (show t ≤ ss.length by omega)]
  by_cases h1 : t < ss.length
  · rw [if_pos (show t + 1 ≤ ss.length by omega), List.getElem_append_left h1]
    exact h t h1
  · obtain rfl : t = ss.length := by omega
    rw [if_neg (show ¬ ss.length + 1 ≤ ss.length by omega)]
    simpa using hl
theorem Link.step {g lc lp pb : Nat} {a b : MSt} {s : Sy} (h : Link g lc lp pb a s b) (hf : Fair a.x.1) : Fair b.x.1 ∧ Rc.Inside a.x.2 b.x.2 := by
  obtain ⟨k, c, l, d, q, hs⟩ := h.sym
  obtain ⟨h1, h2⟩ := sym_inside (be_agree b.x.2) (by have := h.ok.2; omega) (by rw [Rc.be_length]; exact Nat.le_refl _) g hf hs
  exact ⟨h1, h2 (Rc.Inside.refl _)⟩
theorem Chain.fair {g lc lp pb : Nat} {ss : List Sy} {M : Nat → MSt} (h : Chain g lc lp pb ss M) (h0 : Fair (M 0).x.1) : ∀ t, t ≤ ss.length → Fair (M t).x.1
  | 0, _ => h0
  | t + 1, ht => ((h t (by omega)).step (h.fair h0 t (by omega))).1
theorem Chain.inside {g lc lp pb : Nat} {ss : List Sy} {M : Nat → MSt} (h : Chain g lc lp pb ss M) (h0 : Fair (M 0).x.1) : ∀ n t, t + n = ss.length → Rc.Inside (M t).x.2 (M ss.length).x.2
  | 0, t, e => by
    have : t = ss.length := by omega
    subst this; exact Rc.Inside.refl _
  | n + 1, t, e => ((h t (by omega)).step (h.fair h0 t (by omega))).2.trans (h.inside h0 n (t + 1) (by omega))
/-- One symbol is told back. -/
theorem Chain.back {g lc lp pb : Nat} {ss : List Sy} {M : Nat → MSt} (h : Chain g lc lp pb ss M) (h0 : Fair (M 0).x.1) (hok : (M ss.length).x.2.ok) {L : List UInt8} (hL : L = Rc.be (5 + (M ss.length).x.2.k) (M ss.length).x.2.v) (gd o cap : Nat) {t : Nat} (ht : t < ss.length) {y : PD} (hs : Sim (M ss.length).x.2 L (M t).x y) :
    ∃ z' : PD, Md.sym (decIo gd o cap L) lc lp pb (M t).st (M t).r (M t).H 0 0 0 0 0 y = (ss[t], (M (t + 1)).st, (M (t + 1)).r, z') ∧ Sim (M ss.length).x.2 L (M (t + 1)).x z' := by
  subst hL
  obtain ⟨k, c, l, d, q, hsy⟩ := (h t ht).sym
  exact sym_back (be_agree _) (by have := hok.2; omega) (by rw [Rc.be_length]; exact Nat.le_refl _) g gd o cap (h.fair h0 t (by omega)) hsy (h.inside h0 (ss.length - (t + 1)) (t + 1) (by omega)) hs
theorem sim_start {S : Rc.St} {L : List UInt8} (hok : S.ok) (hL : L = Rc.be (5 + S.k) S.v) : Sim S L (fun _ => 1024, st0) (fun _ => 1024, Rd.start L) := by
  subst hL
  exact ⟨rfl, follow_start (be_agree S) hok (by rw [Rc.be_length]; omega)⟩
/-- All is read. -/
theorem sim_done {S : Rc.St} {L : List UInt8} {P : Nat → Nat} {y : PD} (hL : L = Rc.be (5 + S.k) S.v) (h : Sim S L (P, S) y) : y.2.done L = true := by
  subst hL
  have hl : (Rc.be (5 + S.k) S.v).length = 5 + S.k := Rc.be_length _ _
  have h1 := h.2.1 (by rw [hl]; exact Nat.le_refl _)
  have ht : Rc.top S S.k = S.v := by unfold Rc.top; simp
  rw [ht, Nat.sub_self] at h1
  rw [h1]
  unfold Rd.St.done
  rw [hl]; simp
end Go.Proofs.Ytdkimllfpiphgaa
