/- Several texts in one: ChkG, UcG. -/
import Derived.Test.YtkckjjchfccdjaaMg14
import Derived.Test.YtkckjjchfccdjaaMg15
/- What is coded does not hang on where the coder of bits lies. -/
namespace Go.Proofs.Ytkckjjchfccdjaa
set_option maxRecDepth 100000
open Go.RowKit

/-- The coder of bits, and the chances. -/
abbrev EncS : Type := (Nat → Nat) × Rc.St
theorem not_false {b : Bool} (h : b = true) : ¬ b = false := fun e => Bool.noConfusion (h.symm.trans e)
theorem treeGo_g (g at_ : Nat) (v : Int) : ∀ (n m : Nat) (x : EncS), Md.treeGo (encIo g) at_ v n m x = Md.treeGo (encIo 0) at_ v n m x
  | 0, _, _ => rfl
  | n + 1, m, x => treeGo_g g at_ v n (2 * m + ((encIo 0).bitAt (at_ + m) (Md.bitOf v n) x).1.toNat) ((encIo 0).bitAt (at_ + m) (Md.bitOf v n) x).2
theorem tree_g (g at_ n : Nat) (v : Int) (x : EncS) : Md.tree (encIo g) at_ n v x = Md.tree (encIo 0) at_ n v x :=
  congrArg (fun y : Nat × EncS => (y.1 - 2 ^ n, y.2)) (treeGo_g g at_ v n 1 x)
theorem revGo_g (g at_ : Nat) (v : Int) : ∀ (k i m a : Nat) (x : EncS), Md.revGo (encIo g) at_ v k i m a x = Md.revGo (encIo 0) at_ v k i m a x
  | 0, _, _, _, _ => rfl
  | k + 1, i, m, a, x => revGo_g g at_ v k (i + 1) (2 * m + ((encIo 0).bitAt (at_ + m) (Md.bitOf v i) x).1.toNat) (a + ((encIo 0).bitAt (at_ + m) (Md.bitOf v i) x).1.toNat * 2 ^ i) ((encIo 0).bitAt (at_ + m) (Md.bitOf v i) x).2
theorem rev_g (g at_ n : Nat) (v : Int) (x : EncS) : Md.rev (encIo g) at_ n v x = Md.rev (encIo 0) at_ n v x := revGo_g g at_ v n 0 1 0 x
theorem len_g (g A p : Nat) (l : Int) (x : EncS) : Md.len (encIo g) A p l x = Md.len (encIo 0) A p l x := by
  cases h1 : ((encIo 0).bitAt A (decide (8 ≤ l - 2)) x).1 with
  | false => exact (show Md.len (encIo g) A p l x = _ from if_pos h1).trans ((congrArg (fun y : Nat × EncS => (2 + y.1, y.2)) (tree_g g (A + 2 + 8 * p) 3 (l - 2) _)).trans (show Md.len (encIo 0) A p l x = _ from if_pos h1).symm)
  | true =>
    cases h2 : ((encIo 0).bitAt (A + 1) (decide (16 ≤ l - 2)) ((encIo 0).bitAt A (decide (8 ≤ l - 2)) x).2).1 with
    | false => exact (show Md.len (encIo g) A p l x = _ from (if_neg (not_false h1)).trans (if_pos h2)).trans ((congrArg (fun y : Nat × EncS => (10 + y.1, y.2)) (tree_g g (A + 130 + 8 * p) 3 (l - 2 - 8) _)).trans (show Md.len (encIo 0) A p l x = _ from (if_neg (not_false h1)).trans (if_pos h2)).symm)
    | true => exact (show Md.len (encIo g) A p l x = _ from (if_neg (not_false h1)).trans (if_neg (not_false h2))).trans ((congrArg (fun y : Nat × EncS => (18 + y.1, y.2)) (tree_g g (A + 258) 8 (l - 2 - 16) _)).trans (show Md.len (encIo 0) A p l x = _ from (if_neg (not_false h1)).trans (if_neg (not_false h2))).symm)
/-- The distance's bits behind its slot. -/
def distTail (io : Io) (d : Nat) (y : Nat × io.S) : Nat × io.S :=
  if y.1 < 4 then (y.1 + 1, y.2)
  else if y.1 < 14 then ((2 + y.1 % 2) * 2 ^ (y.1 / 2 - 1) + (Md.rev io (1716 + 32 * y.1) (y.1 / 2 - 1) (d : Nat) y.2).1 + 1, (Md.rev io (1716 + 32 * y.1) (y.1 / 2 - 1) (d : Nat) y.2).2)
  else ((2 + y.1 % 2) * 2 ^ (y.1 / 2 - 1) + (io.plain y.2.2 (d / 16 % 2 ^ (y.1 / 2 - 1 - 4)) (y.1 / 2 - 1 - 4)).1 % 2 ^ (y.1 / 2 - 1 - 4) * 16 + (Md.rev io 2164 4 (d : Nat) (y.2.1, (io.plain y.2.2 (d / 16 % 2 ^ (y.1 / 2 - 1 - 4)) (y.1 / 2 - 1 - 4)).2)).1 + 1, (Md.rev io 2164 4 (d : Nat) (y.2.1, (io.plain y.2.2 (d / 16 % 2 ^ (y.1 / 2 - 1 - 4)) (y.1 / 2 - 1 - 4)).2)).2)
theorem distTail_g (g d : Nat) (y : Nat × EncS) : distTail (encIo g) d y = distTail (encIo 0) d y := by
  by_cases h1 : y.1 < 4
  · exact (show distTail (encIo g) d y = _ from if_pos h1).trans (show distTail (encIo 0) d y = _ from if_pos h1).symm
  · by_cases h2 : y.1 < 14
    · exact (show distTail (encIo g) d y = _ from (if_neg h1).trans (if_pos h2)).trans ((congrArg (fun z : Nat × EncS => ((2 + y.1 % 2) * 2 ^ (y.1 / 2 - 1) + z.1 + 1, z.2)) (rev_g g (1716 + 32 * y.1) (y.1 / 2 - 1) (d : Nat) y.2)).trans (show distTail (encIo 0) d y = _ from (if_neg h1).trans (if_pos h2)).symm)
    · exact (show distTail (encIo g) d y = _ from (if_neg h1).trans (if_neg h2)).trans ((congrArg (fun z : Nat × EncS => ((2 + y.1 % 2) * 2 ^ (y.1 / 2 - 1) + ((encIo 0).plain y.2.2 (d / 16 % 2 ^ (y.1 / 2 - 1 - 4)) (y.1 / 2 - 1 - 4)).1 % 2 ^ (y.1 / 2 - 1 - 4) * 16 + z.1 + 1, z.2)) (rev_g g 2164 4 (d : Nat) (y.2.1, ((encIo 0).plain y.2.2 (d / 16 % 2 ^ (y.1 / 2 - 1 - 4)) (y.1 / 2 - 1 - 4)).2))).trans (show distTail (encIo 0) d y = _ from (if_neg h1).trans (if_neg h2)).symm)
theorem dist_tail (io : Io) (l : Nat) (dd : Int) (x : io.S) : Md.dist io l dd x = distTail io ((dd - 1) % 4294967296).toNat (Md.tree io (1460 + 64 * min (l - 2) 3) 6 (slotN ((dd - 1) % 4294967296).toNat : Nat) x) := rfl
theorem dist_g (g l : Nat) (d : Int) (x : EncS) : Md.dist (encIo g) l d x = Md.dist (encIo 0) l d x :=
  (dist_tail (encIo g) l d x).trans ((distTail_g g _ _).trans ((congrArg (fun y => distTail (encIo 0) ((d - 1) % 4294967296).toNat y) (tree_g g _ 6 _ x)).trans (dist_tail (encIo 0) l d x).symm))
theorem litGo_g (g T like : Nat) (v : Int) : ∀ (n m : Nat) (al : Bool) (x : EncS), Md.litGo (encIo g) T like v n m al x = Md.litGo (encIo 0) T like v n m al x
  | 0, _, _, _ => rfl
  | n + 1, _, _, _ => litGo_g g T like v n _ _ _
theorem lit_g (g lc lp st : Nat) (a : Int) (H : List UInt8) (v : Int) (x : EncS) : Md.lit (encIo g) lc lp st a H v x = Md.lit (encIo 0) lc lp st a H v x :=
  congrArg (fun y : Nat × EncS => (UInt8.ofNat y.1, y.2)) (litGo_g g _ _ v 8 1 _ x)
/-- A repeat's bits behind its number. -/
def reptTail (io : Io) (st p : Nat) (l : Int) (w : Nat × io.S) : (Nat × Nat) × io.S :=
  if w.1 = 0 then
    if (io.bitAt (240 + 16 * st + p) (l != 1) w.2).1 = false then ((0, 1), (io.bitAt (240 + 16 * st + p) (l != 1) w.2).2)
    else ((0, (Md.len io 946 p l (io.bitAt (240 + 16 * st + p) (l != 1) w.2).2).1), (Md.len io 946 p l (io.bitAt (240 + 16 * st + p) (l != 1) w.2).2).2)
  else ((w.1, (Md.len io 946 p l w.2).1), (Md.len io 946 p l w.2).2)
theorem reptTail_g (g st p : Nat) (l : Int) (w : Nat × EncS) : reptTail (encIo g) st p l w = reptTail (encIo 0) st p l w := by
  by_cases h1 : w.1 = 0
  · cases h2 : ((encIo 0).bitAt (240 + 16 * st + p) (l != 1) w.2).1 with
    | false => exact (show reptTail (encIo g) st p l w = _ from (if_pos h1).trans (if_pos h2)).trans (show reptTail (encIo 0) st p l w = _ from (if_pos h1).trans (if_pos h2)).symm
    | true => exact (show reptTail (encIo g) st p l w = _ from (if_pos h1).trans (if_neg (not_false h2))).trans ((congrArg (fun z : Nat × EncS => ((0, z.1), z.2)) (len_g g 946 p l ((encIo 0).bitAt (240 + 16 * st + p) (l != 1) w.2).2)).trans (show reptTail (encIo 0) st p l w = _ from (if_pos h1).trans (if_neg (not_false h2))).symm)
  · exact (show reptTail (encIo g) st p l w = _ from if_neg h1).trans ((congrArg (fun z : Nat × EncS => ((w.1, z.1), z.2)) (len_g g 946 p l w.2)).trans (show reptTail (encIo 0) st p l w = _ from if_neg h1).symm)
theorem rept_g (g st p : Nat) (l q : Int) (x : EncS) : Md.rept (encIo g) st p l q x = Md.rept (encIo 0) st p l q x := reptTail_g g st p l (Md.which (encIo 0) st q x)
theorem sym_g (g lc lp pb st : Nat) (r : R4) (H : List UInt8) (k : Int) (b : UInt8) (l d q : Int) (x : EncS) : Md.sym (encIo g) lc lp pb st r H k b l d q x = Md.sym (encIo 0) lc lp pb st r H k b l d q x := by
  cases h1 : ((encIo 0).bitAt (16 * st + H.length % 2 ^ pb) (k != 0) x).1 with
  | false => exact (show Md.sym (encIo g) lc lp pb st r H k b l d q x = _ from if_pos h1).trans ((congrArg (fun z : UInt8 × EncS => ((⟨0, z.1, 0, 0, 0⟩ : Sy), litState st, r, z.2)) (lit_g g lc lp st r.1 H (b.toNat : Nat) ((encIo 0).bitAt (16 * st + H.length % 2 ^ pb) (k != 0) x).2)).trans (show Md.sym (encIo 0) lc lp pb st r H k b l d q x = _ from if_pos h1).symm)
  | true =>
    cases h2 : ((encIo 0).bitAt (192 + st) (k != 1) ((encIo 0).bitAt (16 * st + H.length % 2 ^ pb) (k != 0) x).2).1 with
    | false =>
      refine (show Md.sym (encIo g) lc lp pb st r H k b l d q x = _ from (if_neg (not_false h1)).trans (if_pos h2)).trans (Eq.trans ?_ (show Md.sym (encIo 0) lc lp pb st r H k b l d q x = _ from (if_neg (not_false h1)).trans (if_pos h2)).symm)
      have e1 := len_g g 432 (H.length % 2 ^ pb) l ((encIo 0).bitAt (192 + st) (k != 1) ((encIo 0).bitAt (16 * st + H.length % 2 ^ pb) (k != 0) x).2).2
      have e2 := fun (n : Nat × EncS) => dist_g g n.1 d n.2
      exact (congrArg (fun n : Nat × EncS => ((⟨1, 0, n.1, (Md.dist (encIo g) n.1 d n.2).1, 0⟩ : Sy), (if st < 7 then 7 else 10), frontR r 3 ((Md.dist (encIo g) n.1 d n.2).1 : Nat), (Md.dist (encIo g) n.1 d n.2).2)) e1).trans (congrArg (fun z : Nat × EncS => ((⟨1, 0, (Md.len (encIo 0) 432 (H.length % 2 ^ pb) l ((encIo 0).bitAt (192 + st) (k != 1) ((encIo 0).bitAt (16 * st + H.length % 2 ^ pb) (k != 0) x).2).2).1, z.1, 0⟩ : Sy), (if st < 7 then 7 else 10), frontR r 3 (z.1 : Nat), z.2)) (e2 _))
    | true =>
      refine (show Md.sym (encIo g) lc lp pb st r H k b l d q x = _ from (if_neg (not_false h1)).trans (if_neg (not_false h2))).trans (Eq.trans ?_ (show Md.sym (encIo 0) lc lp pb st r H k b l d q x = _ from (if_neg (not_false h1)).trans (if_neg (not_false h2))).symm)
      exact congrArg (fun z : (Nat × Nat) × EncS => ((⟨2, 0, z.1.2, 0, z.1.1⟩ : Sy), (if st < 7 then (if z.1.2 = 1 then 9 else 8) else 11), frontR r z.1.1 (r4 r.1 r.2.1 r.2.2.1 r.2.2.2 z.1.1), z.2)) (rept_g g st (H.length % 2 ^ pb) l q ((encIo 0).bitAt (192 + st) (k != 1) ((encIo 0).bitAt (16 * st + H.length % 2 ^ pb) (k != 0) x).2).2)
end Go.Proofs.Ytkckjjchfccdjaa

/- What is decoded does not hang on where the decoder lies. -/
namespace Go.Proofs.Ytkckjjchfccdjaa
set_option maxRecDepth 100000
open Go.RowKit

theorem treeGo_a (gd o cap : Nat) (L : List UInt8) (at_ : Nat) (v : Int) : ∀ (n m : Nat) (x : PD), Md.treeGo (decIo gd o cap L) at_ v n m x = Md.treeGo (decIo 0 0 0 L) at_ v n m x
  | 0, _, _ => rfl
  | n + 1, m, x => treeGo_a gd o cap L at_ v n (2 * m + ((decIo 0 0 0 L).bitAt (at_ + m) (Md.bitOf v n) x).1.toNat) ((decIo 0 0 0 L).bitAt (at_ + m) (Md.bitOf v n) x).2
theorem tree_a (gd o cap : Nat) (L : List UInt8) (at_ n : Nat) (v : Int) (x : PD) : Md.tree (decIo gd o cap L) at_ n v x = Md.tree (decIo 0 0 0 L) at_ n v x :=
  congrArg (fun y : Nat × PD => (y.1 - 2 ^ n, y.2)) (treeGo_a gd o cap L at_ v n 1 x)
theorem revGo_a (gd o cap : Nat) (L : List UInt8) (at_ : Nat) (v : Int) : ∀ (k i m a : Nat) (x : PD), Md.revGo (decIo gd o cap L) at_ v k i m a x = Md.revGo (decIo 0 0 0 L) at_ v k i m a x
  | 0, _, _, _, _ => rfl
  | k + 1, i, m, a, x => revGo_a gd o cap L at_ v k (i + 1) (2 * m + ((decIo 0 0 0 L).bitAt (at_ + m) (Md.bitOf v i) x).1.toNat) (a + ((decIo 0 0 0 L).bitAt (at_ + m) (Md.bitOf v i) x).1.toNat * 2 ^ i) ((decIo 0 0 0 L).bitAt (at_ + m) (Md.bitOf v i) x).2
theorem rev_a (gd o cap : Nat) (L : List UInt8) (at_ n : Nat) (v : Int) (x : PD) : Md.rev (decIo gd o cap L) at_ n v x = Md.rev (decIo 0 0 0 L) at_ n v x := revGo_a gd o cap L at_ v n 0 1 0 x
theorem len_a (gd o cap : Nat) (L : List UInt8) (A p : Nat) (l : Int) (x : PD) : Md.len (decIo gd o cap L) A p l x = Md.len (decIo 0 0 0 L) A p l x := by
  cases h1 : ((decIo 0 0 0 L).bitAt A (decide (8 ≤ l - 2)) x).1 with
  | false => exact (show Md.len (decIo gd o cap L) A p l x = _ from if_pos h1).trans ((congrArg (fun y : Nat × PD => (2 + y.1, y.2)) (tree_a gd o cap L (A + 2 + 8 * p) 3 (l - 2) _)).trans (show Md.len (decIo 0 0 0 L) A p l x = _ from if_pos h1).symm)
  | true =>
    cases h2 : ((decIo 0 0 0 L).bitAt (A + 1) (decide (16 ≤ l - 2)) ((decIo 0 0 0 L).bitAt A (decide (8 ≤ l - 2)) x).2).1 with
    | false => exact (show Md.len (decIo gd o cap L) A p l x = _ from (if_neg (not_false h1)).trans (if_pos h2)).trans ((congrArg (fun y : Nat × PD => (10 + y.1, y.2)) (tree_a gd o cap L (A + 130 + 8 * p) 3 (l - 2 - 8) _)).trans (show Md.len (decIo 0 0 0 L) A p l x = _ from (if_neg (not_false h1)).trans (if_pos h2)).symm)
    | true => exact (show Md.len (decIo gd o cap L) A p l x = _ from (if_neg (not_false h1)).trans (if_neg (not_false h2))).trans ((congrArg (fun y : Nat × PD => (18 + y.1, y.2)) (tree_a gd o cap L (A + 258) 8 (l - 2 - 16) _)).trans (show Md.len (decIo 0 0 0 L) A p l x = _ from (if_neg (not_false h1)).trans (if_neg (not_false h2))).symm)
theorem distTail_a (gd o cap : Nat) (L : List UInt8) (d : Nat) (y : Nat × PD) : distTail (decIo gd o cap L) d y = distTail (decIo 0 0 0 L) d y := by
  by_cases h1 : y.1 < 4
  · exact (show distTail (decIo gd o cap L) d y = _ from if_pos h1).trans (show distTail (decIo 0 0 0 L) d y = _ from if_pos h1).symm
  · by_cases h2 : y.1 < 14
    · exact (show distTail (decIo gd o cap L) d y = _ from (if_neg h1).trans (if_pos h2)).trans ((congrArg (fun z : Nat × PD => ((2 + y.1 % 2) * 2 ^ (y.1 / 2 - 1) + z.1 + 1, z.2)) (rev_a gd o cap L (1716 + 32 * y.1) (y.1 / 2 - 1) (d : Nat) y.2)).trans (show distTail (decIo 0 0 0 L) d y = _ from (if_neg h1).trans (if_pos h2)).symm)
    · exact (show distTail (decIo gd o cap L) d y = _ from (if_neg h1).trans (if_neg h2)).trans ((congrArg (fun z : Nat × PD => ((2 + y.1 % 2) * 2 ^ (y.1 / 2 - 1) + ((decIo 0 0 0 L).plain y.2.2 (d / 16 % 2 ^ (y.1 / 2 - 1 - 4)) (y.1 / 2 - 1 - 4)).1 % 2 ^ (y.1 / 2 - 1 - 4) * 16 + z.1 + 1, z.2)) (rev_a gd o cap L 2164 4 (d : Nat) (y.2.1, ((decIo 0 0 0 L).plain y.2.2 (d / 16 % 2 ^ (y.1 / 2 - 1 - 4)) (y.1 / 2 - 1 - 4)).2))).trans (show distTail (decIo 0 0 0 L) d y = _ from (if_neg h1).trans (if_neg h2)).symm)
theorem dist_a (gd o cap : Nat) (L : List UInt8) (l : Nat) (d : Int) (x : PD) : Md.dist (decIo gd o cap L) l d x = Md.dist (decIo 0 0 0 L) l d x :=
  (dist_tail (decIo gd o cap L) l d x).trans ((distTail_a gd o cap L _ _).trans ((congrArg (fun y => distTail (decIo 0 0 0 L) ((d - 1) % 4294967296).toNat y) (tree_a gd o cap L _ 6 _ x)).trans (dist_tail (decIo 0 0 0 L) l d x).symm))
theorem litGo_a (gd o cap : Nat) (L : List UInt8) (T like : Nat) (v : Int) : ∀ (n m : Nat) (al : Bool) (x : PD), Md.litGo (decIo gd o cap L) T like v n m al x = Md.litGo (decIo 0 0 0 L) T like v n m al x
  | 0, _, _, _ => rfl
  | n + 1, _, _, _ => litGo_a gd o cap L T like v n _ _ _
theorem lit_a (gd o cap : Nat) (L : List UInt8) (lc lp st : Nat) (a : Int) (H : List UInt8) (v : Int) (x : PD) : Md.lit (decIo gd o cap L) lc lp st a H v x = Md.lit (decIo 0 0 0 L) lc lp st a H v x :=
  congrArg (fun y : Nat × PD => (UInt8.ofNat y.1, y.2)) (litGo_a gd o cap L _ _ v 8 1 _ x)
theorem reptTail_a (gd o cap : Nat) (L : List UInt8) (st p : Nat) (l : Int) (w : Nat × PD) : reptTail (decIo gd o cap L) st p l w = reptTail (decIo 0 0 0 L) st p l w := by
  by_cases h1 : w.1 = 0
  · cases h2 : ((decIo 0 0 0 L).bitAt (240 + 16 * st + p) (l != 1) w.2).1 with
    | false => exact (show reptTail (decIo gd o cap L) st p l w = _ from (if_pos h1).trans (if_pos h2)).trans (show reptTail (decIo 0 0 0 L) st p l w = _ from (if_pos h1).trans (if_pos h2)).symm
    | true => exact (show reptTail (decIo gd o cap L) st p l w = _ from (if_pos h1).trans (if_neg (not_false h2))).trans ((congrArg (fun z : Nat × PD => ((0, z.1), z.2)) (len_a gd o cap L 946 p l ((decIo 0 0 0 L).bitAt (240 + 16 * st + p) (l != 1) w.2).2)).trans (show reptTail (decIo 0 0 0 L) st p l w = _ from (if_pos h1).trans (if_neg (not_false h2))).symm)
  · exact (show reptTail (decIo gd o cap L) st p l w = _ from if_neg h1).trans ((congrArg (fun z : Nat × PD => ((w.1, z.1), z.2)) (len_a gd o cap L 946 p l w.2)).trans (show reptTail (decIo 0 0 0 L) st p l w = _ from if_neg h1).symm)
theorem rept_a (gd o cap : Nat) (L : List UInt8) (st p : Nat) (l q : Int) (x : PD) : Md.rept (decIo gd o cap L) st p l q x = Md.rept (decIo 0 0 0 L) st p l q x := reptTail_a gd o cap L st p l (Md.which (decIo 0 0 0 L) st q x)
theorem sym_a (gd o cap : Nat) (L : List UInt8) (lc lp pb st : Nat) (r : R4) (H : List UInt8) (k : Int) (b : UInt8) (l d q : Int) (x : PD) : Md.sym (decIo gd o cap L) lc lp pb st r H k b l d q x = Md.sym (decIo 0 0 0 L) lc lp pb st r H k b l d q x := by
  cases h1 : ((decIo 0 0 0 L).bitAt (16 * st + H.length % 2 ^ pb) (k != 0) x).1 with
  | false => exact (show Md.sym (decIo gd o cap L) lc lp pb st r H k b l d q x = _ from if_pos h1).trans ((congrArg (fun z : UInt8 × PD => ((⟨0, z.1, 0, 0, 0⟩ : Sy), litState st, r, z.2)) (lit_a gd o cap L lc lp st r.1 H (b.toNat : Nat) ((decIo 0 0 0 L).bitAt (16 * st + H.length % 2 ^ pb) (k != 0) x).2)).trans (show Md.sym (decIo 0 0 0 L) lc lp pb st r H k b l d q x = _ from if_pos h1).symm)
  | true =>
    cases h2 : ((decIo 0 0 0 L).bitAt (192 + st) (k != 1) ((decIo 0 0 0 L).bitAt (16 * st + H.length % 2 ^ pb) (k != 0) x).2).1 with
    | false =>
      refine (show Md.sym (decIo gd o cap L) lc lp pb st r H k b l d q x = _ from (if_neg (not_false h1)).trans (if_pos h2)).trans (Eq.trans ?_ (show Md.sym (decIo 0 0 0 L) lc lp pb st r H k b l d q x = _ from (if_neg (not_false h1)).trans (if_pos h2)).symm)
      have e1 := len_a gd o cap L 432 (H.length % 2 ^ pb) l ((decIo 0 0 0 L).bitAt (192 + st) (k != 1) ((decIo 0 0 0 L).bitAt (16 * st + H.length % 2 ^ pb) (k != 0) x).2).2
      have e2 := fun (n : Nat × PD) => dist_a gd o cap L n.1 d n.2
      exact (congrArg (fun n : Nat × PD => ((⟨1, 0, n.1, (Md.dist (decIo gd o cap L) n.1 d n.2).1, 0⟩ : Sy), (if st < 7 then 7 else 10), frontR r 3 ((Md.dist (decIo gd o cap L) n.1 d n.2).1 : Nat), (Md.dist (decIo gd o cap L) n.1 d n.2).2)) e1).trans (congrArg (fun z : Nat × PD => ((⟨1, 0, (Md.len (decIo 0 0 0 L) 432 (H.length % 2 ^ pb) l ((decIo 0 0 0 L).bitAt (192 + st) (k != 1) ((decIo 0 0 0 L).bitAt (16 * st + H.length % 2 ^ pb) (k != 0) x).2).2).1, z.1, 0⟩ : Sy), (if st < 7 then 7 else 10), frontR r 3 (z.1 : Nat), z.2)) (e2 _))
    | true =>
      refine (show Md.sym (decIo gd o cap L) lc lp pb st r H k b l d q x = _ from (if_neg (not_false h1)).trans (if_neg (not_false h2))).trans (Eq.trans ?_ (show Md.sym (decIo 0 0 0 L) lc lp pb st r H k b l d q x = _ from (if_neg (not_false h1)).trans (if_neg (not_false h2))).symm)
      exact congrArg (fun z : (Nat × Nat) × PD => ((⟨2, 0, z.1.2, 0, z.1.1⟩ : Sy), (if st < 7 then (if z.1.2 = 1 then 9 else 8) else 11), frontR r z.1.1 (r4 r.1 r.2.1 r.2.2.1 r.2.2.2 z.1.1), z.2)) (rept_a gd o cap L st (H.length % 2 ^ pb) l q ((decIo 0 0 0 L).bitAt (192 + st) (k != 1) ((decIo 0 0 0 L).bitAt (16 * st + H.length % 2 ^ pb) (k != 0) x).2).2)
end Go.Proofs.Ytkckjjchfccdjaa
