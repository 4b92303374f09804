/- The walk over branch's each. -/
import Derived.Test.YtflklbnebljnmaaBrPage
namespace Go.Proofs.Ytflklbnebljnmaa
open Go.RowKit

/-- A word's four bytes. -/
def bytesOf (low : Bool) (W : Nat) : List UInt8 := if low then [UInt8.ofNat (W % 256), UInt8.ofNat (W / 256 % 256), UInt8.ofNat (W / 65536 % 256), UInt8.ofNat (W / 16777216 % 256)] else [UInt8.ofNat (W / 16777216 % 256), UInt8.ofNat (W / 65536 % 256), UInt8.ofNat (W / 256 % 256), UInt8.ofNat (W % 256)]
theorem bytesOf_length (low : Bool) (W : Nat) : (bytesOf low W).length = 4 := by unfold bytesOf; cases low <;> rfl

theorem b8_of (n : Nat) : B8 (UInt8.ofNat (n % 256)) = .int .u8 ((n % 256 : Nat) : Int) := by
  have : n % 256 < 256 := by omega
  simp [B8, Nat.mod_eq_of_lt this]
theorem set_four (R t : List Value) (a b c d x0 x1 x2 x3 : Value) (i : Nat) (h : R.length = i) : ((((R ++ a :: b :: c :: d :: t).set i x0).set (i + 1) x1).set (i + 2) x2).set (i + 3) x3 = R ++ x0 :: x1 :: x2 :: x3 :: t := by
  subst h; simp
theorem set_fourR (R t : List Value) (a b c d x0 x1 x2 x3 : Value) (i : Nat) (h : R.length = i) : ((((R ++ a :: b :: c :: d :: t).set (i + 3) x3).set (i + 2) x2).set (i + 1) x1).set i x0 = R ++ x0 :: x1 :: x2 :: x3 :: t := by
  subst h; simp

/-- What put leaves. -/
def Put (base : Nat) (w : World) (v : Value) (l : List UInt8) (e : Ending) (w' : World) : Prop := e = .returned (.tuple #[]) ∧ Own base w' v l ∧ Below base w w'

theorem put_own (id : Int) (low : Bool) (hid : (id == 7 || id == 10) = low) (base g n cap c i W : Nat) (R t : List UInt8) (x0 x1 x2 x3 : UInt8) (w : World) (hW : W < 4294967296) (hi : R.length = i) (hg : base ≤ g)
    (hn : n = (R ++ x0 :: x1 :: x2 :: x3 :: t).length) (ho : w.ownsRow base 5 1 (.slice (some ⟨g, 0, none⟩) n cap) n ((R ++ x0 :: x1 :: x2 :: x3 :: t).map B8)) :
    Calls Try.prog 48 #[.int .i64 id, .slice (some ⟨g, i, none⟩) 4 c, .int .u32 (W : Nat)] w (Put base w (.slice (some ⟨g, 0, none⟩) n cap) (R ++ bytesOf low W ++ t)) := by
  have hlen : (R ++ x0 :: x1 :: x2 :: x3 :: t).length = R.length + (t.length + 4) := by simp
  have hc : ∀ j, j < 4 → ∃ x, w.cell? ⟨g, i + j, none⟩ = some x := by
    intro j hj
    have h := ho.cellAt (i + j) (by omega)
    rw [List.getElem?_eq_getElem (by simp; omega)] at h
    exact ⟨_, h⟩
  have hf : ∀ j, w.frozen? ⟨g, i + j, none⟩ = false := fun j => ho.frozenAt _
  obtain ⟨y0, h0⟩ := hc 0 (by omega)
  obtain ⟨y1, h1⟩ := hc 1 (by omega)
  obtain ⟨y2, h2⟩ := hc 2 (by omega)
  obtain ⟨y3, h3⟩ := hc 3 (by omega)
  have f0 := hf 0
  have f1 := hf 1
  have f2 := hf 2
  have f3 := hf 3
  rw [Nat.add_zero] at h0 f0
  have hlast : n = (R ++ bytesOf low W ++ t).length := by rw [hn, hlen]; simp [bytesOf_length]; omega
  cases low with
  | true =>
    refine (put_low id hid g i c W _ _ _ _ y0 y1 y2 y3 w hW rfl rfl rfl rfl h0 h1 h2 h3 f0 f1 f2 f3).mono ?_
    rintro e w' ⟨rfl, rfl⟩
    refine ⟨rfl, ?_, ?_⟩
    · unfold Own
      rw [← hlast]
      unfold four
      have s1 := (ho.stored i (B8 (UInt8.ofNat (W % 256)))).1
      have s2 := (s1.stored (i + 1) (B8 (UInt8.ofNat (W / 256 % 256)))).1
      have s3 := (s2.stored (i + 2) (B8 (UInt8.ofNat (W / 65536 % 256)))).1
      have s4 := (s3.stored (i + 3) (B8 (UInt8.ofNat (W / 16777216 % 256)))).1
      rw [List.map_append, List.map_cons, List.map_cons, List.map_cons, List.map_cons, set_four _ _ _ _ _ _ _ _ _ _ _ (by simpa using hi)] at s4
      rw [b8_of W, b8_of (W / 256), b8_of (W / 65536), b8_of (W / 16777216)] at s4
      have e : (R ++ bytesOf true W ++ t).map B8 = R.map B8 ++ B8 (UInt8.ofNat (W % 256)) :: B8 (UInt8.ofNat (W / 256 % 256)) :: B8 (UInt8.ofNat (W / 65536 % 256)) :: B8 (UInt8.ofNat (W / 16777216 % 256)) :: t.map B8 := by simp [bytesOf]
      rw [e, b8_of W, b8_of (W / 256), b8_of (W / 65536), b8_of (W / 16777216)]
      exact s4
    · exact ((((Below.refl base w).setCell hg _).setCell hg _).setCell hg _).setCell hg _
  | false =>
    refine (put_high id hid g i c W _ _ _ _ y0 y1 y2 y3 w hW rfl rfl rfl rfl h0 h1 h2 h3 f0 f1 f2 f3).mono ?_
    rintro e w' ⟨rfl, rfl⟩
    refine ⟨rfl, ?_, ?_⟩
    · unfold Own
      rw [← hlast]
      unfold fourR
      have s1 := (ho.stored (i + 3) (B8 (UInt8.ofNat (W % 256)))).1
      have s2 := (s1.stored (i + 2) (B8 (UInt8.ofNat (W / 256 % 256)))).1
      have s3 := (s2.stored (i + 1) (B8 (UInt8.ofNat (W / 65536 % 256)))).1
      have s4 := (s3.stored i (B8 (UInt8.ofNat (W / 16777216 % 256)))).1
      rw [List.map_append, List.map_cons, List.map_cons, List.map_cons, List.map_cons, set_fourR _ _ _ _ _ _ _ _ _ _ _ (by simpa using hi)] at s4
      rw [b8_of W, b8_of (W / 256), b8_of (W / 65536), b8_of (W / 16777216)] at s4
      have e : (R ++ bytesOf false W ++ t).map B8 = R.map B8 ++ B8 (UInt8.ofNat (W / 16777216 % 256)) :: B8 (UInt8.ofNat (W / 65536 % 256)) :: B8 (UInt8.ofNat (W / 256 % 256)) :: B8 (UInt8.ofNat (W % 256)) :: t.map B8 := by simp [bytesOf]
      rw [e, b8_of W, b8_of (W / 256), b8_of (W / 65536), b8_of (W / 16777216)]
      exact s4
    · exact ((((Below.refl base w).setCell hg _).setCell hg _).setCell hg _).setCell hg _

/-- What a group becomes. -/
def grp (low : Bool) (cv : Nat → Nat → Nat) (start : Nat) (l : List UInt8) (k : Nat) : List UInt8 :=
  match l.drop (4 * k) with
  | a :: b :: c :: d :: _ => bytesOf low (cv (word low a b c d) ((start + 4 * k) % 4294967296))
  | _ => []
/-- What the first groups become. -/
def pre (low : Bool) (cv : Nat → Nat → Nat) (start : Nat) (l : List UInt8) : Nat → List UInt8
  | 0 => []
  | k + 1 => pre low cv start l k ++ grp low cv start l k
/-- What bytes become. -/
def coded (low : Bool) (cv : Nat → Nat → Nat) (start : Nat) (l : List UInt8) : List UInt8 := pre low cv start l (l.length / 4) ++ l.drop (4 * (l.length / 4))
theorem drop_four (l : List UInt8) (i : Nat) (h : i + 4 ≤ l.length) : ∃ a b c d t, l.drop i = a :: b :: c :: d :: t := by
  have hl : (l.drop i).length = l.length - i := List.length_drop ..
  match hd : l.drop i with
  | a :: b :: c :: d :: t => exact ⟨a, b, c, d, t, rfl⟩
  | [] => rw [hd] at hl; simp at hl; omega
  | [_] => rw [hd] at hl; simp at hl; omega
  | [_, _] => rw [hd] at hl; simp at hl; omega
  | [_, _, _] => rw [hd] at hl; simp at hl; omega
theorem pre_length (low : Bool) (cv : Nat → Nat → Nat) (start : Nat) (l : List UInt8) (k : Nat) (h : 4 * k ≤ l.length) : (pre low cv start l k).length = 4 * k := by
  induction k with
  | zero => rfl
  | succ k ih =>
    obtain ⟨a, b, c, d, t, e⟩ := drop_four l (4 * k) (by omega)
    simp only [pre, grp, e, List.length_append, bytesOf_length, ih (by omega)]; omega
end Go.Proofs.Ytflklbnebljnmaa
