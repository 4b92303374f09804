/- The model's coder in memory, and the coder of bits that it goes by. -/
import Derived.Test.YtdkimllfpiphgaaMdCode
namespace Go.Proofs.Ytdkimllfpiphgaa
open Go.RowKit

namespace Md
/-- Where a chance lies, by the document's number: in the coder's struct, or in its table of literals. -/
def blkOf (C L i : Nat) : Nat := if i < 2180 then C else L
def offOf (i : Nat) : Nat := if i < 432 then 8 + i else if i < 1844 then 9 + i else if i < 2180 then i - 119 else i - 2180
def adr (C L i : Nat) : Addr := ⟨blkOf C L i, offOf i, none⟩
def used (n i : Nat) : Prop := i < 1716 ∨ (1844 ≤ i ∧ i < 2180 + 768 * n)
theorem blkOf_or (C L i : Nat) : blkOf C L i = C ∨ blkOf C L i = L := by
  unfold blkOf
  split
  · exact .inl rfl
  · exact .inr rfl
theorem adr_inj {C L n i j : Nat} (hne : C ≠ L) (hi : used n i) (hj : used n j) (h : adr C L i = adr C L j) : i = j := by
  unfold used at hi hj
  have h1 : blkOf C L i = blkOf C L j := congrArg Addr.block h
  have h2 : offOf i = offOf j := congrArg Addr.off h
  have h3 : i < 2180 ↔ j < 2180 := by
    unfold blkOf at h1
    by_cases h4 : i < 2180 <;> by_cases h5 : j < 2180 <;> simp [h4, h5] at h1 ⊢
    · exact hne h1
    · exact hne h1.symm
  unfold offOf at h2
  by_cases a1 : i < 432 <;> by_cases a2 : i < 1844 <;> by_cases a3 : i < 2180 <;> by_cases b1 : j < 432 <;> by_cases b2 : j < 1844 <;> by_cases b3 : j < 2180 <;> simp only [a1, a2, a3, b1, b2, b3, if_true, if_false] at h2 <;> omega
theorem adr_far {C L i k : Nat} (hne : C ≠ L) (hk : k < 8 ∨ k = 440) : adr C L i ≠ ⟨C, k, none⟩ := by
  intro h
  have h1 : blkOf C L i = C := congrArg Addr.block h
  have h2 : offOf i = k := congrArg Addr.off h
  have h3 : i < 2180 := by
    unfold blkOf at h1
    by_cases h4 : i < 2180
    · exact h4
    · rw [if_neg h4] at h1; exact absurd h1.symm hne
  unfold offOf at h2
  by_cases a1 : i < 432 <;> by_cases a2 : i < 1844 <;> simp only [a1, a2, h3, if_true, if_false] at h2 <;> omega
def put (P : Nat → Nat) (i p : Nat) : Nat → Nat := fun j => if j = i then p else P j
end Md
/-- A coder of bits, as the model sees it. -/
structure Io where
  σ : Type
  t : TypeId
  g : Nat
  F : Nat
  at_ : World → σ → List Nat → Prop
  ok : σ → Nat → Prop
  bit : σ → Nat → Bool → Bool × σ
  plain : σ → Nat → Nat → Nat × σ
  keep : ∀ {w w' s X}, at_ w s X → w.heap.size ≤ w'.heap.size → (∀ i ∈ X, w'.heap[i]? = w.heap[i]?) → at_ w' s X
  lt : ∀ {w s X}, at_ w s X → ∀ i ∈ X, i < w.heap.size
  okBit : ∀ {s n p b}, ok s (n + 1) → 1 ≤ p → p ≤ 2047 → ok (bit s p b).2 n
  okPlain : ∀ {s n x m}, ok s (n + 32) → m ≤ 32 → ok (plain s x m).2 n
  le : ∀ {s n m}, ok s n → m ≤ n → ok s m
  plainLt : ∀ {s n x m}, ok s n → x < 2 ^ m → (plain s x m).1 < 2 ^ m
  kind : F = 91 ∨ F = 86
  meth : ∀ w, (method 243 t (.pointer (some ⟨g, 0, none⟩)) "Plain").run Try.prog w = .ok (F, .pointer (some ⟨g, 0, none⟩)) w
  code : ∀ (w : World) (s : σ) (X : List Nat) (b off n cp j c : Nat) (one : Bool), at_ w s X → ok s 1 → b ∉ X → j < n → n ≤ cp → cp ≤ 9223372036854775807 → w.cell? ⟨b, off + j, none⟩ = some (.int .u16 (c : Nat)) → w.frozen? ⟨b, off + j, none⟩ = false → c < 2048 →
    Calls Try.prog 33 #[.iface t (.pointer (some ⟨g, 0, none⟩)), .slice (some ⟨b, off, none⟩) n cp, .int .i64 (j : Nat), .bool one] w
      (CodeDone (fun w' X' => at_ w' (bit s (Md.eff c) one).2 X') X ⟨b, off + j, none⟩ (bit s (Md.eff c) one).1 (Rc.next (Md.eff c) (bit s (Md.eff c) one).1) w)
  plain_ : ∀ (w : World) (s : σ) (X : List Nat) (x m : Nat), at_ w s X → ok s 32 → x < 4294967296 → m ≤ 32 →
    Calls Try.prog F #[.pointer (some ⟨g, 0, none⟩), .int .u32 (x : Nat), .int .i64 (m : Nat)] w
      (fun e w' => e = .returned (.int .u32 ((plain s (x % 2 ^ m) m).1 : Nat)) ∧ ∃ X', Only X w w' ∧ at_ w' (plain s (x % 2 ^ m) m).2 X' ∧ ∀ i ∈ X', i ∈ X ∨ w.heap.size ≤ i)
abbrev Io.v (io : Io) : Value := .iface io.t (.pointer (some ⟨io.g, 0, none⟩))
/-- The chances, and the coder of bits. -/
abbrev Io.S (io : Io) : Type := (Nat → Nat) × io.σ
def Io.bitAt (io : Io) (i : Nat) (b : Bool) (x : io.S) : Bool × io.S := ((io.bit x.2 (x.1 i) b).1, (Md.put x.1 i (Rc.next (x.1 i) (io.bit x.2 (x.1 i) b).1), (io.bit x.2 (x.1 i) b).2))

def encIo (g : Nat) : Io where
  σ := Rc.St
  t := 54
  g := g
  F := 91
  at_ w s X := ∃ o cap, X = [g, o] ∧ EncAt w g o cap s
  ok s n := s.ok ∧ 1 + s.k + 2 * n ≤ 140737488355328
  bit s p b := (b, Rc.St.scale 2 (s.pick p b))
  plain s x m := (x, s.plain x m)
  keep := by
    rintro w w' s X ⟨o, cap, rfl, h⟩ _ hk
    exact ⟨o, cap, rfl, h.keep (hk g (by simp)) (hk o (by simp))⟩
  lt := by
    rintro w s X ⟨o, cap, rfl, h⟩ i hi
    simp at hi
    rcases hi with rfl | rfl
    · exact h.lt.1
    · exact h.lt.2
  okBit := by
    rintro s n p b ⟨h1, h2⟩ h3 h4
    obtain ⟨hf, hr⟩ := s.pick_fits p b h1 h3 h4
    have hk := Rc.St.scale_k 2 (s.pick p b)
    rw [Rc.St.pick_k] at hk
    exact ⟨Rc.St.scale_ok 2 _ hf (by omega), by show 1 + (Rc.St.scale 2 (s.pick p b)).k + 2 * n ≤ _; omega⟩
  okPlain := by
    rintro s n x m ⟨h1, h2⟩ h3
    obtain ⟨hf, hk⟩ := s.plain_ok h1 m x
    exact ⟨hf, by show 1 + (s.plain x m).k + 2 * n ≤ _; omega⟩
  le := by
    rintro s n m ⟨h1, h2⟩ h
    exact ⟨h1, by omega⟩
  plainLt := by
    rintro s n x m _ h
    exact h
  kind := .inl rfl
  meth w := by kernel_rfl
  code := by
    rintro w s X b off n cp j c one ⟨o, cap, rfl, h⟩ ⟨h1, h2⟩ hX hj hn hcp hc hf hcl
    exact code_enc g o cap s b off n cp j c one w h h1 (by omega) hX hj hn hcp hc hf hcl
  plain_ := by
    rintro w s X x m ⟨o, cap, rfl, h⟩ ⟨h1, h2⟩ hx hm
    have hp := plain_any g o cap s (BitVec.ofNat 32 x) (m : Nat) w h h1 (by omega)
    have e0 : (BitVec.ofNat 32 x).toNat = x := by simp; omega
    have e1 : many (m : Nat) = m := by unfold many; omega
    rw [e0, e1] at hp
    refine hp.mono ?_
    rintro e w' ⟨rfl, o', cap', hE, hon, ho⟩
    exact ⟨rfl, [g, o'], hon, ⟨o', cap', rfl, hE⟩, by intro i hi; simp at hi; rcases hi with rfl | rfl; exact .inl (by simp); rcases ho with h | h; exact .inl (by simp [h]); exact .inr h⟩
def decIo (g o cap : Nat) (l : List UInt8) : Io where
  σ := Rd.St
  t := 25
  g := g
  F := 86
  at_ w s X := X = [g, o] ∧ DecIs w g o cap l s
  ok s _ := s.ok l ∧ l.length ≤ 140737488355328
  bit s p _ := s.bit l p
  plain s _ m := s.plain l m
  keep := by
    rintro w w' s X ⟨rfl, x, y, h, hD⟩ hs hk
    exact ⟨rfl, x, y, h, hD.keep hs (hk g (by simp)) (hk o (by simp))⟩
  lt := by
    rintro w s X ⟨rfl, x, y, h, hD⟩ i hi
    simp at hi
    rcases hi with rfl | rfl
    · exact hD.glt
    · exact hD.lt
  okBit := by
    rintro s n p b ⟨h1, h2⟩ h3 h4
    exact ⟨Rd.St.bit_ok h1 h3 h4, h2⟩
  okPlain := by
    rintro s n x m ⟨h1, h2⟩ h3
    refine ⟨?_, h2⟩
    have := (Rd.St.rounds_ok h1 m).1
    show (s.plain l m).2.ok l
    unfold Rd.St.plain
    split
    · exact this
    · exact this
  le := by
    rintro s n m h _
    exact h
  plainLt := by
    rintro s n x m ⟨h1, h2⟩ _
    have hp : 0 < 2 ^ m := Nat.pow_pos (by decide)
    have := (Rd.St.rounds_ok h1 m).2
    show (s.plain l m).1 < 2 ^ m
    unfold Rd.St.plain
    split
    · exact hp
    · exact this
  kind := .inr rfl
  meth w := by kernel_rfl
  code := by
    rintro w s X b off n cp j c one ⟨rfl, h⟩ ⟨h1, h2⟩ hX hj hn hcp hc hf hcl
    exact code_dec g o cap l s b off n cp j c one w h h1 h2 hX hj hn hcp hc hf hcl
  plain_ := by
    rintro w s X x m ⟨rfl, h⟩ ⟨h1, h2⟩ hx hm
    have hp := dplain_any g o cap l s (BitVec.ofNat 32 x) (m : Nat) w h h1 h2
    have e0 : (BitVec.ofNat 32 x).toNat = x := by simp; omega
    have e1 : many (m : Nat) = m := by unfold many; omega
    rw [e0, e1] at hp
    refine hp.mono ?_
    rintro e w' ⟨rfl, hE, hon⟩
    exact ⟨rfl, [g, o], (Only.refl _ _).trans hon (by intro i hi; simp at hi; exact .inl (by simp [hi])), ⟨rfl, hE⟩, fun i hi => .inl hi⟩
end Go.Proofs.Ytdkimllfpiphgaa
