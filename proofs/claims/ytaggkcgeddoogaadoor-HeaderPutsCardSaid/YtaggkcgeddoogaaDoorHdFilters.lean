/- Read as a whole, and the contract of ChainFilters. -/
import Derived.Test.YtaggkcgeddoogaaDoorChRRd4

namespace Go.Proofs.YtaggkcgeddoogaaDoor
open Go.RowKit

theorem Bytes.cells4 {w : World} {A : Option Addr} {x0 x1 x2 x3 : UInt8} (h : Bytes w A [x0, x1, x2, x3]) : ∃ b off, A = some ⟨b, off, none⟩ ∧ b < w.heap.size ∧ w.cell? ⟨b, off, none⟩ = some (B8 x0) ∧ w.cell? ⟨b, off + 1, none⟩ = some (B8 x1) ∧ w.cell? ⟨b, off + 2, none⟩ = some (B8 x2) ∧ w.cell? ⟨b, off + 3, none⟩ = some (B8 x3) := by
  obtain ⟨b, off, rfl, hb, hc⟩ := h.addr (by simp)
  exact ⟨b, off, rfl, hb, hc 0 (by simp), hc 1 (by simp), hc 2 (by simp), hc 3 (by simp)⟩
theorem Bytes.cells1 {w : World} {A : Option Addr} {x : UInt8} (h : Bytes w A [x]) : ∃ b off, A = some ⟨b, off, none⟩ ∧ b < w.heap.size ∧ w.cell? ⟨b, off, none⟩ = some (B8 x) := by
  obtain ⟨b, off, rfl, hb, hc⟩ := h.addr (by simp)
  exact ⟨b, off, rfl, hb, hc 0 (by simp)⟩
/-- The lists that Read tells apart. -/
theorem four_ways (l : List UInt8) : l = [] ∨ (∃ x, l = [x]) ∨ (∃ a b c d, l = [a, b, c, d]) ∨ (l.length ≠ 0 ∧ l.length ≠ 1 ∧ l.length ≠ 4) := by
  match l with
  | [] => exact .inl rfl
  | [x] => exact .inr (.inl ⟨x, rfl⟩)
  | [_, _] => exact .inr (.inr (.inr ⟨by simp, by simp, by simp⟩))
  | [_, _, _] => exact .inr (.inr (.inr ⟨by simp, by simp, by simp⟩))
  | [a, b, c, d] => exact .inr (.inr (.inl ⟨a, b, c, d, rfl⟩))
  | _ :: _ :: _ :: _ :: _ :: _ => exact .inr (.inr (.inr ⟨by simp, by simp, by simp⟩))
theorem read_33no (l : List UInt8) (h : l.length ≠ 1) : readL 33 l = none := by
  unfold readL; rw [if_pos rfl]
  match l with
  | [] => rfl
  | [x] => simp at h
  | _ :: _ :: _ => rfl
theorem read_3no (l : List UInt8) (h : l.length ≠ 1) : readL 3 l = none := by
  unfold readL; rw [if_neg (by omega), if_pos rfl]
  match l with
  | [] => rfl
  | [x] => simp at h
  | _ :: _ :: _ => rfl
theorem read_no (id : Int) (h33 : id ≠ 33) (h3 : id ≠ 3) (l : List UInt8) (h0 : l.length ≠ 0) (h4 : l.length ≠ 4) : readL id l = none := by
  unfold readL; rw [if_neg h33, if_neg h3]
  split
  · match l with
    | [] => simp at h0
    | [_] => rfl
    | [_, _] => rfl
    | [_, _, _] => rfl
    | [_, _, _, _] => simp at h4
    | _ :: _ :: _ :: _ :: _ :: _ => rfl
  · rfl
theorem dictN_zero (x : Nat) : dictN x = 0 ↔ 40 < x := by
  constructor
  · intro h
    rcases Nat.lt_or_ge 40 x with h' | h'
    · exact h'
    · have : ∀ k, k < 41 → dictN k ≠ 0 := by decide
      exact absurd h (this x (by omega))
  · intro h; unfold dictN; rw [if_pos h]
theorem word_mod (a b c d : UInt8) : word true a b c d % 4 = a.toNat % 4 := by
  simp only [word, if_true]; omega

theorem cread_any (id : Int) (A : Option Addr) (l : List UInt8) (c : Nat) (w : World) (hB : Bytes w A l) :
    Calls Tryd.prog 58 #[.int .i64 id, .slice A l.length c] w (OutF w (.int .i64 0) (.int .i64 5) (readL id l)) := by
  by_cases h33 : id = 33
  · subst h33
    by_cases h1 : l.length = 1
    · obtain ⟨x, rfl⟩ : ∃ x, l = [x] := by
        match l, h1 with
        | [x], _ => exact ⟨x, rfl⟩
      obtain ⟨b, off, rfl, hb, hx⟩ := hB.cells1
      have e : readL 33 [x] = if x.toNat ≤ 40 then some ⟨33, dictN x.toNat⟩ else none := rfl
      rw [e]
      by_cases h : x.toNat ≤ 40
      · rw [if_pos h]; exact cread_33 b off c x h w hx hb
      · rw [if_neg h]; exact cread_33big b off c x (by omega) w hx hb
    · rw [read_33no l h1]; exact cread_33no A _ c h1 w
  by_cases h3 : id = 3
  · subst h3
    by_cases h1 : l.length = 1
    · obtain ⟨x, rfl⟩ : ∃ x, l = [x] := by
        match l, h1 with
        | [x], _ => exact ⟨x, rfl⟩
      obtain ⟨b, off, rfl, hb, hx⟩ := hB.cells1
      exact cread_3 b off c x w hx hb
    · rw [read_3no l h1]; exact cread_3no A _ c h1 w
  cases hi : isIdB id with
  | false =>
    have e : readL id l = none := by unfold readL; rw [if_neg h33, if_neg h3, if_neg (by simp [hi])]
    rw [e]; exact cread_none id h33 h3 hi A _ c w
  | true =>
    rcases four_ways l with rfl | ⟨x, rfl⟩ | ⟨x0, x1, x2, x3, rfl⟩ | ⟨h0, _, h4⟩
    · have e : readL id [] = some ⟨id, 0⟩ := by unfold readL; rw [if_neg h33, if_neg h3, if_pos hi]
      rw [e]; exact cread_0 id h33 h3 hi A c w
    · rw [read_no id h33 h3 [x] (by simp) (by simp)]; exact cread_no id h33 h3 hi A _ c (by simp) (by simp) w
    · obtain ⟨b, off, rfl, hb, k0, k1, k2, k3⟩ := hB.cells4
      have e : readL id [x0, x1, x2, x3] = if x0.toNat % 4 = 0 then some ⟨id, word true x0 x1 x2 x3⟩ else none := by unfold readL; rw [if_neg h33, if_neg h3, if_pos hi]
      rw [e]
      by_cases h : x0.toNat % 4 = 0
      · rw [if_pos h]; exact cread_4 id h33 h3 hi b off c x0 x1 x2 x3 h w hb k0 k1 k2 k3
      · rw [if_neg h]; exact cread_4no id h33 h3 hi b off c x0 h w k0 hb
    · rw [read_no id h33 h3 l h0 h4]; exact cread_no id h33 h3 hi A _ c h0 h4 w

theorem rread_any (id : Int) (A : Option Addr) (l : List UInt8) (c : Nat) (w : World) (hB : Bytes w A l) :
    Calls Tryd.prog 65 #[.int .i64 id, .slice A l.length c] w (OutF w (.bool true) (.bool false) (readL id l)) := by
  by_cases h33 : id = 33
  · subst h33
    by_cases h1 : l.length = 1
    · obtain ⟨x, rfl⟩ : ∃ x, l = [x] := by
        match l, h1 with
        | [x], _ => exact ⟨x, rfl⟩
      obtain ⟨b, off, rfl, hb, hx⟩ := hB.cells1
      have e : readL 33 [x] = if x.toNat ≤ 40 then some ⟨33, dictN x.toNat⟩ else none := rfl
      rw [e]
      have h := rread_33 b off c x (dictN x.toNat) (dictN_lt _) (rdict_nat x.toNat) w hx hb
      by_cases hx40 : x.toNat ≤ 40
      · rw [if_neg (by rw [dictN_zero]; omega)] at h; rw [if_pos hx40]; exact h
      · rw [if_pos (by rw [dictN_zero]; omega)] at h; rw [if_neg hx40]; exact h
    · rw [read_33no l h1]; exact rread_33no A _ c h1 w
  by_cases h3 : id = 3
  · subst h3
    by_cases h1 : l.length = 1
    · obtain ⟨x, rfl⟩ : ∃ x, l = [x] := by
        match l, h1 with
        | [x], _ => exact ⟨x, rfl⟩
      obtain ⟨b, off, rfl, hb, hx⟩ := hB.cells1
      exact rread_3 b off c x w hx hb
    · rw [read_3no l h1]; exact rread_3no A _ c h1 w
  rcases four_ways l with rfl | ⟨x, rfl⟩ | ⟨x0, x1, x2, x3, rfl⟩ | ⟨h0, _, h4⟩
  · have e : readL id [] = if isIdB id = true then some ⟨id, 0⟩ else none := by unfold readL; rw [if_neg h33, if_neg h3]
    have h := rread_0 id h33 h3 A c w
    rw [e]
    by_cases hi : isIdB id = true
    · rw [if_pos hi] at h ⊢; exact h
    · rw [if_neg hi] at h ⊢; exact h
  · rw [read_no id h33 h3 [x] (by simp) (by simp)]; exact rread_no id h33 h3 A _ c (by simp) (by simp) w
  · obtain ⟨b, off, rfl, hb, k0, k1, k2, k3⟩ := hB.cells4
    have h := rread_4 id h33 h3 b off c x0 x1 x2 x3 w hb k0 k1 k2 k3
    have e : readL id [x0, x1, x2, x3] = if isIdB id = true then (if x0.toNat % 4 = 0 then some ⟨id, word true x0 x1 x2 x3⟩ else none) else none := by unfold readL; rw [if_neg h33, if_neg h3]
    rw [e]
    have hm : mayB id (word true x0 x1 x2 x3) = (isIdB id && decide (x0.toNat % 4 = 0)) := by rw [mayB_is, word_mod]; simp [Bool.beq_eq_decide_eq]
    rw [hm] at h
    by_cases hi : isIdB id = true
    · rw [if_pos hi]
      by_cases h0 : x0.toNat % 4 = 0
      · rw [if_pos (by simp [hi, h0])] at h; rw [if_pos h0]; exact h
      · rw [if_neg (by simp [h0])] at h; rw [if_neg h0]; exact h
    · rw [if_neg (by simp [hi])] at h; rw [if_neg hi]; exact h
  · rw [read_no id h33 h3 l h0 h4]; exact rread_no id h33 h3 A _ c h0 h4 w

theorem ofNat_mod (n : Nat) : (UInt8.ofNat (n % 256)).toNat = n % 256 := by
  have : n % 256 < 256 := by omega
  simp [Nat.mod_eq_of_lt this]
theorem bytesOf_four (low : Bool) (W : Nat) (h : W < 4294967296) : ∃ a b c d, bytesOf low W = [a, b, c, d] ∧ word low a b c d = W := by
  cases low with
  | true =>
    refine ⟨_, _, _, _, rfl, ?_⟩
    simp only [word, if_true]
    rw [ofNat_mod W, ofNat_mod (W / 256), ofNat_mod (W / 65536), ofNat_mod (W / 16777216)]; omega
  | false =>
    refine ⟨_, _, _, _, rfl, ?_⟩
    simp only [word, Bool.false_eq_true, if_false]
    rw [ofNat_mod W, ofNat_mod (W / 256), ofNat_mod (W / 65536), ofNat_mod (W / 16777216)]; omega

theorem ofNat_small (k : Nat) (h : k < 256) : (UInt8.ofNat k).toNat = k := by simp; omega
/-- What was put is read. -/
theorem read_bytes (f : Fil) (hok : f.ok) (l : List UInt8) (h : bytesL f = some l) : readL f.id l = some f := by
  obtain ⟨id, n⟩ := f
  obtain ⟨_, _, hn⟩ := hok
  simp only at hn
  unfold bytesL at h
  simp only at h ⊢
  by_cases h33 : id = 33
  · subst h33
    rw [if_pos rfl] at h
    by_cases hd : dictN (codeN n) = n
    · rw [if_pos hd] at h
      injection h with h
      subst h
      have hle := codeN_le n
      show (if (UInt8.ofNat (codeN n)).toNat ≤ 40 then some (⟨33, dictN (UInt8.ofNat (codeN n)).toNat⟩ : Fil) else none) = _
      rw [ofNat_small _ (by omega), if_pos hle, hd]
    · rw [if_neg hd] at h; cases h
  · rw [if_neg h33] at h
    by_cases hf : fitB ⟨id, n⟩ = true
    · rw [if_pos hf] at h
      rcases fit_id _ hf with ⟨e, g1, g2⟩ | ⟨e, g1, g2⟩
      · simp only at e g1 g2
        subst e
        rw [if_pos rfl] at h
        injection h with h
        subst h
        show some (⟨3, (UInt8.ofNat (n - 1)).toNat + 1⟩ : Fil) = _
        rw [ofNat_small _ (by omega), show n - 1 + 1 = n by omega]
      · simp only at e g1 g2
        have hi : isIdB id = true := by unfold isId at g1; unfold isIdB; simp; omega
        rw [if_neg e] at h
        by_cases h0 : n = 0
        · subst h0
          rw [if_pos rfl] at h
          injection h with h
          subst h
          unfold readL; rw [if_neg h33, if_neg e, if_pos hi]
        · rw [if_neg h0] at h
          injection h with h
          subst h
          obtain ⟨a, b, c, d, h1, h2⟩ := bytesOf_four true n hn
          rw [h1]
          have hm := word_mod a b c d
          rw [h2] at hm
          unfold readL; rw [if_neg h33, if_neg e, if_pos hi]
          simp only
          rw [if_pos (by omega), h2]
    · rw [if_neg hf] at h; cases h
theorem readL_lt (id : Int) (l : List UInt8) (g : Fil) (h : readL id l = some g) : g.n < 4294967296 := by
  unfold readL at h
  split at h
  · split at h
    · split at h
      · injection h with h; subst h; exact dictN_lt _
      · cases h
    · cases h
  · split at h
    · split at h
      · rename_i x; injection h with h; subst h; have := x.toNat_lt; simp only; omega
      · cases h
    · split at h
      · split at h
        · injection h with h; subst h; simp
        · split at h
          · injection h with h; subst h; exact word_lt true _ _ _ _
          · cases h
        · cases h
      · cases h
end Go.Proofs.YtaggkcgeddoogaaDoor
