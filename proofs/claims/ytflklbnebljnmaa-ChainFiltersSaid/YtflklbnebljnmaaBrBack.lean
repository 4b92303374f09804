/- What was told on is told back (lists). -/
import Derived.Test.YtflklbnebljnmaaBrCode
namespace Go.Proofs.Ytflklbnebljnmaa
open Go.RowKit

theorem u8_nat (x : UInt8) : UInt8.ofNat x.toNat = x := by simp
theorem bytesOf_word (low : Bool) (a b c d : UInt8) : bytesOf low (word low a b c d) = [a, b, c, d] := by
  have h1 := a.toNat_lt; have h2 := b.toNat_lt; have h3 := c.toNat_lt; have h4 := d.toNat_lt
  cases low with
  | true =>
    simp only [bytesOf, word, if_true]
    rw [show (a.toNat + b.toNat * 256 + c.toNat * 65536 + d.toNat * 16777216) % 256 = a.toNat by omega,
      show (a.toNat + b.toNat * 256 + c.toNat * 65536 + d.toNat * 16777216) / 256 % 256 = b.toNat by omega,
      show (a.toNat + b.toNat * 256 + c.toNat * 65536 + d.toNat * 16777216) / 65536 % 256 = c.toNat by omega,
      show (a.toNat + b.toNat * 256 + c.toNat * 65536 + d.toNat * 16777216) / 16777216 % 256 = d.toNat by omega, u8_nat, u8_nat, u8_nat, u8_nat]
  | false =>
    simp only [bytesOf, word, Bool.false_eq_true, if_false]
    rw [show (d.toNat + c.toNat * 256 + b.toNat * 65536 + a.toNat * 16777216) % 256 = d.toNat by omega,
      show (d.toNat + c.toNat * 256 + b.toNat * 65536 + a.toNat * 16777216) / 256 % 256 = c.toNat by omega,
      show (d.toNat + c.toNat * 256 + b.toNat * 65536 + a.toNat * 16777216) / 65536 % 256 = b.toNat by omega,
      show (d.toNat + c.toNat * 256 + b.toNat * 65536 + a.toNat * 16777216) / 16777216 % 256 = a.toNat by omega, u8_nat, u8_nat, u8_nat, u8_nat]
theorem ofNat_mod (n : Nat) : (UInt8.ofNat (n % 256)).toNat = n % 256 := by
  have : n % 256 < 256 := by omega
  simp [Nat.mod_eq_of_lt this]
theorem bytesOf_four (low : Bool) (W : Nat) (h : W < 4294967296) : ∃ a b c d, bytesOf low W = [a, b, c, d] ∧ word low a b c d = W := by
  cases low with
  | true =>
    refine ⟨_, _, _, _, rfl, ?_⟩
    simp only [word, if_true]
    rw [ofNat_mod W, ofNat_mod (W / 256), ofNat_mod (W / 65536), ofNat_mod (W / 16777216)]; omega
  | false =>
    refine ⟨_, _, _, _, rfl, ?_⟩
    simp only [word, Bool.false_eq_true, if_false]
    rw [ofNat_mod W, ofNat_mod (W / 256), ofNat_mod (W / 65536), ofNat_mod (W / 16777216)]; omega

theorem pre_parts (low : Bool) (cv : Nat → Nat → Nat) (start : Nat) (l : List UInt8) (k n : Nat) (h : k < n) : ∃ t, pre low cv start l n = pre low cv start l k ++ grp low cv start l k ++ t := by
  induction n with
  | zero => omega
  | succ n ih =>
    by_cases e : k = n
    · subst e; exact ⟨[], by simp [pre]⟩
    · obtain ⟨t, ht⟩ := ih (by omega)
      exact ⟨t ++ grp low cv start l n, by simp only [pre, ht, List.append_assoc]⟩
theorem coded_length (low : Bool) (cv : Nat → Nat → Nat) (start : Nat) (l : List UInt8) : (coded low cv start l).length = l.length := by
  unfold coded
  rw [List.length_append, pre_length _ _ _ _ _ (by omega), List.length_drop]; omega
theorem coded_tail (low : Bool) (cv : Nat → Nat → Nat) (start : Nat) (l : List UInt8) : (coded low cv start l).drop (4 * (l.length / 4)) = l.drop (4 * (l.length / 4)) := by
  unfold coded
  exact List.drop_left' (pre_length _ _ _ _ _ (by omega))
theorem pre_back (low : Bool) (cv cv' : Nat → Nat → Nat) (hlt : ∀ W P, W < 4294967296 → cv W P < 4294967296) (hb : ∀ W P, W < 4294967296 → cv' (cv W P) P = W) (start : Nat) (l : List UInt8) (k : Nat) (hk : 4 * k ≤ l.length) :
    pre low cv' start (coded low cv start l) k = l.take (4 * k) := by
  induction k with
  | zero => simp [pre]
  | succ k ih =>
    have hx := ih (by omega)
    obtain ⟨a, b, c, d, t, e⟩ := drop_four l (4 * k) (by omega)
    obtain ⟨u, hu⟩ := pre_parts low cv start l k (l.length / 4) (by omega)
    have hg : grp low cv start l k = bytesOf low (cv (word low a b c d) ((start + 4 * k) % 4294967296)) := by unfold grp; rw [e]
    obtain ⟨a', b', c', d', h1, h2⟩ := bytesOf_four low _ (hlt (word low a b c d) ((start + 4 * k) % 4294967296) (word_lt low a b c d))
    have hd : (coded low cv start l).drop (4 * k) = a' :: b' :: c' :: d' :: (u ++ l.drop (4 * (l.length / 4))) := by
      unfold coded
      rw [hu, hg, h1, List.append_assoc, List.append_assoc, List.drop_left' (pre_length _ _ _ _ _ (by omega))]
      rfl
    have hg2 : grp low cv' start (coded low cv start l) k = [a, b, c, d] := by
      unfold grp
      rw [hd]
      simp only
      rw [h2, hb _ _ (word_lt low a b c d), bytesOf_word]
    simp only [pre, hx, hg2]
    rw [show 4 * (k + 1) = 4 * k + 4 by omega, List.take_add, e]; rfl
theorem coded_back (low : Bool) (cv cv' : Nat → Nat → Nat) (hlt : ∀ W P, W < 4294967296 → cv W P < 4294967296) (hb : ∀ W P, W < 4294967296 → cv' (cv W P) P = W) (start : Nat) (l : List UInt8) : coded low cv' start (coded low cv start l) = l := by
  have h := pre_back low cv cv' hlt hb start l (l.length / 4) (by omega)
  have ht := coded_tail low cv start l
  have hl := coded_length low cv start l
  generalize coded low cv start l = X at *
  unfold coded
  rw [hl, h, ht, List.take_append_drop]
theorem back_on (id : Int) (back : Bool) (start : Nat) (l : List UInt8) : coded (lowOf id) (cvOf id (!back)) start (coded (lowOf id) (cvOf id back) start l) = l :=
  coded_back _ _ _ (fun W P h => cvOf_lt id back W P h) (fun W P h => cvOf_back id back W P h) start l
theorem example_on : coded (lowOf 7) (cvOf 7 false) 0 [0, 0, 0, 235] = [2, 0, 0, 235] := by decide
end Go.Proofs.Ytflklbnebljnmaa
