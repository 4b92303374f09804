/- Plain mathematics of differences: bytes as differences at a distance, and back. -/
namespace Go.Proofs.Ytflklbnebljnmaa.Delta

/-- The byte at a place of a list, 0 beyond it. -/
abbrev at_ (l : List UInt8) (i : Nat) : UInt8 := l.getD i 0

/-- The byte the distance back, 0 if there is none. -/
def back (l : List UInt8) (d k : Nat) : UInt8 := if d ≤ k then at_ l (k - d) else 0

/-- The first k differences. -/
def encTo (l : List UInt8) (d k : Nat) : List UInt8 := (List.range k).map fun i => at_ l i - back l d i
/-- The first k bytes whose differences are l. -/
def decTo (l : List UInt8) (d : Nat) : Nat → List UInt8
  | 0 => []
  | k + 1 => decTo l d k ++ [at_ l k + back (decTo l d k) d k]
def enc (l : List UInt8) (d : Nat) : List UInt8 := encTo l d l.length
def dec (l : List UInt8) (d : Nat) : List UInt8 := decTo l d l.length

theorem decTo_succ (l : List UInt8) (d k : Nat) : decTo l d (k + 1) = decTo l d k ++ [at_ l k + back (decTo l d k) d k] := rfl
theorem encTo_length (l : List UInt8) (d k : Nat) : (encTo l d k).length = k := by simp [encTo]
theorem decTo_length (l : List UInt8) (d k : Nat) : (decTo l d k).length = k := by
  induction k with
  | zero => rfl
  | succ k ih => simp [decTo, ih]
theorem enc_length (l : List UInt8) (d : Nat) : (enc l d).length = l.length := encTo_length _ _ _
theorem dec_length (l : List UInt8) (d : Nat) : (dec l d).length = l.length := decTo_length _ _ _

theorem encTo_succ (l : List UInt8) (d k : Nat) : encTo l d (k + 1) = encTo l d k ++ [at_ l k - back l d k] := by
  simp [encTo, List.range_succ]

theorem at_append_left (a b : List UInt8) (i : Nat) (h : i < a.length) : at_ (a ++ b) i = at_ a i := by
  simp [at_, List.getD, List.getElem?_append_left h]
theorem at_append_last (a : List UInt8) (x : UInt8) : at_ (a ++ [x]) a.length = x := by
  simp [at_, List.getD]

/-- What is known of the bytes does not change as more are made. -/
theorem decTo_at (l : List UInt8) (d i k : Nat) (h : i < k) : ∀ n, k ≤ n → at_ (decTo l d n) i = at_ (decTo l d k) i := by
  intro n hn
  induction n with
  | zero => omega
  | succ n ih =>
    rcases Nat.lt_or_ge n k with h2 | h2
    · obtain rfl : k = n + 1 := by omega
      rfl
    · rw [← ih h2, decTo, at_append_left _ _ _ (by rw [decTo_length]; omega)]
theorem dec_at (l : List UInt8) (d i : Nat) (hd1 : 1 ≤ d) (h : i < l.length) : at_ (dec l d) i = at_ l i + back (dec l d) d i := by
  have h1 : at_ (dec l d) i = at_ (decTo l d (i + 1)) i := decTo_at l d i (i + 1) (by omega) l.length (by omega)
  have h2 : at_ (decTo l d (i + 1)) i = at_ l i + back (decTo l d i) d i := by
    have := at_append_last (decTo l d i) (at_ l i + back (decTo l d i) d i)
    rw [decTo_length] at this
    rw [decTo]; exact this
  have h3 : back (decTo l d i) d i = back (dec l d) d i := by
    unfold back
    by_cases hd : d ≤ i
    · rw [if_pos hd, if_pos hd]
      exact (decTo_at l d (i - d) i (by omega) l.length (by omega)).symm
    · rw [if_neg hd, if_neg hd]
  rw [h1, h2, h3]
theorem enc_at (l : List UInt8) (d i : Nat) (h : i < l.length) : at_ (enc l d) i = at_ l i - back l d i := by
  simp [at_, enc, encTo, List.getD, h]

theorem ext_at (a b : List UInt8) (hl : a.length = b.length) (h : ∀ i, i < a.length → at_ a i = at_ b i) : a = b := by
  apply List.ext_getElem hl
  intro i h1 h2
  have := h i h1
  simpa [at_, List.getD, h1, h2] using this

theorem dec_enc (l : List UInt8) (d : Nat) (hd : 1 ≤ d) : dec (enc l d) d = l := by
  have hl : (dec (enc l d) d).length = l.length := by rw [dec_length, enc_length]
  have key : ∀ i, i < l.length → at_ (dec (enc l d) d) i = at_ l i := by
    intro i
    induction i using Nat.strongRecOn with
    | _ i ih =>
      intro hi
      have hb : back (dec (enc l d) d) d i = back l d i := by
        unfold back
        by_cases h : d ≤ i
        · rw [if_pos h, if_pos h, ih (i - d) (by omega) (by omega)]
        · rw [if_neg h, if_neg h]
      rw [dec_at _ _ _ hd (by rw [enc_length]; exact hi), enc_at _ _ _ hi, hb, UInt8.sub_add_cancel]
  exact ext_at _ _ hl (fun i hi => key i (by rw [← hl]; exact hi))
theorem enc_dec (l : List UInt8) (d : Nat) (hd : 1 ≤ d) : enc (dec l d) d = l := by
  have hl : (enc (dec l d) d).length = l.length := by rw [enc_length, dec_length]
  refine ext_at _ _ hl (fun i hi => ?_)
  have hi' : i < l.length := by rw [← hl]; exact hi
  rw [enc_at _ _ _ (by rw [dec_length]; exact hi'), dec_at _ _ _ hd hi', UInt8.add_sub_cancel]

/-- The ring of the last 256 bytes: what lies any distance back. -/
def Win (o : List UInt8) (f : Nat → UInt8) : Prop := ∀ d, 1 ≤ d → d ≤ 256 → f ((o.length + 256 - d) % 256) = back o d o.length
theorem Win.nil : Win [] (fun _ => 0) := by
  intro d h1 _; unfold back; rw [if_neg (by simp; omega)]
theorem Win.snoc {o : List UInt8} {f : Nat → UInt8} (h : Win o f) (x : UInt8) : Win (o ++ [x]) (fun j => if j = o.length % 256 then x else f j) := by
  intro d h1 h2
  rw [List.length_append, List.length_singleton]
  show (if (o.length + 1 + 256 - d) % 256 = o.length % 256 then x else f ((o.length + 1 + 256 - d) % 256)) = _
  by_cases e : d = 1
  · subst e
    rw [if_pos (by omega)]
    unfold back
    rw [if_pos (by omega), Nat.add_sub_cancel, at_append_last]
  · rw [if_neg (by omega)]
    have := h (d - 1) (by omega) (by omega)
    rw [show o.length + 256 - (d - 1) = o.length + 1 + 256 - d by omega] at this
    rw [this]
    unfold back
    by_cases hd : d ≤ o.length + 1
    · rw [if_pos hd, if_pos (by omega), at_append_left _ _ _ (by omega), show o.length + 1 - d = o.length - (d - 1) by omega]
    · rw [if_neg hd, if_neg (by omega)]
theorem back_take (l : List UInt8) (d k : Nat) (hd : 1 ≤ d) : back (l.take k) d k = back l d k := by
  unfold back
  by_cases h : d ≤ k
  · rw [if_pos h, if_pos h]
    simp [at_, List.getD, show k - d < k by omega]
  · rw [if_neg h, if_neg h]
end Go.Proofs.Ytflklbnebljnmaa.Delta
