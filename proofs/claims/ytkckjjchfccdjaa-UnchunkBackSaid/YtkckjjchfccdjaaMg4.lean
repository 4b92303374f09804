/- Several texts in one: RcPlain, RcKept, RdMath, RdDec. -/
import Derived.Test.YtkckjjchfccdjaaMg3
import Derived.Deep.DeepCutAuto
import Derived.Test.YtkckjjchfccdjaaMg1
import Derived.Deep.RegionHeld3
/- The walk over the coder's Plain. -/
namespace Go.Proofs.Ytkckjjchfccdjaa
set_option maxRecDepth 100000
open Go.RowKit

def PlainDone (w : World) (g o : Nat) (x : Nat) (t : Rc.St) (e : Ending) (w' : World) : Prop := e = .returned (.int .u32 (x : Nat)) ∧ Shifted w g o t w'

/-- How many bits count. -/
def many (n : Int) : Nat := (min (max n 0) 32).toNat

theorem mod_bit (x m j : Nat) (h : j < m) : x % 2 ^ m / 2 ^ j % 2 = x / 2 ^ j % 2 := by
  have e : 2 ^ m = 2 ^ j * 2 ^ (m - j) := by rw [← Nat.pow_add, show j + (m - j) = m by omega]
  rw [e, Nat.mod_mul_right_div_self]
  obtain ⟨d, hd⟩ : ∃ d, m - j = d + 1 := ⟨m - j - 1, by omega⟩
  rw [hd, Nat.pow_succ, Nat.mod_mul_left_mod]
theorem bit_test (x j : Nat) (hx : x < 2 ^ 32) : (bits .and .u32 ((x : Int) / 2 ^ j) 1 == 1) = (x / 2 ^ j % 2 == 1) := by
  have hle : x / 2 ^ j ≤ x := Nat.div_le_self _ _
  have e : (x : Int) / 2 ^ j = ((x / 2 ^ j : Nat) : Int) := by simp
  rw [e, show (1 : Int) = ((1 : Nat) : Int) from rfl, u32_and_nat _ _ (by omega) (by omega), nat_mask1, Bool.eq_iff_iff]
  simp; omega

theorem masked (x t : Nat) (hx : x < 2 ^ 32) (ht : t ≤ 32) : bits .and .u64 (x : Int) (IntKind.u64.wrap (IntKind.u64.wrap (2 ^ t) - 1)) % 4294967296 = ((x % 2 ^ t : Nat) : Int) := by
  have h1 : 1 ≤ 2 ^ t := Nat.one_le_two_pow
  have h2 : 2 ^ t ≤ 2 ^ 32 := Nat.pow_le_pow_right (by omega) ht
  have e : IntKind.u64.wrap (IntKind.u64.wrap (2 ^ t) - 1) = ((2 ^ t - 1 : Nat) : Int) := by
    rw [show (2 : Int) ^ t = ((2 ^ t : Nat) : Int) by simp, IntKind.wrap_u64, IntKind.wrap_u64]
    omega
  have hle : x % 2 ^ t ≤ x := Nat.mod_le _ _
  rw [e, u64_and_nat _ _ (by omega) (by omega), Nat.and_two_pow_sub_one_eq_mod]
  omega

set_option maxRecDepth 100000 in
set_option maxHeartbeats 1000000 in
theorem plain_any (g o cap : Nat) (s : Rc.St) (x : BitVec 32) (n : Int) (w : World) (hE : EncAt w g o cap s) (hs : s.ok) (hk : 1 + s.k + 40 ≤ 140737488355328) :
    Calls Try.prog 129 #[.pointer (some ⟨g, 0, none⟩), .int .u32 x.toNat, .int .i64 n] w
      (PlainDone w g o (x.toNat % 2 ^ many n) (s.plain (x.toNat % 2 ^ many n) (many n))) := by
  go_enter Try.func129, Try.ntmps129
  go_upto_region 3 with (fail)
  go_cut [2] (fun s2 wx => w = wx ∧ s2 = .int .i64 ((many n : Nat) : Int))
  case first =>
    go_wp2_with fail
    all_goals
      go_meet
      refine ⟨rfl, congrArg (Value.int .i64) ?_⟩
      unfold many
      omega
  case rest =>
    obtain ⟨rfl, rfl⟩ := hcut
    have hm : many n ≤ 32 := by unfold many; omega
    generalize many n = m at *
    go_wp2_with fail
    generalize hX : x.toNat % 2 ^ m = X at *
    have HX := Lib.hid hX
    clear hX
    go_loopw [7] (fun i wr => ∃ (t o' cap' : Nat), t ≤ m ∧ i = .int .i64 ((m : Int) - 1 - (t : Int)) ∧ EncAt wr g o' cap' (s.plain (X / 2 ^ (m - t)) t) ∧ Only [g, o] w wr ∧ (o' = o ∨ w.heap.size ≤ o')) (fun i _ => (intOf i + 1).toNat)
    case atStart => exact ⟨0, o, cap, by omega, by go_num, hE, Only.refl _ _, .inl rfl⟩
    case round =>
      obtain ⟨t, o', cap', ht, rfl, hT, hon, ho'⟩ := hrel
      obtain ⟨hpok, hpk⟩ := s.plain_ok hs t (X / 2 ^ (m - t))
      by_cases hlt : t < m
      · obtain ⟨j, hj⟩ : ∃ j : Nat, j = m - 1 - t := ⟨_, rfl⟩
        have hji : (m : Int) - 1 - (t : Int) = (j : Int) := by omega
        have hnext : s.plain (X / 2 ^ (m - (t + 1))) (t + 1) = Rc.St.scale 1 ((s.plain (X / 2 ^ (m - t)) t).half (x.toNat / 2 ^ j % 2 == 1)) := by
          have e1 : m - (t + 1) = j := by omega
          have e2 : X / 2 ^ j / 2 = X / 2 ^ (m - t) := by rw [Nat.div_div_eq_div_mul, ← Nat.pow_succ, show m - t = j.succ by omega]
          have e3 : X / 2 ^ j % 2 = x.toNat / 2 ^ j % 2 := by rw [← HX.out]; exact mod_bit _ _ _ (by omega)
          rw [e1, Rc.St.plain, e2, e3]
        have HN := Lib.hid hnext
        generalize s.plain (X / 2 ^ (m - t)) t = p at *
        have c1 := cell1_of hT.blk
        have f1 := frozen_of_row wr g 1 _ _ hT.blk
        have hbit := bit_test x.toNat j x.isLt
        have hj32 : j < 32 := by omega
        generalize (x.toNat / 2 ^ j % 2 == 1) = b at *
        obtain ⟨hhf, hhr⟩ := p.half_fits b hpok
        clear hnext hE
        rw [hji]
        have HJ := Lib.hid hj
        have HJI := Lib.hid hji
        clear hj hji
        have hr2 : (p.r : Int) / 2 = ((p.r / 2 : Nat) : Int) := by omega
        have hpr := hpok.1.2
        have hr2l : p.r / 2 < 4294967296 := by omega
        generalize hrh : p.r / 2 = rh at *
        have HRH := Lib.hid hrh
        clear hrh
        have hsize := hon.size
        cases b with
        | false =>
          have hph : p.half false = ⟨p.k, p.v, rh⟩ := by rw [← HRH.out]; rfl
          rw [hph] at hhf hhr HN
          have hE1 : EncAt (wr.setCell ⟨g, 1, none⟩ (.int .u32 ((rh : Nat) : Int))) g o' cap' ⟨p.k, p.v, rh⟩ := ⟨blk_set1 hT.blk _, own_other hT.own hT.ne _, hT.ne⟩
          have hsh := Lib.hid (shift_any 1 g o' cap' ⟨p.k, p.v, rh⟩ _ hE1 hhf (by show 1 + p.k + 1 ≤ _; omega) (by show 16777216 ≤ rh * 256 ^ 1; have : 8388608 ≤ rh := hhr; omega))
          go_wp2_with fail
          refine hsh.out.mono ?_
          rintro e w2 ⟨rfl, o2, cap2, hE2, hon2, ho2⟩
          go_wp2_with fail
          go_roundw
          case rel =>
            have hj := HJ.out
            refine ⟨t + 1, o2, cap2, by omega, congrArg (Value.int .i64) (by omega), by rw [HN.out]; exact hE2, (hon.setCell (p := ⟨g, 1, none⟩) (.inl (by simp)) _).trans hon2 ?_, ?_⟩
            · intro i hi; simp at hi; rcases hi with rfl | rfl
              · exact .inl (by simp)
              · rcases ho' with h | h
                · exact .inl (by simp [h])
                · exact .inr h
            · rcases ho2 with h | h
              · rw [h]; exact ho'
              · exact .inr (by simp at h; omega)
          case measure => have hj := HJ.out; simp [intOf] <;> omega
        | true =>
          have hph : p.half true = ⟨p.k, p.v + rh, rh⟩ := by rw [← HRH.out]; rfl
          rw [hph] at hhf hhr HN
          have hE0 : EncAt (wr.setCell ⟨g, 1, none⟩ (.int .u32 ((rh : Nat) : Int))) g o' cap' ⟨p.k, p.v, rh⟩ := ⟨blk_set1 hT.blk _, own_other hT.own hT.ne _, hT.ne⟩
          have hadd := Lib.hid (add_any g o' cap' ⟨p.k, p.v, rh⟩ rh _ hE0 hr2l (by show 1 + p.k ≤ _; omega))
          go_wp2_with fail
          refine hadd.out.mono ?_
          rintro e w1 ⟨rfl, hE1, hona⟩
          have hsh := Lib.hid (shift_any 1 g o' cap' ⟨p.k, p.v + rh, rh⟩ _ hE1 hhf (by show 1 + p.k + 1 ≤ _; omega) (by show 16777216 ≤ rh * 256 ^ 1; have : 8388608 ≤ rh := hhr; omega))
          go_wp2_with fail
          refine hsh.out.mono ?_
          rintro e w2 ⟨rfl, o2, cap2, hE2, hon2, ho2⟩
          go_wp2_with fail
          have hsa := hona.size
          have hin : ∀ i ∈ [g, o'], i ∈ [g, o] ∨ w.heap.size ≤ i := by
            intro i hi; simp at hi; rcases hi with rfl | rfl
            · exact .inl (by simp)
            · rcases ho' with h | h
              · exact .inl (by simp [h])
              · exact .inr h
          go_roundw
          case rel =>
            have hj := HJ.out
            refine ⟨t + 1, o2, cap2, by omega, congrArg (Value.int .i64) (by omega), by rw [HN.out]; exact hE2, ((hon.setCell (p := ⟨g, 1, none⟩) (.inl (by simp)) _).trans hona hin).trans hon2 hin, ?_⟩
            rcases ho2 with h | h
            · rw [h]; exact ho'
            · exact .inr (by simp at hsa; omega)
          case measure => have hj := HJ.out; simp [intOf] <;> omega
      · have htm : t = m := by omega
        subst htm
        have hp0 : X / 2 ^ (t - t) = X := by simp
        rw [hp0] at hT
        go_wp2_with fail
        go_ret
        exact ⟨by rw [masked _ _ x.isLt hm, HX.out]; rfl, o', cap', hT, hon, ho'⟩
end Go.Proofs.Ytkckjjchfccdjaa

/- What is kept of the coder (for a seat without the coder's own examples). -/
namespace Go.Proofs.Ytkckjjchfccdjaa
set_option maxRecDepth 100000
open Go.RowKit

theorem own_keep {w w' : World} {e o n cap : Nat} {xs : List Value} (h : w.ownsRow 0 e 1 (.slice (some ⟨o, 0, none⟩) n cap) n xs) (ho : w'.heap[o]? = w.heap[o]?) : w'.ownsRow 0 e 1 (.slice (some ⟨o, 0, none⟩) n cap) n xs := by
  rcases h with ⟨h1, h2 | ⟨g, cap', cur, h2, h3, h4, h5⟩⟩
  · exact ⟨h1, .inl h2⟩
  · injection h2 with e1 e2 e3
    injection e1 with e1
    injection e1 with e1
    subst e1 e3
    exact ⟨h1, .inr ⟨o, cap, cur, rfl, h3, ho.trans h4, h5⟩⟩
theorem EncAt.keep {w w' : World} {g o cap : Nat} {s : Rc.St} (h : EncAt w g o cap s) (hg : w'.heap[g]? = w.heap[g]?) (ho : w'.heap[o]? = w.heap[o]?) : EncAt w' g o cap s :=
  ⟨hg.trans h.blk, own_keep h.own ho, h.ne⟩
theorem EncAt.lt {w : World} {g o cap : Nat} {s : Rc.St} (h : EncAt w g o cap s) : g < w.heap.size ∧ o < w.heap.size :=
  ⟨block_lt_of_cell (cell0_of h.blk), (h.own.lt o rfl).2⟩
theorem EncAt.below {w w' : World} {g o cap : Nat} {s : Rc.St} (h : EncAt w g o cap s) (hb : Below w.heap.size w w') : EncAt w' g o cap s :=
  h.keep (hb.block g h.lt.1) (hb.block o h.lt.2)
end Go.Proofs.Ytkckjjchfccdjaa

/- A range decoder as numbers: the place of the next byte, Code, Range, whether it is out. Plain mathematics. -/
namespace Go.Proofs.Ytkckjjchfccdjaa.Rd

structure St where
  pos : Nat
  c : Nat
  r : Nat
  out : Bool

/-- A byte more is read, or it is out. -/
def next (l : List UInt8) (s : St) : St :=
  if h : s.pos < l.length then ⟨s.pos + 1, (256 * s.c + (l[s.pos]).toNat) % 4294967296, s.r * 256, false⟩ else ⟨s.pos, 0, 0, true⟩

def scale (l : List UInt8) : Nat → St → St
  | 0, s => s
  | N + 1, s => if s.out = false ∧ s.r < 16777216 then scale l N (next l s) else s

theorem next_in {l : List UInt8} {s : St} (h : s.pos < l.length) : next l s = ⟨s.pos + 1, (256 * s.c + (l[s.pos]).toNat) % 4294967296, s.r * 256, false⟩ := dif_pos h
theorem next_end {l : List UInt8} {s : St} (h : ¬ s.pos < l.length) : next l s = ⟨s.pos, 0, 0, true⟩ := dif_neg h
theorem scale_out {l : List UInt8} {N : Nat} {s : St} (h : s.out = true) : scale l N s = s := by
  cases N with
  | zero => rfl
  | succ N => rw [scale, if_neg (by simp [h])]
theorem scale_big {l : List UInt8} {N : Nat} {s : St} (h : ¬ s.r < 16777216) : scale l N s = s := by
  cases N with
  | zero => rfl
  | succ N => rw [scale, if_neg (by simp [h])]
theorem scale_step {l : List UInt8} {N : Nat} {s : St} (h : s.out = false) (hr : s.r < 16777216) : scale l (N + 1) s = scale l N (next l s) := by rw [scale, if_pos ⟨h, hr⟩]

/-- What may be. -/
def St.fits (l : List UInt8) (s : St) : Prop := s.pos ≤ l.length ∧ s.c < 4294967296 ∧ s.r < 4294967296
def St.ok (l : List UInt8) (s : St) : Prop := s.fits l ∧ (s.out = false → 16777216 ≤ s.r)

theorem next_fits {l : List UInt8} {s : St} (h : s.fits l) (hr : s.r < 16777216) : (next l s).fits l := by
  obtain ⟨h1, h2, h3⟩ := h
  by_cases hp : s.pos < l.length
  · rw [next_in hp]
    exact ⟨hp, Nat.mod_lt _ (by omega), by show s.r * 256 < _; omega⟩
  · rw [next_end hp]; exact ⟨h1, by show 0 < _; omega, by show 0 < _; omega⟩

theorem scale_ok (l : List UInt8) (N : Nat) (s : St) (h : s.fits l) (hr : s.out = false → 16777216 ≤ s.r * 256 ^ N) : (scale l N s).ok l := by
  induction N generalizing s with
  | zero => exact ⟨h, fun ho => by show 16777216 ≤ s.r; have := hr ho; simpa using this⟩
  | succ N ih =>
    by_cases ho : s.out = true
    · rw [scale_out ho]; exact ⟨h, by simp [ho]⟩
    · have ho' : s.out = false := by simpa using ho
      by_cases hb : s.r < 16777216
      · rw [scale_step ho' hb]
        refine ih _ (next_fits h hb) ?_
        by_cases hp : s.pos < l.length
        · rw [next_in hp]
          intro _
          show 16777216 ≤ s.r * 256 * 256 ^ N
          have := hr ho'
          rw [Nat.pow_succ, Nat.mul_comm (256 ^ N), ← Nat.mul_assoc] at this; exact this
        · rw [next_end hp]; intro h; cases h
      · rw [scale_big hb]; exact ⟨h, fun _ => by omega⟩

/-- The half that is taken, with a chance. -/
def St.one (s : St) (p : Nat) : Bool := decide (s.r / 2048 * p ≤ s.c)
def St.pick (s : St) (p : Nat) : St := if s.r / 2048 * p ≤ s.c then ⟨s.pos, s.c - s.r / 2048 * p, s.r - s.r / 2048 * p, false⟩ else ⟨s.pos, s.c, s.r / 2048 * p, false⟩
theorem St.pick_fits {l : List UInt8} {s : St} {p : Nat} (h : s.ok l) (ho : s.out = false) (h1 : 1 ≤ p) (h2 : p ≤ 2047) : (s.pick p).fits l ∧ 8192 ≤ (s.pick p).r := by
  obtain ⟨⟨hp, hc, hr⟩, hb⟩ := h
  have hb := hb ho
  have k1 : s.r / 2048 * 1 ≤ s.r / 2048 * p := Nat.mul_le_mul_left _ h1
  have k2 : s.r / 2048 * p ≤ s.r / 2048 * 2047 := Nat.mul_le_mul_left _ h2
  unfold St.pick St.fits
  by_cases hcp : s.r / 2048 * p ≤ s.c
  · rw [if_pos hcp]; simp only; omega
  · rw [if_neg hcp]; simp only; omega

/-- A bit is read. -/
def St.bit (l : List UInt8) (s : St) (p : Nat) : Bool × St := if s.out then (false, s) else (s.one p, scale l 2 (s.pick p))
theorem St.bit_ok {l : List UInt8} {s : St} {p : Nat} (h : s.ok l) (h1 : 1 ≤ p) (h2 : p ≤ 2047) : (s.bit l p).2.ok l := by
  unfold St.bit
  by_cases ho : s.out = true
  · rw [if_pos ho]; exact h
  · rw [if_neg ho]
    have ho' : s.out = false := by simpa using ho
    obtain ⟨k1, k2⟩ := St.pick_fits h ho' h1 h2
    exact scale_ok l 2 _ k1 (fun _ => by omega)

/-- The half that is taken, plainly. -/
def St.half (s : St) : St := if s.r / 2 ≤ s.c then ⟨s.pos, s.c - s.r / 2, s.r / 2, false⟩ else ⟨s.pos, s.c, s.r / 2, false⟩
theorem St.half_fits {l : List UInt8} {s : St} (h : s.ok l) (ho : s.out = false) : s.half.fits l ∧ 8388608 ≤ s.half.r := by
  obtain ⟨⟨hp, hc, hr⟩, hb⟩ := h
  have hb := hb ho
  unfold St.half St.fits
  by_cases hcp : s.r / 2 ≤ s.c
  · rw [if_pos hcp]; simp only; omega
  · rw [if_neg hcp]; simp only; omega

/-- Plain bits, the most significant one first. -/
def St.rounds (l : List UInt8) (s : St) : Nat → Nat × St
  | 0 => (0, s)
  | n + 1 => if (s.rounds l n).2.out then s.rounds l n else
      (2 * (s.rounds l n).1 + (if (s.rounds l n).2.r / 2 ≤ (s.rounds l n).2.c then 1 else 0), scale l 1 (s.rounds l n).2.half)
theorem St.rounds_ok {l : List UInt8} {s : St} (h : s.ok l) (n : Nat) : (s.rounds l n).2.ok l ∧ (s.rounds l n).1 < 2 ^ n := by
  induction n with
  | zero => exact ⟨h, by show 0 < 1; omega⟩
  | succ n ih =>
    obtain ⟨h1, h2⟩ := ih
    rw [St.rounds]
    by_cases ho : (s.rounds l n).2.out = true
    · rw [if_pos ho]; exact ⟨h1, by rw [Nat.pow_succ]; omega⟩
    · rw [if_neg ho]
      have ho' : (s.rounds l n).2.out = false := by simpa using ho
      obtain ⟨k1, k2⟩ := St.half_fits h1 ho'
      refine ⟨scale_ok l 1 _ k1 (fun _ => by omega), ?_⟩
      show 2 * (s.rounds l n).1 + _ < _
      rw [Nat.pow_succ]
      split <;> omega
/-- Once out, always out. -/
theorem St.rounds_out {l : List UInt8} {s : St} {n m : Nat} (hnm : n ≤ m) (h : (s.rounds l n).2.out = true) : s.rounds l m = s.rounds l n := by
  induction m with
  | zero => obtain rfl : n = 0 := by omega
            rfl
  | succ m ih =>
    rcases Nat.lt_or_ge m n with h1 | h1
    · obtain rfl : n = m + 1 := by omega
      rfl
    · have := ih h1
      rw [St.rounds, this, if_pos h]
/-- What they come to. -/
def St.plain (l : List UInt8) (s : St) (n : Nat) : Nat × St := if (s.rounds l n).2.out then (0, (s.rounds l n).2) else s.rounds l n
def St.done (l : List UInt8) (s : St) : Bool := !s.out && (s.pos == l.length && s.c == 0)
end Go.Proofs.Ytkckjjchfccdjaa.Rd

/- The walks over rcdec's decoder. -/
namespace Go.Proofs.Ytkckjjchfccdjaa
set_option maxRecDepth 100000
open Go.RowKit

/-- The decoder in memory: its struct in block g, its bytes in block o. -/
structure DecAt (w : World) (g o cap : Nat) (l : List UInt8) (x y pos : Nat) (out : Bool) : Prop where
  blk : w.heap[g]? = some (.cells #[.int .u32 (x : Nat), .int .u32 (y : Nat), .slice (some ⟨o, 0, none⟩) l.length cap, .int .i64 (pos : Nat), .bool out] 152 (0, 0))
  own : Bytes w (some ⟨o, 0, none⟩) l
  ne : g ≠ o
  lt : o < w.heap.size
theorem c50 {w : World} {g : Nat} {a b c d e : Value} {t : TypeId} {fr : Nat × Nat} (h : w.heap[g]? = some (.cells #[a, b, c, d, e] t fr)) : w.cell? ⟨g, 0, none⟩ = some a := by rw [cell_of_row _ _ _ _ _ _ h]; rfl
theorem c51 {w : World} {g : Nat} {a b c d e : Value} {t : TypeId} {fr : Nat × Nat} (h : w.heap[g]? = some (.cells #[a, b, c, d, e] t fr)) : w.cell? ⟨g, 1, none⟩ = some b := by rw [cell_of_row _ _ _ _ _ _ h]; rfl
theorem c52 {w : World} {g : Nat} {a b c d e : Value} {t : TypeId} {fr : Nat × Nat} (h : w.heap[g]? = some (.cells #[a, b, c, d, e] t fr)) : w.cell? ⟨g, 2, none⟩ = some c := by rw [cell_of_row _ _ _ _ _ _ h]; rfl
theorem c53 {w : World} {g : Nat} {a b c d e : Value} {t : TypeId} {fr : Nat × Nat} (h : w.heap[g]? = some (.cells #[a, b, c, d, e] t fr)) : w.cell? ⟨g, 3, none⟩ = some d := by rw [cell_of_row _ _ _ _ _ _ h]; rfl
theorem c54 {w : World} {g : Nat} {a b c d e : Value} {t : TypeId} {fr : Nat × Nat} (h : w.heap[g]? = some (.cells #[a, b, c, d, e] t fr)) : w.cell? ⟨g, 4, none⟩ = some e := by rw [cell_of_row _ _ _ _ _ _ h]; rfl
theorem s50 {w : World} {g : Nat} {a b c d e : Value} {t : TypeId} (h : w.heap[g]? = some (.cells #[a, b, c, d, e] t (0, 0))) (u : Value) : (w.setCell ⟨g, 0, none⟩ u).heap[g]? = some (.cells #[u, b, c, d, e] t (0, 0)) := by rw [heap_setCell_same w g 0 _ t u h]; rfl
theorem s51 {w : World} {g : Nat} {a b c d e : Value} {t : TypeId} (h : w.heap[g]? = some (.cells #[a, b, c, d, e] t (0, 0))) (u : Value) : (w.setCell ⟨g, 1, none⟩ u).heap[g]? = some (.cells #[a, u, c, d, e] t (0, 0)) := by rw [heap_setCell_same w g 1 _ t u h]; rfl
theorem s52 {w : World} {g : Nat} {a b c d e : Value} {t : TypeId} (h : w.heap[g]? = some (.cells #[a, b, c, d, e] t (0, 0))) (u : Value) : (w.setCell ⟨g, 2, none⟩ u).heap[g]? = some (.cells #[a, b, u, d, e] t (0, 0)) := by rw [heap_setCell_same w g 2 _ t u h]; rfl
theorem s53 {w : World} {g : Nat} {a b c d e : Value} {t : TypeId} (h : w.heap[g]? = some (.cells #[a, b, c, d, e] t (0, 0))) (u : Value) : (w.setCell ⟨g, 3, none⟩ u).heap[g]? = some (.cells #[a, b, c, u, e] t (0, 0)) := by rw [heap_setCell_same w g 3 _ t u h]; rfl
theorem s54 {w : World} {g : Nat} {a b c d e : Value} {t : TypeId} (h : w.heap[g]? = some (.cells #[a, b, c, d, e] t (0, 0))) (u : Value) : (w.setCell ⟨g, 4, none⟩ u).heap[g]? = some (.cells #[a, b, c, d, u] t (0, 0)) := by rw [heap_setCell_same w g 4 _ t u h]; rfl
theorem bytes_set {w : World} {o : Nat} {l : List UInt8} {p : Addr} (h : Bytes w (some ⟨o, 0, none⟩) l) (hne : p.block ≠ o) (u : Value) : Bytes (w.setCell p u) (some ⟨o, 0, none⟩) l :=
  h.keep (by simp) fun q hq _ => by
    have hq' : q.block = o := by simpa using hq.symm
    exact World.cell?_setCell_far w p q u (by rw [hq']; exact hne)
theorem DecAt.cell {w : World} {g o cap : Nat} {l : List UInt8} {x y pos : Nat} {out : Bool} (h : DecAt w g o cap l x y pos out) (hp : pos < l.length) : w.cell? ⟨o, pos, none⟩ = some (.int .u8 (l[pos].toNat : Nat)) := by
  obtain ⟨b, off, e, _, hc⟩ := h.own.addr (by omega)
  injection e with e; injection e with e1 e2; subst e1; subst e2
  have := hc pos hp
  rw [Nat.zero_add] at this; exact this
theorem DecAt.keep {w w' : World} {g o cap : Nat} {l : List UInt8} {x y pos : Nat} {out : Bool} (h : DecAt w g o cap l x y pos out) (hs : w.heap.size ≤ w'.heap.size) (hg : w'.heap[g]? = w.heap[g]?) (ho : w'.heap[o]? = w.heap[o]?) : DecAt w' g o cap l x y pos out :=
  ⟨hg.trans h.blk, h.own.keep hs fun q hq _ => by
    have hq' : q.block = o := by simpa using hq.symm
    unfold World.cell?; rw [hq', ho], h.ne, Nat.lt_of_lt_of_le h.lt hs⟩
theorem DecAt.glt {w : World} {g o cap : Nat} {l : List UInt8} {x y pos : Nat} {out : Bool} (h : DecAt w g o cap l x y pos out) : g < w.heap.size := block_lt_of_cell (c50 h.blk)
theorem DecAt.below {w w' : World} {g o cap : Nat} {l : List UInt8} {x y pos : Nat} {out : Bool} (h : DecAt w g o cap l x y pos out) (hb : Below w.heap.size w w') : DecAt w' g o cap l x y pos out :=
  h.keep hb.size (hb.block g h.glt) (hb.block o h.lt)

/-- What a call comes to that turns the decoder alone. -/
def Turned (w : World) (g o cap : Nat) (l : List UInt8) (v : Value) (x y pos : Nat) (out : Bool) (e : Ending) (w' : World) : Prop :=
  e = .returned v ∧ DecAt w' g o cap l x y pos out ∧ Only [g] w w'

theorem drew_below (w : World) : Below w.heap.size w w.drew := (Below.refl _ _).drew

set_option maxRecDepth 100000 in
set_option maxHeartbeats 1000000 in
theorem next_read (g o cap : Nat) (l : List UInt8) (x y pos : Nat) (w : World) (hE : DecAt w g o cap l x y pos false) (hp : pos < l.length) (hl : l.length ≤ 140737488355328) :
    Calls Try.prog 139 #[.pointer (some ⟨g, 0, none⟩)] w (Turned w g o cap l (B8 l[pos]) x y (pos + 1) false) := by
  have k2 := c52 hE.blk
  have k3 := c53 hE.blk
  have hne : ((pos : Int) == (l.length : Int)) = false := beq_eq_false_iff_ne.2 (by omega)
  have hpz : (pos : Int) < (l.length : Int) := by omega
  have hc := hE.cell hp
  generalize (l[pos]) = by_ at *
  generalize hL : l.length = L at *
  have HL := Lib.hid hL
  clear hL
  go_enter Try.func139, Try.ntmps139
  go_wp2_with fail
  refine wp_region_held_drew (S := fun w' => w'.cell? ⟨g, 2, none⟩ = some (.slice (some ⟨o, 0, none⟩) L cap) ∧ w'.cell? ⟨g, 3, none⟩ = some (.int .i64 (pos : Nat))) (by kernel_rfl) ⟨k2, k3⟩ (fun hS => ?_)
  refine tk 0 (v := ?vn1) ?yn1 hS ?_
  case yn1 =>
    intro w hSw
    go_simp; all_goals (with_reducible rfl)
  simp only [Act.put, List.setIfInBounds_toArray, List.set_cons_zero, List.set_cons_succ]
  refine tk 1 (v := ?vn2) ?yn2 hS ?_
  case yn2 =>
    intro w hSw
    go_simp; all_goals (with_reducible rfl)
  simp only [Act.put, List.setIfInBounds_toArray, List.set_cons_zero, List.set_cons_succ]
  refine tk 2 (v := ?vn3) ?yn3 hS ?_
  case yn3 =>
    intro w hSw
    go_simp; all_goals (with_reducible rfl)
  simp only [Act.put, List.setIfInBounds_toArray, List.set_cons_zero, List.set_cons_succ]
  refine tk 3 (v := ?vn4) ?yn4 hS ?_
  case yn4 =>
    intro w hSw
    obtain ⟨j2, j3⟩ := hSw
    go_simp; all_goals (with_reducible rfl)
  simp only [Act.put, List.setIfInBounds_toArray, List.set_cons_zero, List.set_cons_succ]
  refine tk 4 (v := ?vn5) ?yn5 hS ?_
  case yn5 =>
    intro w hSw
    go_simp; all_goals (with_reducible rfl)
  simp only [Act.put, List.setIfInBounds_toArray, List.set_cons_zero, List.set_cons_succ]
  refine tk 5 (v := ?vn6) ?yn6 hS ?_
  case yn6 =>
    intro w hSw
    go_simp; all_goals (with_reducible rfl)
  simp only [Act.put, List.setIfInBounds_toArray, List.set_cons_zero, List.set_cons_succ]
  refine tk 6 (v := ?vn7) ?yn7 hS ?_
  case yn7 =>
    intro w hSw
    go_simp; all_goals (with_reducible rfl)
  simp only [Act.put, List.setIfInBounds_toArray, List.set_cons_zero, List.set_cons_succ]
  refine tk 7 (v := ?vn8) ?yn8 hS ?_
  case yn8 =>
    intro w hSw
    obtain ⟨j2, j3⟩ := hSw
    go_simp; all_goals (with_reducible rfl)
  simp only [Act.put, List.setIfInBounds_toArray, List.set_cons_zero, List.set_cons_succ]
  refine tk 8 (v := ?vn9) ?yn9 hS ?_
  case yn9 =>
    intro w hSw
    go_simp; all_goals (with_reducible rfl)
  simp only [Act.put, List.setIfInBounds_toArray, List.set_cons_zero, List.set_cons_succ]
  refine tk 9 (v := ?vn10) ?yn10 hS ?_
  case yn10 =>
    intro w hSw
    go_simp; all_goals (with_reducible rfl)
  simp only [Act.put, List.setIfInBounds_toArray, List.set_cons_zero, List.set_cons_succ]
  refine wpAnyH_done (by kernel_rfl) ?_ _
  have hEd := hE.below (drew_below w)
  have hond : Only [g] w w.drew := (Only.refl _ _).drew
  have hcd : w.drew.cell? ⟨o, pos, none⟩ = some (B8 by_) := hc
  clear hE k2 k3 hc
  generalize w.drew = wd at *
  have k2 := c52 hEd.blk
  have k3 := c53 hEd.blk
  have f3 := frozen_of_row wd g 3 _ _ hEd.blk
  rw [HL.out] at k2
  have hE1 : DecAt (wd.setCell ⟨g, 3, none⟩ (.int .i64 ((pos + 1 : Nat) : Int))) g o cap l x y (pos + 1) false := ⟨s53 hEd.blk _, bytes_set hEd.own hEd.ne _, hEd.ne, by simpa using hEd.lt⟩
  have hon : Only [g] w (wd.setCell ⟨g, 3, none⟩ (.int .i64 ((pos + 1 : Nat) : Int))) := hond.setCell (.inl (by simp)) _
  have kc : (wd.setCell ⟨g, 3, none⟩ (.int .i64 ((pos + 1 : Nat) : Int))).cell? ⟨o, pos, none⟩ = some (B8 by_) := (World.cell?_setCell_far wd _ _ _ hEd.ne).trans hcd
  have q2 := c52 hE1.blk
  have q3 := c53 hE1.blk
  have hsum : ((pos + 1 : Nat) : Int) = (pos : Int) + 1 := by omega
  rw [hsum] at hon kc q2 q3
  rw [HL.out] at q2
  have hE2 : DecAt (wd.setCell ⟨g, 3, none⟩ (.int .i64 ((pos : Int) + 1))) g o cap l x y (pos + 1) false := by rw [← hsum]; exact hE1
  clear hE1 hsum
  generalize hw1 : wd.setCell ⟨g, 3, none⟩ (.int .i64 ((pos : Int) + 1)) = w1 at *
  have HW1 := Lib.hid hw1
  clear hw1
  go_upto_region 5 with (fail)
  rw [HW1.out]
  clear k2 k3 f3 hcd hond hEd HW1
  have hwp : IntKind.i64.wrap (pos : Int) = (pos : Int) := IntWalk.i64_in _ (by omega)
  refine wp_region_held_drew (S := fun w' => w'.cell? ⟨g, 2, none⟩ = some (.slice (some ⟨o, 0, none⟩) L cap) ∧ w'.cell? ⟨g, 3, none⟩ = some (.int .i64 ((pos : Int) + 1)) ∧ w'.cell? ⟨o, pos, none⟩ = some (B8 by_)) (by kernel_rfl) ⟨q2, q3, kc⟩ (fun hS => ?_)
  refine tk 0 (v := ?vm11) ?ym11 hS ?_
  case ym11 =>
    intro w hSw
    go_simp; all_goals (with_reducible rfl)
  simp only [Act.put, List.setIfInBounds_toArray, List.set_cons_zero, List.set_cons_succ]
  refine tk 1 (v := ?vm12) ?ym12 hS ?_
  case ym12 =>
    intro w hSw
    go_simp; all_goals (with_reducible rfl)
  simp only [Act.put, List.setIfInBounds_toArray, List.set_cons_zero, List.set_cons_succ]
  refine tk 2 (v := ?vm13) ?ym13 hS ?_
  case ym13 =>
    intro w hSw
    go_simp; all_goals (with_reducible rfl)
  simp only [Act.put, List.setIfInBounds_toArray, List.set_cons_zero, List.set_cons_succ]
  refine tk 3 (v := ?vm14) ?ym14 hS ?_
  case ym14 =>
    intro w hSw
    obtain ⟨j2, j3, j4⟩ := hSw
    go_simp; all_goals (with_reducible rfl)
  simp only [Act.put, List.setIfInBounds_toArray, List.set_cons_zero, List.set_cons_succ]
  refine tk 4 (v := ?vm15) ?ym15 hS ?_
  case ym15 =>
    intro w hSw
    go_simp; all_goals (with_reducible rfl)
  simp only [Act.put, List.setIfInBounds_toArray, List.set_cons_zero, List.set_cons_succ]
  refine tk 5 (v := ?vm16) ?ym16 hS ?_
  case ym16 =>
    intro w hSw
    go_simp; all_goals (with_reducible rfl)
  simp only [Act.put, List.setIfInBounds_toArray, List.set_cons_zero, List.set_cons_succ]
  refine tk 6 (v := ?vm17) ?ym17 hS ?_
  case ym17 =>
    intro w hSw
    go_simp; all_goals (with_reducible rfl)
  simp only [Act.put, List.setIfInBounds_toArray, List.set_cons_zero, List.set_cons_succ]
  refine tk 7 (v := ?vm18) ?ym18 hS ?_
  case ym18 =>
    intro w hSw
    obtain ⟨j2, j3, j4⟩ := hSw
    go_simp; all_goals (with_reducible rfl)
  simp only [Act.put, List.setIfInBounds_toArray, List.set_cons_zero, List.set_cons_succ]
  refine tk 8 (v := ?vm19) ?ym19 hS ?_
  case ym19 =>
    intro w hSw
    go_simp; all_goals (with_reducible rfl)
  simp only [Act.put, List.setIfInBounds_toArray, List.set_cons_zero, List.set_cons_succ]
  refine tk 9 (v := ?vm20) ?ym20 hS ?_
  case ym20 =>
    intro w hSw
    go_simp; all_goals (with_reducible rfl)
  simp only [Act.put, List.setIfInBounds_toArray, List.set_cons_zero, List.set_cons_succ]
  refine tk 10 (v := ?vm21) ?ym21 hS ?_
  case ym21 =>
    intro w hSw
    obtain ⟨j2, j3, j4⟩ := hSw
    go_simp; all_goals (with_reducible rfl)
  simp only [Act.put, List.setIfInBounds_toArray, List.set_cons_zero, List.set_cons_succ]
  refine tk 11 (v := ?vm22) ?ym22 hS ?_
  case ym22 =>
    intro w hSw
    go_simp; all_goals (with_reducible rfl)
  simp only [Act.put, List.setIfInBounds_toArray, List.set_cons_zero, List.set_cons_succ]
  refine wpAnyH_done (by kernel_rfl) ?_ _
  go_wp2_with fail
  go_ret
  exact ⟨rfl, hE2.below (drew_below _), hon.drew⟩

set_option maxRecDepth 100000 in
set_option maxHeartbeats 1000000 in
theorem next_out (g o cap : Nat) (l : List UInt8) (x y : Nat) (w : World) (hE : DecAt w g o cap l x y l.length false) :
    Calls Try.prog 139 #[.pointer (some ⟨g, 0, none⟩)] w (Turned w g o cap l (.int .u8 0) x y l.length true) := by
  have k2 := c52 hE.blk
  have k3 := c53 hE.blk
  have hEd := hE.below (drew_below w)
  have hond : Only [g] w w.drew := (Only.refl _ _).drew
  have f4 := frozen_of_row w.drew g 4 _ _ hEd.blk
  have k4 := c54 hEd.blk
  have hE1 : DecAt (w.drew.setCell ⟨g, 4, none⟩ (.bool true)) g o cap l x y l.length true := ⟨s54 hEd.blk _, bytes_set hEd.own hEd.ne _, hEd.ne, by simpa using hEd.lt⟩
  have hon : Only [g] w (w.drew.setCell ⟨g, 4, none⟩ (.bool true)) := hond.setCell (.inl (by simp)) _
  generalize hL : l.length = L at *
  have HL := Lib.hid hL
  clear hL hEd hond
  go_enter Try.func139, Try.ntmps139
  go_wp2_with fail
  refine wp_region_held_drew (S := fun w' => w'.cell? ⟨g, 2, none⟩ = some (.slice (some ⟨o, 0, none⟩) L cap) ∧ w'.cell? ⟨g, 3, none⟩ = some (.int .i64 (L : Nat))) (by kernel_rfl) ⟨k2, k3⟩ (fun hS => ?_)
  refine tk 0 (v := ?vk23) ?yk23 hS ?_
  case yk23 =>
    intro w hSw
    go_simp; all_goals (with_reducible rfl)
  simp only [Act.put, List.setIfInBounds_toArray, List.set_cons_zero, List.set_cons_succ]
  refine tk 1 (v := ?vk24) ?yk24 hS ?_
  case yk24 =>
    intro w hSw
    go_simp; all_goals (with_reducible rfl)
  simp only [Act.put, List.setIfInBounds_toArray, List.set_cons_zero, List.set_cons_succ]
  refine tk 2 (v := ?vk25) ?yk25 hS ?_
  case yk25 =>
    intro w hSw
    go_simp; all_goals (with_reducible rfl)
  simp only [Act.put, List.setIfInBounds_toArray, List.set_cons_zero, List.set_cons_succ]
  refine tk 3 (v := ?vk26) ?yk26 hS ?_
  case yk26 =>
    intro w hSw
    obtain ⟨j2, j3⟩ := hSw
    go_simp; all_goals (with_reducible rfl)
  simp only [Act.put, List.setIfInBounds_toArray, List.set_cons_zero, List.set_cons_succ]
  refine tk 4 (v := ?vk27) ?yk27 hS ?_
  case yk27 =>
    intro w hSw
    go_simp; all_goals (with_reducible rfl)
  simp only [Act.put, List.setIfInBounds_toArray, List.set_cons_zero, List.set_cons_succ]
  refine tk 5 (v := ?vk28) ?yk28 hS ?_
  case yk28 =>
    intro w hSw
    go_simp; all_goals (with_reducible rfl)
  simp only [Act.put, List.setIfInBounds_toArray, List.set_cons_zero, List.set_cons_succ]
  refine tk 6 (v := ?vk29) ?yk29 hS ?_
  case yk29 =>
    intro w hSw
    go_simp; all_goals (with_reducible rfl)
  simp only [Act.put, List.setIfInBounds_toArray, List.set_cons_zero, List.set_cons_succ]
  refine tk 7 (v := ?vk30) ?yk30 hS ?_
  case yk30 =>
    intro w hSw
    obtain ⟨j2, j3⟩ := hSw
    go_simp; all_goals (with_reducible rfl)
  simp only [Act.put, List.setIfInBounds_toArray, List.set_cons_zero, List.set_cons_succ]
  refine tk 8 (v := ?vk31) ?yk31 hS ?_
  case yk31 =>
    intro w hSw
    go_simp; all_goals (with_reducible rfl)
  simp only [Act.put, List.setIfInBounds_toArray, List.set_cons_zero, List.set_cons_succ]
  refine tk 9 (v := ?vk32) ?yk32 hS ?_
  case yk32 =>
    intro w hSw
    go_simp; all_goals (with_reducible rfl)
  simp only [Act.put, List.setIfInBounds_toArray, List.set_cons_zero, List.set_cons_succ]
  refine wpAnyH_done (by kernel_rfl) ?_ _
  clear hE k2 k3
  generalize w.drew = wd at *
  go_wp2_with fail
  go_ret
  exact ⟨rfl, hE1, hon⟩
end Go.Proofs.Ytkckjjchfccdjaa
