/- Several texts in one: RdNew, RdFollow. -/
import Derived.Test.YtkckjjchfccdjaaMg1
import Derived.Test.YtkckjjchfccdjaaMg5
import Derived.Test.YtkckjjchfccdjaaMg4
/- The walk over rcdec's New. -/
namespace Go.Proofs.Ytkckjjchfccdjaa
set_option maxRecDepth 100000
open Go.RowKit

/-- Code at first. -/
def Rd.code0 (l : List UInt8) : Nat := (l.getD 1 0).toNat * 16777216 + (l.getD 2 0).toNat * 65536 + (l.getD 3 0).toNat * 256 + (l.getD 4 0).toNat
def Rd.start (l : List UInt8) : Rd.St := ⟨5, Rd.code0 l, 4294967295, false⟩
theorem Rd.code0_lt (l : List UInt8) : Rd.code0 l < 4294967296 := by
  have h1 := (l.getD 1 0).toNat_lt
  have h2 := (l.getD 2 0).toNat_lt
  have h3 := (l.getD 3 0).toNat_lt
  have h4 := (l.getD 4 0).toNat_lt
  unfold Rd.code0; omega
theorem Rd.start_ok {l : List UInt8} (h : 5 ≤ l.length) : (Rd.start l).ok l := ⟨⟨h, Rd.code0_lt l, by show 4294967295 < _; omega⟩, fun _ => by show 16777216 ≤ 4294967295; omega⟩

theorem or_add (a b k : Nat) (hb : b < 2 ^ k) : a * 2 ^ k ||| b = a * 2 ^ k + b := by
  rw [← Nat.shiftLeft_eq, ← Nat.shiftLeft_add_eq_or_of_lt hb]
theorem code_first (a b c d : Nat) (ha : a < 256) (hb : b < 256) (hc : c < 256) (hd : d < 256) :
    bits .or .u32 (bits .or .u32 (bits .or .u32 (IntKind.u32.wrap (IntKind.u32.wrap (a : Int) * 16777216)) (IntKind.u32.wrap (IntKind.u32.wrap (b : Int) * 65536))) (IntKind.u32.wrap (IntKind.u32.wrap (c : Int) * 256))) (IntKind.u32.wrap (d : Int)) = ((a * 16777216 + b * 65536 + c * 256 + d : Nat) : Int) := by
  have w0 : ∀ x : Nat, x < 256 → IntKind.u32.wrap (x : Int) = (x : Int) := fun x hx => by rw [IntKind.wrap_u32]; omega
  rw [w0 a ha, w0 b hb, w0 c hc, w0 d hd]
  have e1 : IntKind.u32.wrap ((a : Int) * 16777216) = ((a * 16777216 : Nat) : Int) := by rw [IntKind.wrap_u32]; omega
  have e2 : IntKind.u32.wrap ((b : Int) * 65536) = ((b * 65536 : Nat) : Int) := by rw [IntKind.wrap_u32]; omega
  have e3 : IntKind.u32.wrap ((c : Int) * 256) = ((c * 256 : Nat) : Int) := by rw [IntKind.wrap_u32]; omega
  have o1 : a * 16777216 ||| b * 65536 = a * 16777216 + b * 65536 := or_add a (b * 65536) 24 (by omega)
  have o2 : (a * 16777216 + b * 65536) ||| c * 256 = a * 16777216 + b * 65536 + c * 256 := by
    have := or_add (a * 256 + b) (c * 256) 16 (by omega)
    rw [show (a * 256 + b) * 2 ^ 16 = a * 16777216 + b * 65536 by omega] at this; exact this
  have o3 : (a * 16777216 + b * 65536 + c * 256) ||| d = a * 16777216 + b * 65536 + c * 256 + d := by
    have := or_add (a * 65536 + b * 256 + c) d 8 (by omega)
    rw [show (a * 65536 + b * 256 + c) * 2 ^ 8 = a * 16777216 + b * 65536 + c * 256 by omega] at this; exact this
  rw [e1, e2, e3, u32_or_nat _ _ (by omega) (by omega), o1, u32_or_nat _ _ (by omega) (by omega), o2, u32_or_nat _ _ (by omega) (by omega), o3]

/-- What New comes to. -/
def DNone (w : World) (n : Int) (e : Ending) (w' : World) : Prop := e = .returned (.tuple #[.pointer none, .int .i64 n]) ∧ w = w'
def DSome (w : World) (l : List UInt8) (e : Ending) (w' : World) : Prop :=
  ∃ g o cap, e = .returned (.tuple #[.pointer (some ⟨g, 0, none⟩), .int .i64 0]) ∧ DecIs w' g o cap l (Rd.start l) ∧ Below w.heap.size w w' ∧ w.heap.size ≤ g ∧ w.heap.size ≤ o

set_option maxRecDepth 100000 in
set_option maxHeartbeats 1000000 in
theorem dnew_short (A : Option Addr) (l : List UInt8) (c : Nat) (w : World) (h : l.length < 5) :
    Calls Try.prog 51 #[.slice A l.length c] w (DNone w 2) := by
  generalize l.length = L at *
  have h' : (L : Int) < 5 := by omega
  go_enter Try.func51, Try.ntmps51
  go_wp2_with fail
  go_ret2
  exact ⟨rfl, rfl⟩

theorem Bytes.five {w : World} {A : Option Addr} {l : List UInt8} (hB : Bytes w A l) (h : 5 ≤ l.length) : ∃ b off, A = some ⟨b, off, none⟩ ∧ b < w.heap.size ∧ ∀ k, k < l.length → w.cell? ⟨b, off + k, none⟩ = some (B8 (l.getD k 0)) := by
  obtain ⟨b, off, rfl, hb, hc⟩ := hB.addr (by omega)
  refine ⟨b, off, rfl, hb, fun k hk => ?_⟩
  rw [hc k hk]; simp [List.getD, hk]

set_option maxRecDepth 100000 in
set_option maxHeartbeats 1000000 in
theorem dnew_bad (A : Option Addr) (l : List UInt8) (c : Nat) (w : World) (hB : Bytes w A l) (h : 5 ≤ l.length) (h0 : l.getD 0 0 ≠ 0) :
    Calls Try.prog 51 #[.slice A l.length c] w (DNone w 6) := by
  obtain ⟨b, off, rfl, hb, hc⟩ := hB.five h
  have k0 := hc 0 (by omega)
  rw [Nat.add_zero] at k0
  have hne : ((l.getD 0 0).toNat : Int) != 0 := by
    rw [bne_iff_ne]; intro he; exact h0 (UInt8.toNat_inj.1 (by simpa using he))
  generalize l.getD 0 0 = b0 at *
  generalize l.length = L at *
  have h' : ¬ (L : Int) < 5 := by omega
  have h5 : 0 < L := by omega
  have h6 : ((b0.toNat : Int) == 0) = false := by rw [beq_eq_false_iff_ne]; exact bne_iff_ne.1 hne
  clear hc h0
  go_enter Try.func51, Try.ntmps51
  go_wp2_with fail
  go_ret2
  exact ⟨rfl, rfl⟩

set_option maxRecDepth 100000 in
set_option maxHeartbeats 1000000 in
theorem dnew_good (A : Option Addr) (l : List UInt8) (c : Nat) (w : World) (hB : Bytes w A l) (h : 5 ≤ l.length) (hl : l.length ≤ 140737488355328) (h0 : l.getD 0 0 = 0) :
    Calls Try.prog 51 #[.slice A l.length c] w (DSome w l) := by
  have hB0 := hB
  obtain ⟨b, off, rfl, hb, hc⟩ := hB.five h
  have k0 := hc 0 (by omega)
  have k1 := hc 1 (by omega)
  have k2 := hc 2 (by omega)
  have k3 := hc 3 (by omega)
  have k4 := hc 4 (by omega)
  rw [Nat.add_zero, h0] at k0
  have hcf := code_first _ _ _ _ (l.getD 1 0).toNat_lt (l.getD 2 0).toNat_lt (l.getD 3 0).toNat_lt (l.getD 4 0).toNat_lt
  have hcd : (l.getD 1 0).toNat * 16777216 + (l.getD 2 0).toNat * 65536 + (l.getD 3 0).toNat * 256 + (l.getD 4 0).toNat = Rd.code0 l := rfl
  rw [hcd] at hcf
  clear hcd
  generalize l.getD 1 0 = b1 at *
  generalize l.getD 2 0 = b2 at *
  generalize l.getD 3 0 = b3 at *
  generalize l.getD 4 0 = b4 at *
  have HCF := Lib.hid hcf
  have HSRC : Value.slice (some ⟨b, off, none⟩) l.length c = .slice (some ⟨b, off, none⟩) l.length c := rfl
  have hfit : ([] : List UInt8).length + l.length ≤ 140737488355328 := by simpa using hl
  have hBd : Bytes w.drew (some ⟨b, off, none⟩) l := hB0
  have HSR := Lib.hid HSRC
  generalize hL : l.length = L at *
  have HL := Lib.hid hL
  have h' : ¬ (L : Int) < 5 := by omega
  have g0 : 0 < L := by omega
  have g1 : 1 < L := by omega
  have g2 : 2 < L := by omega
  have g3 : 3 < L := by omega
  have g4 : 4 < L := by omega
  have i1 : (1 : Int) < (L : Int) := by omega
  have i2 : (2 : Int) < (L : Int) := by omega
  have i3 : (3 : Int) < (L : Int) := by omega
  have i4 : (4 : Int) < (L : Int) := by omega
  clear hc h0 hcf hL HSRC hB
  go_enter Try.func51, Try.ntmps51
  go_wp2_with fail
  refine wp_region_held_drew (S := fun w' => w'.cell? ⟨b, off + 1, none⟩ = some (B8 b1) ∧ w'.cell? ⟨b, off + 2, none⟩ = some (B8 b2) ∧ w'.cell? ⟨b, off + 3, none⟩ = some (B8 b3) ∧ w'.cell? ⟨b, off + 4, none⟩ = some (B8 b4)) (by kernel_rfl) ⟨k1, k2, k3, k4⟩ (fun hS => ?_)
  refine tk 0 (v := ?vn1) ?yn1 hS ?_
  case yn1 =>
    intro w hSw
    go_simp; all_goals (with_reducible rfl)
  simp only [Act.put, List.setIfInBounds_toArray, List.set_cons_zero, List.set_cons_succ]
  refine tk 1 (v := ?vn2) ?yn2 hS ?_
  case yn2 =>
    intro w hSw
    go_simp; all_goals (with_reducible rfl)
  simp only [Act.put, List.setIfInBounds_toArray, List.set_cons_zero, List.set_cons_succ]
  refine tk 2 (v := ?vn3) ?yn3 hS ?_
  case yn3 =>
    intro w hSw
    obtain ⟨j1, j2, j3, j4⟩ := hSw
    go_simp; all_goals (with_reducible rfl)
  simp only [Act.put, List.setIfInBounds_toArray, List.set_cons_zero, List.set_cons_succ]
  refine tk 3 (v := ?vn4) ?yn4 hS ?_
  case yn4 =>
    intro w hSw
    go_simp; all_goals (with_reducible rfl)
  simp only [Act.put, List.setIfInBounds_toArray, List.set_cons_zero, List.set_cons_succ]
  refine tk 4 (v := ?vn5) ?yn5 hS ?_
  case yn5 =>
    intro w hSw
    go_simp; all_goals (with_reducible rfl)
  simp only [Act.put, List.setIfInBounds_toArray, List.set_cons_zero, List.set_cons_succ]
  refine tk 5 (v := ?vn6) ?yn6 hS ?_
  case yn6 =>
    intro w hSw
    go_simp; all_goals (with_reducible rfl)
  simp only [Act.put, List.setIfInBounds_toArray, List.set_cons_zero, List.set_cons_succ]
  refine tk 6 (v := ?vn7) ?yn7 hS ?_
  case yn7 =>
    intro w hSw
    go_simp; all_goals (with_reducible rfl)
  simp only [Act.put, List.setIfInBounds_toArray, List.set_cons_zero, List.set_cons_succ]
  refine tk 7 (v := ?vn8) ?yn8 hS ?_
  case yn8 =>
    intro w hSw
    obtain ⟨j1, j2, j3, j4⟩ := hSw
    go_simp; all_goals (with_reducible rfl)
  simp only [Act.put, List.setIfInBounds_toArray, List.set_cons_zero, List.set_cons_succ]
  refine tk 8 (v := ?vn9) ?yn9 hS ?_
  case yn9 =>
    intro w hSw
    go_simp; all_goals (with_reducible rfl)
  simp only [Act.put, List.setIfInBounds_toArray, List.set_cons_zero, List.set_cons_succ]
  refine tk 9 (v := ?vn10) ?yn10 hS ?_
  case yn10 =>
    intro w hSw
    go_simp; all_goals (with_reducible rfl)
  simp only [Act.put, List.setIfInBounds_toArray, List.set_cons_zero, List.set_cons_succ]
  refine tk 10 (v := ?vn11) ?yn11 hS ?_
  case yn11 =>
    intro w hSw
    go_simp; all_goals (with_reducible rfl)
  simp only [Act.put, List.setIfInBounds_toArray, List.set_cons_zero, List.set_cons_succ]
  refine tk 11 (v := ?vn12) ?yn12 hS ?_
  case yn12 =>
    intro w hSw
    go_simp; all_goals (with_reducible rfl)
  simp only [Act.put, List.setIfInBounds_toArray, List.set_cons_zero, List.set_cons_succ]
  refine tk 12 (v := ?vn13) ?yn13 hS ?_
  case yn13 =>
    intro w hSw
    go_simp; all_goals (with_reducible rfl)
  simp only [Act.put, List.setIfInBounds_toArray, List.set_cons_zero, List.set_cons_succ]
  refine tk 13 (v := ?vn14) ?yn14 hS ?_
  case yn14 =>
    intro w hSw
    obtain ⟨j1, j2, j3, j4⟩ := hSw
    go_simp; all_goals (with_reducible rfl)
  simp only [Act.put, List.setIfInBounds_toArray, List.set_cons_zero, List.set_cons_succ]
  refine tk 14 (v := ?vn15) ?yn15 hS ?_
  case yn15 =>
    intro w hSw
    go_simp; all_goals (with_reducible rfl)
  simp only [Act.put, List.setIfInBounds_toArray, List.set_cons_zero, List.set_cons_succ]
  refine tk 15 (v := ?vn16) ?yn16 hS ?_
  case yn16 =>
    intro w hSw
    go_simp; all_goals (with_reducible rfl)
  simp only [Act.put, List.setIfInBounds_toArray, List.set_cons_zero, List.set_cons_succ]
  refine tk 16 (v := ?vn17) ?yn17 hS ?_
  case yn17 =>
    intro w hSw
    go_simp; all_goals (with_reducible rfl)
  simp only [Act.put, List.setIfInBounds_toArray, List.set_cons_zero, List.set_cons_succ]
  refine tk 17 (v := ?vn18) ?yn18 hS ?_
  case yn18 =>
    intro w hSw
    go_simp; all_goals (with_reducible rfl)
  simp only [Act.put, List.setIfInBounds_toArray, List.set_cons_zero, List.set_cons_succ]
  refine tk 18 (v := ?vn19) ?yn19 hS ?_
  case yn19 =>
    intro w hSw
    go_simp; all_goals (with_reducible rfl)
  simp only [Act.put, List.setIfInBounds_toArray, List.set_cons_zero, List.set_cons_succ]
  refine tk 19 (v := ?vn20) ?yn20 hS ?_
  case yn20 =>
    intro w hSw
    obtain ⟨j1, j2, j3, j4⟩ := hSw
    go_simp; all_goals (with_reducible rfl)
  simp only [Act.put, List.setIfInBounds_toArray, List.set_cons_zero, List.set_cons_succ]
  refine tk 20 (v := ?vn21) ?yn21 hS ?_
  case yn21 =>
    intro w hSw
    go_simp; all_goals (with_reducible rfl)
  simp only [Act.put, List.setIfInBounds_toArray, List.set_cons_zero, List.set_cons_succ]
  refine tk 21 (v := ?vn22) ?yn22 hS ?_
  case yn22 =>
    intro w hSw
    go_simp; all_goals (with_reducible rfl)
  simp only [Act.put, List.setIfInBounds_toArray, List.set_cons_zero, List.set_cons_succ]
  refine tk 22 (v := ?vn23) ?yn23 hS ?_
  case yn23 =>
    intro w hSw
    go_simp; all_goals (with_reducible rfl)
  simp only [Act.put, List.setIfInBounds_toArray, List.set_cons_zero, List.set_cons_succ]
  refine wpAnyH_done (by kernel_rfl) ?_ _
  rw [HCF.out]
  have hsr : Value.slice (some ⟨b, off, none⟩) L c = .slice (some ⟨b, off, none⟩) l.length c := by rw [HL.out]
  have HSR := Lib.hid hsr
  have hon : Own w.heap.size w.drew (.slice none 0 0) [] := Own.nil _ _
  have hs0 : w.heap.size ≤ w.drew.heap.size := Nat.le_refl _
  have hfit2 : ([] : List UInt8).length + l.length ≤ 140737488355328 := by rw [HL.out]; exact hfit
  have hdr : Below w.heap.size w w.drew := (Below.refl _ _).drew
  generalize hC : Rd.code0 l = C at *
  have HC := Lib.hid hC
  clear hsr k0 k1 k2 k3 k4 HCF hC
  generalize w.drew = wd at *
  go_wp2_with (at_builtin; refine wpList_append_bytes rfl (.const (.slice none 0 0)) (.tmp 35) rfl w.heap.size wd (.slice none 0 0) [] rfl hon (some ⟨b, off, none⟩) l c HSR.out hBd hfit2 hs0 ?_; intro v2 w4 ho4 hg4; have hb4 : Below w.heap.size w w4 := below_grown hdr hg4 hs0 (fun g' hg' => by cases hg'); rw [List.nil_append] at ho4; unfold Own at ho4; rw [HL.out] at ho4; obtain ⟨gb, capb, rfl, hgb, hgblt⟩ := World.ownsRow.form ho4 g0)
  go_ret2
  have hsz := hb4.size
  obtain ⟨A2, c2, he, _, _, hrd⟩ := Own.read (base := w.heap.size) (l := l) (by unfold Own; rw [HL.out]; exact ho4)
  injection he with he1 he2 he3
  subst he1
  refine ⟨w4.heap.size, gb, capb, rfl, ⟨C, 4294967295, fun _ => ⟨HC.out.symm, rfl⟩, ?_, hrd.alloc _, by omega, by simp; omega⟩, hb4.alloc hsz _, hsz, hgb⟩
  rw [HL.out]
  exact heap_alloc_new w4 _
end Go.Proofs.Ytkckjjchfccdjaa

/- A decoder follows what was coded. Plain mathematics. -/
namespace Go.Proofs.Ytkckjjchfccdjaa
set_option maxRecDepth 100000

namespace Rc
/-- A later state lies inside an earlier one. -/
def Inside (s S : St) : Prop := s.k ≤ S.k ∧ s.v * 256 ^ (S.k - s.k) ≤ S.v ∧ S.v + S.r ≤ (s.v + s.r) * 256 ^ (S.k - s.k)
theorem Inside.refl (s : St) : Inside s s := ⟨Nat.le_refl _, by simp, by simp⟩
theorem Inside.trans {a b c : St} (h : Inside a b) (k : Inside b c) : Inside a c := by
  obtain ⟨h1, h2, h3⟩ := h
  obtain ⟨k1, k2, k3⟩ := k
  have e : 256 ^ (c.k - a.k) = 256 ^ (b.k - a.k) * 256 ^ (c.k - b.k) := by rw [← Nat.pow_add]; congr 1; omega
  refine ⟨by omega, ?_, ?_⟩
  · rw [e, ← Nat.mul_assoc]
    exact Nat.le_trans (Nat.mul_le_mul_right _ h2) k2
  · rw [e, ← Nat.mul_assoc]
    exact Nat.le_trans k3 (Nat.mul_le_mul_right _ h3)
theorem inside_up (s : St) : Inside s s.up := by
  refine ⟨by show s.k ≤ s.k + 1; omega, ?_, ?_⟩
  · show s.v * 256 ^ (s.k + 1 - s.k) ≤ s.v * 256
    rw [show s.k + 1 - s.k = 1 by omega]; omega
  · show s.v * 256 + s.r * 256 ≤ (s.v + s.r) * 256 ^ (s.k + 1 - s.k)
    rw [show s.k + 1 - s.k = 1 by omega]; omega
theorem inside_scale : ∀ (N : Nat) (s : St), Inside s (St.scale N s)
  | 0, s => Inside.refl s
  | N + 1, s => by
    rw [St.scale]; split
    · exact (inside_up s).trans (inside_scale N s.up)
    · exact Inside.refl s
theorem inside_pick (s : St) (p : Nat) (one : Bool) (h2 : p ≤ 2047) : Inside s (s.pick p one) := by
  have k2 : s.r / 2048 * p ≤ s.r / 2048 * 2047 := Nat.mul_le_mul_left _ h2
  have hr : s.r / 2048 * 2047 ≤ s.r := by omega
  unfold St.pick Inside
  cases one
  · simp only [Bool.false_eq_true, if_false, Nat.sub_self, Nat.pow_zero, Nat.mul_one]; omega
  · simp only [if_true, Nat.sub_self, Nat.pow_zero, Nat.mul_one]; omega
theorem inside_half (s : St) (one : Bool) : Inside s (s.half one) := by
  unfold St.half Inside
  cases one
  · simp only [Bool.false_eq_true, if_false, Nat.sub_self, Nat.pow_zero, Nat.mul_one]; omega
  · simp only [if_true, Nat.sub_self, Nat.pow_zero, Nat.mul_one]; omega
theorem inside_bit (s : St) (c : Nat) (one : Bool) : Inside s (s.bit c one) := (inside_pick s _ one (fair_bounds c).2).trans (inside_scale 2 _)
theorem inside_plain (s : St) : ∀ (n x : Nat), Inside s (s.plain x n)
  | 0, _ => Inside.refl s
  | n + 1, x => ((inside_plain s n (x / 2)).trans (inside_half _ _)).trans (inside_scale 1 _)

/-- The first bytes of what is coded at last. -/
def top (S : St) (k : Nat) : Nat := S.v / 256 ^ (S.k - k)
theorem Inside.bounds {s S : St} (h : Inside s S) (hr : 0 < S.r) : s.v ≤ top S s.k ∧ top S s.k < s.v + s.r := by
  obtain ⟨h1, h2, h3⟩ := h
  have hp : 0 < 256 ^ (S.k - s.k) := Nat.pos_of_ne_zero (by simp)
  unfold top
  exact ⟨(Nat.le_div_iff_mul_le hp).2 h2, (Nat.div_lt_iff_lt_mul hp).2 (by omega)⟩
theorem top_step (S : St) (k : Nat) (h : k < S.k) : top S k = top S (k + 1) / 256 := by
  unfold top
  rw [Nat.div_div_eq_div_mul, ← Nat.pow_succ, show (S.k - (k + 1)).succ = S.k - k by omega]
end Rc

/-- Bytes that are like those of what is coded, as far as they go. -/
def Agree (S : Rc.St) (L : List UInt8) : Prop := ∀ i (h : i < L.length), i < 5 + S.k → (L[i]).toNat = S.v / 256 ^ (4 + S.k - i) % 256
/-- The decoder has read just what the coder had coded. -/
def Follows (S : Rc.St) (L : List UInt8) (s : Rc.St) (d : Rd.St) : Prop :=
  (5 + s.k ≤ L.length → d = ⟨5 + s.k, Rc.top S s.k - s.v, s.r, false⟩) ∧ (¬ 5 + s.k ≤ L.length → d.out = true)

theorem follow_up {S : Rc.St} {L : List UInt8} (hA : Agree S L) (hS : 0 < S.r) {s : Rc.St} (hI : Rc.Inside s.up S) (hr : s.r < 16777216) (ho : 5 + s.k ≤ L.length) :
    Follows S L s.up (Rd.next L ⟨5 + s.k, Rc.top S s.k - s.v, s.r, false⟩) := by
  have hk : s.k + 1 ≤ S.k := hI.1
  obtain ⟨b1, b2⟩ := ((Rc.inside_up s).trans hI).bounds hS
  have ht := Rc.top_step S s.k (by omega)
  refine ⟨fun hn => ?_, fun hn => ?_⟩
  · have hn' : 5 + (s.k + 1) ≤ L.length := hn
    have hlt : 5 + s.k < L.length := by omega
    rw [Rd.next_in (s := ⟨5 + s.k, Rc.top S s.k - s.v, s.r, false⟩) hlt]
    have hb := hA (5 + s.k) hlt (by omega)
    have hb2 : (L[5 + s.k]).toNat = Rc.top S (s.k + 1) % 256 := by rw [hb]; unfold Rc.top; rw [show 4 + S.k - (5 + s.k) = S.k - (s.k + 1) by omega]
    show (⟨5 + s.k + 1, (256 * (Rc.top S s.k - s.v) + (L[5 + s.k]).toNat) % 4294967296, s.r * 256, false⟩ : Rd.St) = ⟨5 + (s.k + 1), Rc.top S (s.k + 1) - s.v * 256, s.r * 256, false⟩
    rw [hb2]
    generalize Rc.top S (s.k + 1) = T at *
    generalize Rc.top S s.k = U at *
    have e : (256 * (U - s.v) + T % 256) % 4294967296 = T - s.v * 256 := by omega
    rw [e]; rfl
  · have hn' : ¬ 5 + (s.k + 1) ≤ L.length := hn
    rw [Rd.next_end (s := ⟨5 + s.k, Rc.top S s.k - s.v, s.r, false⟩) (by show ¬ 5 + s.k < L.length; omega)]

theorem follow_scale {S : Rc.St} {L : List UInt8} (hA : Agree S L) (hS : 0 < S.r) : ∀ (N : Nat) (s : Rc.St) (d : Rd.St), Follows S L s d → Rc.Inside (Rc.St.scale N s) S → Follows S L (Rc.St.scale N s) (Rd.scale L N d)
  | 0, _, _, hF, _ => hF
  | N + 1, s, d, hF, hI => by
    by_cases hr : s.r < 16777216
    · rw [Rc.St.scale, if_pos hr] at hI ⊢
      have hI1 : Rc.Inside s.up S := (Rc.inside_scale N s.up).trans hI
      by_cases ho : 5 + s.k ≤ L.length
      · rw [hF.1 ho, Rd.scale_step rfl hr]
        exact follow_scale hA hS N s.up _ (follow_up hA hS hI1 hr ho) hI
      · have hd := hF.2 ho
        rw [Rd.scale_out hd]
        have := follow_scale hA hS N s.up d ⟨fun h => absurd (show 5 + (s.k + 1) ≤ L.length from h) (by omega), fun _ => hd⟩ hI
        rwa [Rd.scale_out hd] at this
    · rw [Rc.St.scale, if_neg hr] at hI ⊢
      by_cases ho : 5 + s.k ≤ L.length
      · rw [hF.1 ho, Rd.scale_big (show ¬ s.r < 16777216 from hr)]
        exact ⟨fun _ => rfl, fun h => absurd ho h⟩
      · have hd := hF.2 ho
        rw [Rd.scale_out hd]; exact hF

theorem follow_bit {S : Rc.St} {L : List UInt8} (hA : Agree S L) (hS : 0 < S.r) {s : Rc.St} {d : Rd.St} (c : Nat) (one : Bool) (hF : Follows S L s d) (hI : Rc.Inside (s.bit c one) S) :
    Follows S L (s.bit c one) (d.bit L (Rc.fair c)).2 ∧ (5 + (s.bit c one).k ≤ L.length → (d.bit L (Rc.fair c)).1 = one) := by
  obtain ⟨h1, h2⟩ := Rc.fair_bounds c
  have hk : s.k ≤ (s.bit c one).k := (Rc.inside_bit s c one).1
  by_cases ho : 5 + s.k ≤ L.length
  · have hd := hF.1 ho
    subst hd
    have hIp : Rc.Inside (s.pick (Rc.fair c) one) S := (Rc.inside_scale 2 _).trans hI
    obtain ⟨b1, b2⟩ := hIp.bounds hS
    have hb : Rd.St.bit L ⟨5 + s.k, Rc.top S s.k - s.v, s.r, false⟩ (Rc.fair c) = (Rd.St.one ⟨5 + s.k, Rc.top S s.k - s.v, s.r, false⟩ (Rc.fair c), Rd.scale L 2 (Rd.St.pick ⟨5 + s.k, Rc.top S s.k - s.v, s.r, false⟩ (Rc.fair c))) := rfl
    rw [hb]
    unfold Rc.St.bit at hI ⊢
    generalize Rc.fair c = p at *
    cases one with
    | true =>
      have b1' : s.v + s.r / 2048 * p ≤ Rc.top S s.k := b1
      have hle : s.r / 2048 * p ≤ Rc.top S s.k - s.v := by omega
      have e1 : Rd.St.one ⟨5 + s.k, Rc.top S s.k - s.v, s.r, false⟩ p = true := decide_eq_true hle
      have e2 : Rd.St.pick ⟨5 + s.k, Rc.top S s.k - s.v, s.r, false⟩ p = ⟨5 + s.k, Rc.top S s.k - s.v - s.r / 2048 * p, s.r - s.r / 2048 * p, false⟩ := if_pos hle
      rw [e1, e2]
      refine ⟨follow_scale hA hS 2 _ _ ⟨fun _ => ?_, fun h => absurd ho h⟩ hI, fun _ => rfl⟩
      show _ = (⟨5 + s.k, Rc.top S s.k - (s.v + s.r / 2048 * p), s.r - s.r / 2048 * p, false⟩ : Rd.St)
      rw [Nat.sub_sub]
    | false =>
      have b2' : Rc.top S s.k < s.v + s.r / 2048 * p := b2
      have b1' : s.v ≤ Rc.top S s.k := b1
      have hle : ¬ s.r / 2048 * p ≤ Rc.top S s.k - s.v := by omega
      have e1 : Rd.St.one ⟨5 + s.k, Rc.top S s.k - s.v, s.r, false⟩ p = false := decide_eq_false hle
      have e2 : Rd.St.pick ⟨5 + s.k, Rc.top S s.k - s.v, s.r, false⟩ p = ⟨5 + s.k, Rc.top S s.k - s.v, s.r / 2048 * p, false⟩ := if_neg hle
      rw [e1, e2]
      exact ⟨follow_scale hA hS 2 _ _ ⟨fun _ => rfl, fun h => absurd ho h⟩ hI, fun _ => rfl⟩
  · have hd := hF.2 ho
    have hb : d.bit L (Rc.fair c) = (false, d) := by unfold Rd.St.bit; rw [if_pos hd]
    rw [hb]
    exact ⟨⟨fun h => absurd h (by omega), fun _ => hd⟩, fun h => absurd h (by omega)⟩

theorem follow_rounds {S : Rc.St} {L : List UInt8} (hA : Agree S L) (hS : 0 < S.r) {s : Rc.St} {d : Rd.St} (hF : Follows S L s d) : ∀ (n x : Nat), Rc.Inside (s.plain x n) S →
    Follows S L (s.plain x n) (d.rounds L n).2 ∧ (5 + (s.plain x n).k ≤ L.length → (d.rounds L n).1 = x % 2 ^ n)
  | 0, x, _ => ⟨hF, fun _ => by show 0 = x % 1; omega⟩
  | n + 1, x, hI => by
    have hIh : Rc.Inside ((s.plain (x / 2) n).half (x % 2 == 1)) S := (Rc.inside_scale 1 _).trans hI
    have hIp : Rc.Inside (s.plain (x / 2) n) S := (Rc.inside_half _ _).trans hIh
    obtain ⟨f1, f2⟩ := follow_rounds hA hS hF n (x / 2) hIp
    have hpl : s.plain x (n + 1) = Rc.St.scale 1 ((s.plain (x / 2) n).half (x % 2 == 1)) := rfl
    have hk : (s.plain (x / 2) n).k ≤ (s.plain x (n + 1)).k := by
      rw [hpl]; exact ((Rc.inside_half _ _).trans (Rc.inside_scale 1 _)).1
    by_cases ho : 5 + (s.plain (x / 2) n).k ≤ L.length
    · have hq := f1.1 ho
      have hv := f2 ho
      have hrd : d.rounds L (n + 1) = (2 * (d.rounds L n).1 + (if (d.rounds L n).2.r / 2 ≤ (d.rounds L n).2.c then 1 else 0), Rd.scale L 1 (d.rounds L n).2.half) := by
        rw [Rd.St.rounds, if_neg (by rw [hq]; simp)]
      rw [hrd, hpl]
      have hmod : x % 2 ^ (n + 1) = 2 * (x / 2 % 2 ^ n) + x % 2 := by
        have h1 : x % 2 ^ (n + 1) / 2 = x / 2 % 2 ^ n := by rw [Nat.pow_succ, Nat.mul_comm, Nat.mod_mul_right_div_self]
        have h2 : x % 2 ^ (n + 1) % 2 = x % 2 := by rw [Nat.pow_succ, Nat.mod_mul_left_mod]
        omega
      rw [hmod, hv, hq]
      rw [hpl] at hI
      obtain ⟨b1, b2⟩ := hIh.bounds hS
      generalize s.plain (x / 2) n = q at *
      by_cases hx : x % 2 = 1
      · have hxb : (x % 2 == 1) = true := by simp [hx]
        rw [hxb] at hI b1 b2 ⊢
        have b1' : q.v + q.r / 2 ≤ Rc.top S q.k := b1
        have hle : q.r / 2 ≤ Rc.top S q.k - q.v := by omega
        have e2 : Rd.St.half ⟨5 + q.k, Rc.top S q.k - q.v, q.r, false⟩ = ⟨5 + q.k, Rc.top S q.k - q.v - q.r / 2, q.r / 2, false⟩ := if_pos hle
        refine ⟨?_, fun _ => by show 2 * _ + (if q.r / 2 ≤ Rc.top S q.k - q.v then 1 else 0) = _; rw [if_pos hle, hx]⟩
        show Follows S L _ (Rd.scale L 1 (Rd.St.half ⟨5 + q.k, Rc.top S q.k - q.v, q.r, false⟩))
        rw [e2]
        refine follow_scale hA hS 1 _ _ ⟨fun _ => ?_, fun h => absurd ho h⟩ hI
        show _ = (⟨5 + q.k, Rc.top S q.k - (q.v + q.r / 2), q.r / 2, false⟩ : Rd.St)
        rw [Nat.sub_sub]
      · have hxb : (x % 2 == 1) = false := by simp [hx]
        rw [hxb] at hI b1 b2 ⊢
        have b1' : q.v ≤ Rc.top S q.k := b1
        have b2' : Rc.top S q.k < q.v + q.r / 2 := b2
        have hle : ¬ q.r / 2 ≤ Rc.top S q.k - q.v := by omega
        have e2 : Rd.St.half ⟨5 + q.k, Rc.top S q.k - q.v, q.r, false⟩ = ⟨5 + q.k, Rc.top S q.k - q.v, q.r / 2, false⟩ := if_neg hle
        refine ⟨?_, fun _ => by show 2 * _ + (if q.r / 2 ≤ Rc.top S q.k - q.v then 1 else 0) = _; rw [if_neg hle]; omega⟩
        show Follows S L _ (Rd.scale L 1 (Rd.St.half ⟨5 + q.k, Rc.top S q.k - q.v, q.r, false⟩))
        rw [e2]
        exact follow_scale hA hS 1 _ _ ⟨fun _ => rfl, fun h => absurd ho h⟩ hI
    · have hq := f1.2 ho
      have hrd : d.rounds L (n + 1) = d.rounds L n := by rw [Rd.St.rounds, if_pos hq]
      rw [hrd]
      exact ⟨⟨fun h => absurd h (by omega), fun _ => hq⟩, fun h => absurd h (by omega)⟩

theorem follow_plain {S : Rc.St} {L : List UInt8} (hA : Agree S L) (hS : 0 < S.r) {s : Rc.St} {d : Rd.St} (hF : Follows S L s d) (n x : Nat) (hI : Rc.Inside (s.plain x n) S) :
    Follows S L (s.plain x n) (d.plain L n).2 ∧ (5 + (s.plain x n).k ≤ L.length → (d.plain L n).1 = x % 2 ^ n) := by
  obtain ⟨f1, f2⟩ := follow_rounds hA hS hF n x hI
  by_cases ho : 5 + (s.plain x n).k ≤ L.length
  · have hq := f1.1 ho
    have hp : d.plain L n = d.rounds L n := by unfold Rd.St.plain; rw [if_neg (by rw [hq]; simp)]
    rw [hp]; exact ⟨f1, f2⟩
  · have hq := f1.2 ho
    have hp : d.plain L n = (0, (d.rounds L n).2) := by unfold Rd.St.plain; rw [if_pos hq]
    rw [hp]; exact ⟨f1, fun h => absurd h ho⟩

theorem follow_start {S : Rc.St} {L : List UInt8} (hA : Agree S L) (hok : S.ok) (h5 : 5 ≤ L.length) : Follows S L st0 (Rd.start L) := by
  refine ⟨fun _ => ?_, fun h => absurd h5 h⟩
  have hv : S.v < 256 ^ (4 + S.k) := S.ok_small hok
  have hb : ∀ i, 1 ≤ i → i ≤ 4 → (L.getD i 0).toNat = S.v / 256 ^ S.k / 256 ^ (4 - i) % 256 := by
    intro i h1 h4
    have hg : L.getD i 0 = L[i]'(by omega) := by simp [List.getD, show i < L.length by omega]
    rw [hg, hA i (by omega) (by omega), Nat.div_div_eq_div_mul, ← Nat.pow_add, show S.k + (4 - i) = 4 + S.k - i by omega]
  have ht : S.v / 256 ^ S.k < 4294967296 := by
    rw [Nat.div_lt_iff_lt_mul (Nat.pos_of_ne_zero (by simp))]
    rw [Nat.pow_add] at hv; exact hv
  show (⟨5, Rd.code0 L, 4294967295, false⟩ : Rd.St) = ⟨5 + 0, S.v / 256 ^ (S.k - 0) - 0, 4294967295, false⟩
  have e1 := hb 1 (by omega) (by omega)
  have e2 := hb 2 (by omega) (by omega)
  have e3 := hb 3 (by omega) (by omega)
  have e4 := hb 4 (by omega) (by omega)
  rw [Nat.sub_zero, Nat.sub_zero]
  unfold Rd.code0
  rw [e1, e2, e3, e4]
  generalize S.v / 256 ^ S.k = T at *
  simp only [show (4 : Nat) - 1 = 3 from rfl, show (4 : Nat) - 2 = 2 from rfl, show (4 : Nat) - 3 = 1 from rfl, show (4 : Nat) - 4 = 0 from rfl, show (256 : Nat) ^ 3 = 16777216 from rfl, show (256 : Nat) ^ 2 = 65536 from rfl, show (256 : Nat) ^ 1 = 256 from rfl, show (256 : Nat) ^ 0 = 1 from rfl]
  have e : T / 16777216 % 256 * 16777216 + T / 65536 % 256 * 65536 + T / 256 % 256 * 256 + T / 1 % 256 = T := by omega
  rw [e]

theorem be_agree (S : Rc.St) : Agree S (Rc.be (5 + S.k) S.v) := by
  intro i h h5
  rw [Rc.be_get (5 + S.k) S.v i h5, UInt8.toNat_ofNat', show 5 + S.k - 1 - i = 4 + S.k - i by omega]; omega
/-- The first byte is 0. -/
theorem agree_zero {S : Rc.St} {L : List UInt8} (h : Agree S L) (hok : S.ok) (hl : 0 < L.length) : L.getD 0 0 = 0 := by
  have hg : L.getD 0 0 = L[0] := by simp [List.getD, hl]
  have hv : S.v < 256 ^ (4 + S.k) := S.ok_small hok
  rw [hg]
  apply UInt8.toNat_inj.1
  rw [h 0 hl (by omega), Nat.sub_zero, Nat.div_eq_of_lt hv]; rfl
end Go.Proofs.Ytkckjjchfccdjaa
