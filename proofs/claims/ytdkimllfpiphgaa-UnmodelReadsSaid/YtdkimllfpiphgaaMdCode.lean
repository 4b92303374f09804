/- The model's code: a bit with a chance of a table, by either coder of bits. -/
import Derived.Test.YtdkimllfpiphgaaSyBase
import Derived.Test.YtdkimllfpiphgaaRcKept
import Derived.Test.YtdkimllfpiphgaaRdPlain
namespace Go.Proofs.Ytdkimllfpiphgaa
open Go.RowKit

namespace Md
def eff (c : Nat) : Nat := if c = 0 then 1024 else c
theorem eff_fair {c : Nat} (h : c < 2048) : Rc.fair (eff c) = eff c := by unfold Rc.fair eff; split <;> split <;> omega
theorem eff_lt {c : Nat} (h : c < 2048) : eff c < 2048 := by unfold eff; split <;> omega
theorem eff_pos {c : Nat} (h : c ≠ 0) : eff c = c := by unfold eff; rw [if_neg h]
end Md
/-- What code comes to: a coder's step, and then a cell is stored. -/
def CodeDone (at_ : World → List Nat → Prop) (X : List Nat) (a : Addr) (bit : Bool) (p : Nat) (w : World) (e : Ending) (w' : World) : Prop :=
  e = .returned (.int .i64 (bitI bit)) ∧ ∃ w1 X', Only X w w1 ∧ at_ w1 X' ∧ (∀ i ∈ X', i ∈ X ∨ w.heap.size ≤ i) ∧ w' = w1.setCell a (.int .u16 (p : Nat))
def encAt (g : Nat) (s : Rc.St) (w : World) (X : List Nat) : Prop := ∃ o cap, X = [g, o] ∧ EncAt w g o cap s
def decAt (g o cap : Nat) (l : List UInt8) (s : Rd.St) (w : World) (X : List Nat) : Prop := X = [g, o] ∧ DecIs w g o cap l s
theorem cell_only {X : List Nat} {w w' : World} {a : Addr} {v : Value} (h : Only X w w') (hX : a.block ∉ X) (hc : w.cell? a = some v) : w'.cell? a = some v := by
  have hb : a.block < w.heap.size := block_lt_of_cell hc
  have e := h.block _ hb hX
  unfold World.cell? at hc ⊢
  rw [e]; exact hc
theorem frozen_only {X : List Nat} {w w' : World} {a : Addr} {b : Bool} (h : Only X w w') (hX : a.block ∉ X) (hl : a.block < w.heap.size) (hc : w.frozen? a = b) : w'.frozen? a = b := by
  have e := h.block _ hl hX
  unfold World.frozen? at hc ⊢
  rw [e]; exact hc

theorem Only.undrewN {X : List Nat} {a b : World} {n : Nat} (h : Only X (a.drewN n) b) : Only X a b := ⟨h.os, h.tape, h.output, h.size, h.block⟩
set_option maxRecDepth 100000 in
set_option maxHeartbeats 1000000 in
theorem code_enc (g o cap : Nat) (s : Rc.St) (b off n cp j c : Nat) (one : Bool) (w : World) (hE : EncAt w g o cap s) (hs : s.ok) (hk : 1 + s.k + 2 ≤ 140737488355328) (hX : b ∉ [g, o]) (hj : j < n) (hn : n ≤ cp) (hcp : cp ≤ 9223372036854775807)
    (hc : w.cell? ⟨b, off + j, none⟩ = some (.int .u16 (c : Nat))) (hf : w.frozen? ⟨b, off + j, none⟩ = false) (hcl : c < 2048) :
    Calls Try.prog 33 #[.iface 54 (.pointer (some ⟨g, 0, none⟩)), .slice (some ⟨b, off, none⟩) n cp, .int .i64 (j : Nat), .bool one] w
      (CodeDone (encAt g (Rc.St.scale 2 (s.pick (Md.eff c) one))) [g, o] ⟨b, off + j, none⟩ one (Rc.next (Md.eff c) one) w) := by
  have hm : ∀ w, (method 243 54 (.pointer (some ⟨g, 0, none⟩)) "Bit").run Try.prog w = .ok (90, .pointer (some ⟨g, 0, none⟩)) w := fun w => by kernel_rfl
  have hji : (j : Int) < (n : Int) := by omega
  have hni : (n : Int) ≤ 9223372036854775807 := by omega
  have HBIT := Lib.hid (fun (m : Nat) => show Calls Try.prog 90 #[.pointer (some ⟨g, 0, none⟩), .int .u16 (Md.eff c : Nat), .int .i64 (bitI one)] (w.drewN m) (BitDone (w.drewN m) g o (bitI one) (Rc.next (Md.eff c) one) (Rc.St.scale 2 (s.pick (Md.eff c) one))) from by
    have hbit := bit_any g o cap s (BitVec.ofNat 16 (Md.eff c)) (bitI one) (w.drewN m) ⟨hE.blk, hE.own, hE.ne⟩ hs hk
    have e0 : (BitVec.ofNat 16 (Md.eff c)).toNat = Md.eff c := by have := Md.eff_lt hcl; simp; omega
    have e1 : (bitI one != 0) = one := by cases one <;> rfl
    rw [e0, Md.eff_fair hcl, e1] at hbit
    exact hbit)
  have HX := Lib.hid hX
  have HC := Lib.hid hc
  have HF := Lib.hid hf
  clear hE hs hk hX hf
  obtain ⟨T, hT⟩ : ∃ T, Rc.St.scale 2 (s.pick (Md.eff c) one) = T := ⟨_, rfl⟩
  rw [hT] at HBIT ⊢
  obtain ⟨N, hN⟩ : ∃ N, Rc.next (Md.eff c) one = N := ⟨_, rfl⟩
  rw [hN] at HBIT ⊢
  clear hT hN
  by_cases h0 : c = 0
  · subst h0
    rw [show Md.eff 0 = 1024 from rfl] at HBIT
    cases one
    all_goals
      simp only [bitI, Bool.false_eq_true, if_false, if_true] at HBIT
      go_enter Try.func33, Try.ntmps33
      go_wp2_with fail
      go_quiet (fail)
      go_wp2_with fail
      refine (HBIT.out _).mono ?_
      rintro e w1 ⟨rfl, o', cap', hE1, hon, ho'⟩
      have hon' := Only.undrewN hon
      have hc1 := cell_only hon' HX.out HC.out
      have hf1 := frozen_only hon' HX.out (block_lt_of_cell HC.out) HF.out
      go_wp2_with fail
      go_ret
      exact ⟨rfl, w1, [g, o'], hon', ⟨o', cap', rfl, hE1⟩, by intro i hi; simp at hi; rcases hi with rfl | rfl; exact .inl (by simp); rcases ho' with h | h; exact .inl (by simp [h]); exact .inr h, rfl⟩

  · rw [Md.eff_pos h0] at HBIT
    have h0i : ((c : Nat) : Int) ≠ 0 := by omega
    have h0b : (((c : Nat) : Int) == 0) = false := beq_eq_false_iff_ne.2 h0i
    cases one
    all_goals
      simp only [bitI, Bool.false_eq_true, if_false, if_true] at HBIT
      go_enter Try.func33, Try.ntmps33
      go_wp2_with fail
      go_quiet (fail)
      go_wp2_with fail
      refine (HBIT.out _).mono ?_
      rintro e w1 ⟨rfl, o', cap', hE1, hon, ho'⟩
      have hon' := Only.undrewN hon
      have hc1 := cell_only hon' HX.out HC.out
      have hf1 := frozen_only hon' HX.out (block_lt_of_cell HC.out) HF.out
      go_wp2_with fail
      go_ret
      exact ⟨rfl, w1, [g, o'], hon', ⟨o', cap', rfl, hE1⟩, by intro i hi; simp at hi; rcases hi with rfl | rfl; exact .inl (by simp); rcases ho' with h | h; exact .inl (by simp [h]); exact .inr h, rfl⟩

set_option maxRecDepth 100000 in
set_option maxHeartbeats 1000000 in
theorem code_dec (g o cap : Nat) (l : List UInt8) (s : Rd.St) (b off n cp j c : Nat) (one : Bool) (w : World) (hE : DecIs w g o cap l s) (hs : s.ok l) (hl : l.length ≤ 140737488355328) (hX : b ∉ [g, o]) (hj : j < n) (hn : n ≤ cp) (hcp : cp ≤ 9223372036854775807)
    (hc : w.cell? ⟨b, off + j, none⟩ = some (.int .u16 (c : Nat))) (hf : w.frozen? ⟨b, off + j, none⟩ = false) (hcl : c < 2048) :
    Calls Try.prog 33 #[.iface 25 (.pointer (some ⟨g, 0, none⟩)), .slice (some ⟨b, off, none⟩) n cp, .int .i64 (j : Nat), .bool one] w
      (CodeDone (decAt g o cap l (s.bit l (Md.eff c)).2) [g, o] ⟨b, off + j, none⟩ (s.bit l (Md.eff c)).1 (Rc.next (Md.eff c) (s.bit l (Md.eff c)).1) w) := by
  have hm : ∀ w, (method 243 25 (.pointer (some ⟨g, 0, none⟩)) "Bit").run Try.prog w = .ok (85, .pointer (some ⟨g, 0, none⟩)) w := fun w => by kernel_rfl
  have hji : (j : Int) < (n : Int) := by omega
  have hni : (n : Int) ≤ 9223372036854775807 := by omega
  have HBIT := Lib.hid (fun (m : Nat) => show Calls Try.prog 85 #[.pointer (some ⟨g, 0, none⟩), .int .u16 (Md.eff c : Nat), .int .i64 (bitI one)] (w.drewN m) (DBit (w.drewN m) g o cap l (s.bit l (Md.eff c)).1 (Rc.next (Md.eff c) (s.bit l (Md.eff c)).1) (s.bit l (Md.eff c)).2) from by
    have hbit := dbit_any g o cap l s (BitVec.ofNat 16 (Md.eff c)) (bitI one) (w.drewN m) (hE.below (below_drewN (Below.refl _ _) m)) hs hl
    have e0 : (BitVec.ofNat 16 (Md.eff c)).toNat = Md.eff c := by have := Md.eff_lt hcl; simp; omega
    rw [e0, Md.eff_fair hcl] at hbit
    exact hbit)
  have HX := Lib.hid hX
  have HC := Lib.hid hc
  have HF := Lib.hid hf
  clear hE hs hl hX hf
  obtain ⟨⟨B, T⟩, hT⟩ : ∃ z, s.bit l (Md.eff c) = z := ⟨_, rfl⟩
  rw [hT] at HBIT ⊢
  simp only at HBIT ⊢
  obtain ⟨N, hN⟩ : ∃ N, Rc.next (Md.eff c) B = N := ⟨_, rfl⟩
  rw [hN] at HBIT ⊢
  clear hT hN
  by_cases h0 : c = 0
  · subst h0
    rw [show Md.eff 0 = 1024 from rfl] at HBIT
    cases one <;> cases B
    all_goals
      simp only [bitI, Bool.false_eq_true, if_false, if_true] at HBIT
      go_enter Try.func33, Try.ntmps33
      go_wp2_with fail
      go_quiet (fail)
      go_wp2_with fail
      refine (HBIT.out _).mono ?_
      rintro e w1 ⟨rfl, hE1, hon⟩
      have hon' : Only [g, o] w w1 := (Only.refl _ _).trans (Only.undrewN hon) (by intro i hi; simp at hi; exact .inl (by simp [hi]))
      have hc1 := cell_only hon' HX.out HC.out
      have hf1 := frozen_only hon' HX.out (block_lt_of_cell HC.out) HF.out
      go_wp2_with fail
      go_ret
      exact ⟨rfl, w1, [g, o], hon', ⟨rfl, hE1⟩, fun i hi => .inl hi, rfl⟩

  · rw [Md.eff_pos h0] at HBIT
    have h0i : ((c : Nat) : Int) ≠ 0 := by omega
    have h0b : (((c : Nat) : Int) == 0) = false := beq_eq_false_iff_ne.2 h0i
    cases one <;> cases B
    all_goals
      simp only [bitI, Bool.false_eq_true, if_false, if_true] at HBIT
      go_enter Try.func33, Try.ntmps33
      go_wp2_with fail
      go_quiet (fail)
      go_wp2_with fail
      refine (HBIT.out _).mono ?_
      rintro e w1 ⟨rfl, hE1, hon⟩
      have hon' : Only [g, o] w w1 := (Only.refl _ _).trans (Only.undrewN hon) (by intro i hi; simp at hi; exact .inl (by simp [hi]))
      have hc1 := cell_only hon' HX.out HC.out
      have hf1 := frozen_only hon' HX.out (block_lt_of_cell HC.out) HF.out
      go_wp2_with fail
      go_ret
      exact ⟨rfl, w1, [g, o], hon', ⟨rfl, hE1⟩, fun i hi => .inl hi, rfl⟩

end Go.Proofs.Ytdkimllfpiphgaa
