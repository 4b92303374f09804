/- slices.Clone of bytes. -/
import Derived.Test.YtnglkipjiojipaaFdFours
namespace Go.Proofs.Ytnglkipjiojipaa
open Go.RowKit

theorem eqIn_sl (d : Nat) (A : Option Addr) (n c : Nat) (w : World) : (Op.equalIn (d + 1) 22 (.slice A n c) (.slice none 0 0)).run Try.prog w = .ok A.isNone w := by
  cases A <;> simp [Op.equalIn, run_underlying Try.underlying22]
theorem eq_sl (A : Option Addr) (n c : Nat) (w : World) : (binOp .eql 22 (.slice A n c) (.slice none 0 0)).run Try.prog w = .ok (.bool A.isNone) w := by
  have e : Op.maxDepth = 9999 + 1 := rfl
  simp only [binOp, Op.equal, e, Sem.run_bind, Sem.run_pure, eqIn_sl, Result.andThen_ok]
def CloneDone (l : List UInt8) (w : World) (e : Ending) (w' : World) : Prop := ∃ v, e = .returned v ∧ Own w.heap.size w' v l ∧ Below w.heap.size w w'
set_option maxRecDepth 100000 in
set_option maxHeartbeats 1000000 in
theorem clone_any (A : Option Addr) (l : List UInt8) (c : Nat) (w : World) (hB : Bytes w A l) (hc : l.length ≤ c) (hl : l.length ≤ 100000) :
    Calls Try.prog 13 #[.slice A l.length c] w (CloneDone l w) := by
  cases A with
  | none =>
    obtain rfl : l = [] := by
      rcases Nat.eq_zero_or_pos l.length with h | h
      · exact List.eq_nil_of_length_eq_zero h
      · obtain ⟨_, _, e, _⟩ := hB.addr h; cases e
    clear hB
    have hq := eq_sl none 0 c w
    simp only [Option.isNone] at hq
    go_enter Try.func13, Try.ntmps13
    go_wp2_with fail
    go_ret
    exact ⟨_, rfl, Own.nil _ _, Below.refl _ _⟩
  | some a =>
    have hlen : ([] : List UInt8).length + l.length ≤ 140737488355328 := by simp; omega
    have ho := Own.lit (base := w.heap.size) w [] (Nat.le_refl _) (by simp)
    have hb0 : Below w.heap.size w (w.alloc (.cells (([] : List UInt8).map B8).toArray 5)) := (Below.refl _ _).alloc (Nat.le_refl _) _
    have hs0 := hb0.size
    have HB := Lib.hid hB
    clear hB
    have hq := eq_sl (some a) l.length c w
    simp only [Option.isNone] at hq
    go_enter Try.func13, Try.ntmps13
    go_wp2_with (at_builtin; refine wpList_append_bytes rfl (.tmp 5) (.tmp 6) rfl w.heap.size _ _ [] rfl ho (some a) l c rfl (HB.out.below hb0) hlen hs0 ?_; intro v1 w1 ho1 hg1; have hb1 : Below w.heap.size w w1 := below_grown hb0 hg1 hs0 (fun g e => (ho.from_base g e).1))
    go_ret
    exact ⟨_, rfl, by simpa using ho1, hb1⟩
end Go.Proofs.Ytnglkipjiojipaa
