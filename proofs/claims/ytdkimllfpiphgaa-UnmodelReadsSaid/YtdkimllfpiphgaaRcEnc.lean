/- The walks over rcenc's coder. -/
import Derived.Test.YtdkimllfpiphgaaBase
import Derived.Test.YtdkimllfpiphgaaRcMath
import Derived.BigRegion
namespace Go.Proofs.Ytdkimllfpiphgaa
open Go.RowKit

/-- Only the blocks of a list, and new ones, have turned. -/
structure Only (X : List Nat) (w w' : World) : Prop where
  os : w'.os = w.os
  tape : w'.tape = w.tape
  output : w'.output = w.output
  size : w.heap.size ≤ w'.heap.size
  block : ∀ i, i < w.heap.size → i ∉ X → w'.heap[i]? = w.heap[i]?
theorem Only.refl (X : List Nat) (w : World) : Only X w w := ⟨rfl, rfl, rfl, Nat.le_refl _, fun _ _ _ => rfl⟩
theorem Only.trans {X Y : List Nat} {a b c : World} (h : Only X a b) (k : Only Y b c) (hY : ∀ i ∈ Y, i ∈ X ∨ a.heap.size ≤ i) : Only X a c :=
  ⟨k.os.trans h.os, k.tape.trans h.tape, k.output.trans h.output, Nat.le_trans h.size k.size, fun i hi hX =>
    (k.block i (Nat.lt_of_lt_of_le hi h.size) (fun hm => by rcases hY i hm with h1 | h1; exact hX h1; omega)).trans (h.block i hi hX)⟩
theorem Only.alloc {X : List Nat} {a b : World} (h : Only X a b) (o : Obj) : Only X a (b.alloc o) :=
  h.trans (Y := []) ⟨rfl, rfl, rfl, by simp, fun i hi _ => Below.heap_alloc b o i hi⟩ (by simp)
theorem Only.setCell {X : List Nat} {a b : World} (h : Only X a b) {p : Addr} (hp : p.block ∈ X ∨ a.heap.size ≤ p.block) (u : Value) : Only X a (b.setCell p u) :=
  h.trans (Y := [p.block]) ⟨rfl, rfl, rfl, by simp, fun i _ hm => Below.heap_setCell b p u i (by simpa using hm)⟩ (by simpa using hp)
theorem Only.drew {X : List Nat} {a b : World} (h : Only X a b) : Only X a b.drew := ⟨h.os, h.tape, h.output, h.size, h.block⟩
theorem Only.grown {X : List Nat} {a b c : World} (h : Only X a b) {o : Nat} (hg : b.grownBy c (some o)) (ho : o ∈ X ∨ a.heap.size ≤ o) : Only X a c :=
  h.trans (Y := [o]) ⟨hg.os, hg.tape, hg.output, hg.size, fun i hi hm => hg.block i hi (by simpa using hm)⟩ (by simpa using ho)
theorem Only.below {X : List Nat} {a b : World} {B : Nat} (h : Only X a b) (hB : B ≤ a.heap.size) (hX : ∀ i ∈ X, B ≤ i) : Below B a b :=
  ⟨h.os, h.tape, h.output, h.size, fun i hi => h.block i (by omega) (fun hm => by have := hX i hm; omega)⟩

/-- The coder in memory: its struct in block g, its bytes in block o. -/
structure EncAt (w : World) (g o cap : Nat) (s : Rc.St) : Prop where
  blk : w.heap[g]? = some (.cells #[.int .u32 ((s.v % 4294967296 : Nat) : Int), .int .u32 ((s.r : Nat) : Int), .slice (some ⟨o, 0, none⟩) (1 + s.k) cap] 96 (0, 0))
  own : w.ownsRow 0 5 1 (.slice (some ⟨o, 0, none⟩) (1 + s.k) cap) (1 + s.k) ((Rc.be (1 + s.k) (s.v / 4294967296)).map B8)
  ne : g ≠ o

set_option maxHeartbeats 400000 in
theorem valid_any (c : BitVec 16) (w : World) : Calls Try.prog 93 #[.int .u16 c.toNat] w fun e w' => e = .returned (.int .u16 (Rc.fair c.toNat : Nat)) ∧ w = w' := by
  have hc := c.isLt
  by_cases h1 : c.toNat < 1
  · have hf : Rc.fair c.toNat = 1024 := by unfold Rc.fair; rw [if_pos (.inl h1)]
    rw [hf]
    have h1' : (c.toNat : Int) < 1 := by omega
    go_enter Try.func93, Try.ntmps93
    go_wp2_with fail
    go_ret
    exact ⟨rfl, rfl⟩
  · by_cases h2 : 2048 ≤ c.toNat
    · have hf : Rc.fair c.toNat = 1024 := by unfold Rc.fair; rw [if_pos (.inr h2)]
      rw [hf]
      have h1' : ¬ (c.toNat : Int) < 1 := by omega
      have h2' : (2048 : Int) ≤ c.toNat := by omega
      go_enter Try.func93, Try.ntmps93
      go_wp2_with fail
      go_ret
      exact ⟨rfl, rfl⟩
    · have hf : Rc.fair c.toNat = c.toNat := by unfold Rc.fair; rw [if_neg (by omega)]
      rw [hf]
      have h1' : ¬ (c.toNat : Int) < 1 := by omega
      have h2' : ¬ (2048 : Int) ≤ c.toNat := by omega
      go_enter Try.func93, Try.ntmps93
      go_wp2_with fail
      go_ret
      exact ⟨rfl, rfl⟩

def bitI (one : Bool) : Int := if one then 1 else 0
set_option maxHeartbeats 400000 in
theorem moved_any (p : Nat) (one : Bool) (w : World) (h1 : 1 ≤ p) (h2 : p ≤ 2047) : Calls Try.prog 94 #[.int .u16 p, .int .i64 (bitI one)] w fun e w' => e = .returned (.int .u16 (Rc.next p one : Nat)) ∧ w = w' := by
  cases one
  · have hn : ((Rc.next p false : Nat) : Int) = (p : Int) + (2048 - (p : Int)) / 32 := by simp only [Rc.next, Bool.false_eq_true, if_false]; omega
    have HN := Lib.hid hn
    clear hn
    unfold bitI
    simp only [Bool.false_eq_true, if_false]
    go_enter Try.func94, Try.ntmps94
    go_wp2_with fail
    go_ret
    exact ⟨congrArg (fun n : Int => Ending.returned (Value.int .u16 n)) HN.out.symm, rfl⟩
  · have hn : ((Rc.next p true : Nat) : Int) = (p : Int) - (p : Int) / 32 := by simp only [Rc.next, if_true]; omega
    have HN := Lib.hid hn
    clear hn
    unfold bitI
    simp only [if_true]
    go_enter Try.func94, Try.ntmps94
    go_wp2_with fail
    go_ret
    exact ⟨congrArg (fun n : Int => Ending.returned (Value.int .u16 n)) HN.out.symm, rfl⟩
end Go.Proofs.Ytdkimllfpiphgaa
