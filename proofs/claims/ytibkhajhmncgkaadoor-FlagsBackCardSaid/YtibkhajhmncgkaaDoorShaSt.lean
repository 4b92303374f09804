/- A digest under way (mathematics). -/
import Derived.Test.YtibkhajhmncgkaaDoorShaRound
namespace Go.Proofs.YtibkhajhmncgkaaDoor
open Go.RowKit

structure St where
  ws : R8
  blk : List UInt8
  n : Nat
def St.put (s : St) (b : UInt8) : St := ⟨if s.n % 64 = 63 then mixS s.ws (s.blk.set (s.n % 64) b) else s.ws, s.blk.set (s.n % 64) b, s.n + 1⟩
def St.puts (s : St) (l : List UInt8) : St := l.foldl St.put s
theorem St.puts_append (s : St) (a b : List UInt8) : s.puts (a ++ b) = (s.puts a).puts b := by unfold St.puts; rw [List.foldl_append]
theorem St.puts_nil (s : St) : s.puts [] = s := rfl
theorem St.puts_cons (s : St) (b : UInt8) (l : List UInt8) : s.puts (b :: l) = (s.put b).puts l := rfl
/-- Bytes laid over others from a place on. -/
def lay (blk : List UInt8) (o : Nat) (l : List UInt8) : List UInt8 := blk.take o ++ (l ++ blk.drop (o + l.length))
theorem lay_nil (blk : List UInt8) (o : Nat) : lay blk o [] = blk := by simp [lay]
theorem lay_length (blk : List UInt8) (o : Nat) (l : List UInt8) (h : o + l.length ≤ blk.length) : (lay blk o l).length = blk.length := by
  unfold lay; simp; omega
theorem lay_cons (blk : List UInt8) (o : Nat) (b : UInt8) (l : List UInt8) (h : o < blk.length) : lay (blk.set o b) (o + 1) l = lay blk o (b :: l) := by
  unfold lay
  have h1 : (blk.set o b).take (o + 1) = blk.take o ++ [b] := by
    rw [List.take_succ_eq_append_getElem (by simpa using h), List.take_set_of_le (Nat.le_refl o)]
    simp
  have h2 : (blk.set o b).drop (o + 1 + l.length) = blk.drop (o + 1 + l.length) := List.drop_set_of_lt (by omega)
  rw [h1, h2]
  simp [show o + 1 + l.length = o + (l.length + 1) by omega]
theorem St.puts_chunk (l : List UInt8) : ∀ s : St, s.blk.length = 64 → s.n % 64 + l.length ≤ 64 →
    s.puts l = ⟨if s.n % 64 + l.length = 64 then mixS s.ws (lay s.blk (s.n % 64) l) else s.ws, lay s.blk (s.n % 64) l, s.n + l.length⟩ := by
  induction l with
  | nil =>
    intro s hb hl
    have : ¬ (s.n % 64 + ([] : List UInt8).length = 64) := by simp; omega
    rw [if_neg this, lay_nil]; rfl
  | cons b l ih =>
    intro s hb hl
    rw [St.puts_cons]
    simp only [List.length_cons] at hl ⊢
    have hc := lay_cons s.blk (s.n % 64) b l (by omega)
    by_cases h63 : s.n % 64 = 63
    · have : l = [] := List.eq_nil_of_length_eq_zero (by omega)
      subst this
      rw [St.puts_nil, lay_nil] at *
      unfold St.put
      rw [if_pos h63, if_pos (by simp; omega), ← hc]; simp
    · have hp : s.put b = ⟨s.ws, s.blk.set (s.n % 64) b, s.n + 1⟩ := by unfold St.put; rw [if_neg h63]
      have hn : (s.n + 1) % 64 = s.n % 64 + 1 := by omega
      have := ih (s.put b) (by rw [hp]; simpa using hb) (by rw [hp]; simp only; omega)
      rw [this, hp]
      simp only
      rw [hn, hc, show s.n % 64 + 1 + l.length = s.n % 64 + (l.length + 1) by omega, show s.n + 1 + l.length = s.n + (l.length + 1) by omega]
theorem St.puts_blk (l : List UInt8) : ∀ s : St, s.blk.length = 64 → (s.puts l).blk.length = 64 := by
  induction l with
  | nil => intro s h; exact h
  | cons b l ih => intro s h; exact ih _ (by unfold St.put; simpa using h)
theorem St.puts_n (l : List UInt8) : ∀ s : St, (s.puts l).n = s.n + l.length := by
  induction l with
  | nil => intro s; rfl
  | cons b l ih => intro s; rw [St.puts_cons, ih]; simp [St.put]; omega
/-- A hash's 73 cells. -/
def St.cells (s : St) : List Value := s.ws.agg.toList ++ (s.blk.map B8 ++ [.int .u64 (s.n : Nat)])
theorem St.cells_length (s : St) (h : s.blk.length = 64) : s.cells.length = 73 := by unfold St.cells; simp [h]
/-- The hash in memory. -/
structure HashAt (w : World) (g : Nat) (s : St) : Prop where
  at_ : w.heap[g]? = some (.cells s.cells.toArray 85 (0, 0))
  len : s.blk.length = 64
/-- But for some blocks, memory that was there is as it was. -/
structure Only (X : List Nat) (w w' : World) : Prop where
  os : w'.os = w.os
  tape : w'.tape = w.tape
  output : w'.output = w.output
  size : w.heap.size ≤ w'.heap.size
  block : ∀ i, i < w.heap.size → i ∉ X → w'.heap[i]? = w.heap[i]?
theorem Only.refl (X : List Nat) (w : World) : Only X w w := ⟨rfl, rfl, rfl, Nat.le_refl _, fun _ _ _ => rfl⟩
theorem Only.trans {X Y : List Nat} {a b c : World} (h : Only X a b) (k : Only Y b c) (hY : ∀ i ∈ Y, i ∈ X ∨ a.heap.size ≤ i) : Only X a c :=
  ⟨k.os.trans h.os, k.tape.trans h.tape, k.output.trans h.output, Nat.le_trans h.size k.size, fun i hi hX =>
    (k.block i (Nat.lt_of_lt_of_le hi h.size) (fun hm => by rcases hY i hm with h1 | h1; exact hX h1; omega)).trans (h.block i hi hX)⟩
theorem Only.alloc {X : List Nat} {a b : World} (h : Only X a b) (o : Obj) : Only X a (b.alloc o) :=
  h.trans (Y := []) ⟨rfl, rfl, rfl, by simp, fun i hi _ => Below.heap_alloc b o i hi⟩ (by simp)
theorem Only.setCell {X : List Nat} {a b : World} (h : Only X a b) {p : Addr} (hp : p.block ∈ X ∨ a.heap.size ≤ p.block) (u : Value) : Only X a (b.setCell p u) :=
  h.trans (Y := [p.block]) ⟨rfl, rfl, rfl, by simp, fun i _ hm => Below.heap_setCell b p u i (by simpa using hm)⟩ (by simpa using hp)
theorem Only.drew {X : List Nat} {a b : World} (h : Only X a b) : Only X a b.drew := ⟨h.os, h.tape, h.output, h.size, h.block⟩
theorem Only.grown {X : List Nat} {a b c : World} (h : Only X a b) {o : Nat} (hg : b.grownBy c (some o)) (ho : o ∈ X ∨ a.heap.size ≤ o) : Only X a c :=
  h.trans (Y := [o]) ⟨hg.os, hg.tape, hg.output, hg.size, fun i hi hm => hg.block i hi (by simpa using hm)⟩ (by simpa using ho)
theorem Only.below {X : List Nat} {a b : World} {B : Nat} (h : Only X a b) (hB : B ≤ a.heap.size) (hX : ∀ i ∈ X, B ≤ i) : Below B a b :=
  ⟨h.os, h.tape, h.output, h.size, fun i hi => h.block i (by omega) (fun hm => by have := hX i hm; omega)⟩

theorem HashAt.cellAt {w : World} {g : Nat} {s : St} (h : HashAt w g s) (i : Nat) : w.cell? ⟨g, i, none⟩ = s.cells[i]? := by
  rw [cell_of_row _ _ _ _ _ _ h.at_]; simp
theorem St.cell_n (s : St) (h : s.blk.length = 64) : s.cells[72]? = some (.int .u64 (s.n : Nat)) := by
  unfold St.cells
  rw [List.getElem?_append_right (by simp), List.getElem?_append_right (by simp [h])]
  simp [h]
theorem St.one (s : St) : ∀ v ∈ s.cells, v.oneCell' = true := by
  intro v hv
  unfold St.cells at hv
  simp only [List.mem_append, List.mem_map] at hv
  rcases hv with h | ⟨b, _, rfl⟩ | h
  · simp at h; rcases h with rfl | rfl | rfl | rfl | rfl | rfl | rfl | rfl <;> rfl
  · rfl
  · simp at h; subst h; rfl
end Go.Proofs.YtibkhajhmncgkaaDoor
