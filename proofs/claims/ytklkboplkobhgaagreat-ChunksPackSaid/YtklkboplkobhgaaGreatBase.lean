/- Words for memory that all texts of this seat use: a slice that reads as bytes, bytes of the call's own, an append onto them. -/
import Derived.Test.YtklkboplkobhgaaGreatRows
import Derived.WalkKit
import Derived.WalkSpells
import Derived.WalkLawsBesides
import Derived.Lib.Hide
import Derived.Deep.QuietTactic
import Derived.BigQuiet
import Derived.Deep.OwnRows
import Derived.Deep.WholeRow
import Derived.Deep.MidRow
import Derived.Deep.AppendLies
import Derived.Maps.AppendAt
import Derived.Laws.CopyOwn
import Derived.Lib.SlBytesConst
import Derived.Laws.BytesArg
namespace Go.Proofs.YtklkboplkobhgaaGreat
set_option maxRecDepth 100000
open Go.RowKit

/-- A byte as the model holds it. -/
abbrev B8 (b : UInt8) : Value := .int .u8 (b.toNat : Nat)

/-- A slice's address reads as these bytes. -/
def Bytes (w : World) (A : Option Addr) (l : List UInt8) : Prop :=
  l = [] ∨ ∃ b off, A = some ⟨b, off, none⟩ ∧ b < w.heap.size ∧ ∀ k (h : k < l.length), w.cell? ⟨b, off + k, none⟩ = some (.int .u8 (l[k].toNat : Nat))

theorem Bytes.keep {w w' : World} {A : Option Addr} {l : List UInt8} (h : Bytes w A l) (hs : w.heap.size ≤ w'.heap.size) (hc : ∀ p : Addr, A.map (·.block) = some p.block → p.block < w.heap.size → w'.cell? p = w.cell? p) : Bytes w' A l := by
  rcases h with h | ⟨b, off, rfl, hlt, hcell⟩
  · exact .inl h
  · exact .inr ⟨b, off, rfl, Nat.lt_of_lt_of_le hlt hs, fun k hk => (hc ⟨b, off + k, none⟩ rfl hlt).trans (hcell k hk)⟩
theorem Bytes.below {w w' : World} {A : Option Addr} {l : List UInt8} (h : Bytes w A l) (hb : Below w.heap.size w w') : Bytes w' A l :=
  h.keep hb.size fun _ _ hp => hb.cell hp
theorem Bytes.drewN {w : World} {A : Option Addr} {l : List UInt8} (h : Bytes w A l) (n : Nat) : Bytes (w.drewN n) A l := h
theorem Bytes.drew {w : World} {A : Option Addr} {l : List UInt8} (h : Bytes w A l) : Bytes w.drew A l := h
theorem Bytes.alloc {w : World} {A : Option Addr} {l : List UInt8} (h : Bytes w A l) (o : Obj) : Bytes (w.alloc o) A l := h.below ((Below.refl _ _).alloc (Nat.le_refl _) _)
theorem Bytes.nil {w : World} {A : Option Addr} : Bytes w A [] := .inl rfl
theorem Bytes.addr {w : World} {A : Option Addr} {l : List UInt8} (h : Bytes w A l) (hl : 0 < l.length) : ∃ b off, A = some ⟨b, off, none⟩ ∧ b < w.heap.size ∧ ∀ k (h : k < l.length), w.cell? ⟨b, off + k, none⟩ = some (.int .u8 (l[k].toNat : Nat)) := by
  rcases h with rfl | h
  · simp at hl
  · exact h
theorem Bytes.drop {w : World} {b off : Nat} {l : List UInt8} (j : Nat) (h : Bytes w (some ⟨b, off, none⟩) l) : Bytes w (some ⟨b, off + j, none⟩) (l.drop j) := by
  rcases h with rfl | ⟨b', off', e, hlt, hc⟩
  · exact .inl (by simp)
  · injection e with e; injection e with e1 e2; subst e1; subst e2
    refine .inr ⟨_, _, rfl, hlt, fun k hk => ?_⟩
    have hk' : j + k < l.length := by simp at hk; omega
    have := hc (j + k) hk'
    rw [List.getElem_drop, Nat.add_assoc]; exact this
theorem Bytes.take {w : World} {A : Option Addr} {l : List UInt8} (j : Nat) (h : Bytes w A l) : Bytes w A (l.take j) := by
  rcases h with rfl | ⟨b, off, rfl, hlt, hc⟩
  · exact .inl (by simp)
  · refine .inr ⟨_, _, rfl, hlt, fun k hk => ?_⟩
    have hk' : k < l.length := by simp at hk; omega
    rw [List.getElem_take]; exact hc k hk'
/-- s[k:] as the model makes it. -/
theorem Bytes.cutFrom {w : World} {A : Option Addr} {l : List UInt8} (h : Bytes w A l) {k c : Nat} (hk : k ≤ l.length) (hc : l.length ≤ c) : Bytes w (if c = k then A else A.map (·.add k)) (l.drop k) := by
  by_cases hck : c = k
  · exact .inl (List.drop_eq_nil_of_le (by omega))
  · rw [if_neg hck]
    rcases h with rfl | ⟨b, off, rfl, hlt, hcell⟩
    · exact .inl (by simp)
    · have e : (Option.some (⟨b, off, none⟩ : Addr)).map (·.add k) = Option.some ⟨b, off + k, none⟩ := by
        simp only [Option.map]; unfold Addr.add; split <;> simp_all
      rw [e]
      exact Bytes.drop k (.inr ⟨b, off, rfl, hlt, hcell⟩)

theorem below_drewN {B : Nat} {a w : World} (h : Below B a w) (n : Nat) : Below B a (w.drewN n) := ⟨h.os, h.tape, h.output, h.size, h.block⟩
theorem below_grown {B : Nat} {a w w' : World} (h : Below B a w) {row : Option Nat} (hg : w.grownBy w' row) (hB : B ≤ w.heap.size) (hr : ∀ g, row = some g → B ≤ g) : Below B a w' :=
  ⟨hg.os.trans h.os, hg.tape.trans h.tape, hg.output.trans h.output, Nat.le_trans h.size hg.size, fun i hi => (hg.block i (by omega) (fun e => by have := hr i e.symm; omega)).trans (h.block i hi)⟩

/-- Bytes of the call's own: a slice value in a block from base on (or nil), which may be appended to. -/
def Own (base : Nat) (w : World) (v : Value) (l : List UInt8) : Prop := w.ownsRow base 5 1 v l.length (l.map B8)

theorem Own.nil (base : Nat) (w : World) : Own base w (.slice none 0 0) [] := World.ownsRow_nil w base _ 1
theorem Own.alloc {base : Nat} {w : World} {v : Value} {l : List UInt8} (h : Own base w v l) (o : Obj) : Own base (w.alloc o) v l := World.ownsRow.alloc h o
theorem Own.drew {base : Nat} {w : World} {v : Value} {l : List UInt8} (h : Own base w v l) : Own base w.drew v l := h
theorem Own.drewN {base : Nat} {w : World} {v : Value} {l : List UInt8} (h : Own base w v l) (n : Nat) : Own base (w.drewN n) v l := h
theorem Own.below {base : Nat} {w w' : World} {v : Value} {l : List UInt8} (h : Own base w v l) (hb : Below w.heap.size w w') : Own base w' v l := by
  rcases h with ⟨h1, h2 | ⟨g, cap, cur, h2, h3, h4, h5⟩⟩
  · exact ⟨h1, .inl h2⟩
  · refine ⟨h1, .inr ⟨g, cap, cur, h2, h3, (hb.block g ?_).trans h4, h5⟩⟩
    rcases Nat.lt_or_ge g w.heap.size with h | h
    · exact h
    · rw [Array.getElem?_eq_none h] at h4; cases h4
/-- Own bytes as a slice that is read. -/
theorem Own.read {base : Nat} {w : World} {v : Value} {l : List UInt8} (h : Own base w v l) : ∃ A c, v = .slice A l.length c ∧ l.length ≤ c ∧ c ≤ 9223372036854775807 ∧ Bytes w A l := by
  rcases h with ⟨h1, ⟨rfl, h0⟩ | ⟨g, cap, cur, rfl, hb, hg, hnc, hcm, hsz, htake⟩⟩
  · have : l = [] := List.eq_nil_of_length_eq_zero h0
    subst this
    exact ⟨none, 0, rfl, by simp, by omega, .nil⟩
  · refine ⟨_, cap, rfl, hnc, by unfold maxLen at hcm; exact hcm, ?_⟩
    refine .inr ⟨g, 0, rfl, ?_, fun k hk => ?_⟩
    · rcases Nat.lt_or_ge g w.heap.size with h | h
      · exact h
      · rw [Array.getElem?_eq_none h] at hg; cases hg
    · rw [cell_of_row w g _ cur _ _ hg, Nat.zero_add]
      have h2 := congrArg (fun x : List Value => x[k]?) htake
      simp only [List.getElem?_take, Nat.mul_one, hk, if_true, List.getElem?_map] at h2
      rw [List.getElem?_eq_getElem hk] at h2
      simpa using h2
theorem Own.from_base {base : Nat} {w : World} {v : Value} {l : List UInt8} (h : Own base w v l) : ∀ g, v.ownBlock = Option.some g → base ≤ g ∧ g < w.heap.size := World.ownsRow.lt h
theorem Own.lit {base : Nat} (w : World) (l : List UInt8) (hb : base ≤ w.heap.size) (hm : l.length ≤ 9223372036854775807) : Own base (w.alloc (.cells (l.map B8).toArray 5)) (.slice (Option.some ⟨w.heap.size, 0, none⟩) l.length l.length) l := by
  have := World.ownsRow_lit (base := base) (e := 5) (size := 1) w (l.map B8).toArray l.length hb (by unfold maxLen; exact hm) (by simp)
  simpa [Own] using this

theorem info8 : (Tryz.prog.info? 5).map (fun i => (i.zero, i.size, i.bytes)) = some (some (.int .u8 0), 1, 1) := by kernel_rfl

theorem b8_one (l : List UInt8) : ∀ u ∈ l.map B8, u.oneCell' = true := by
  intro u hu
  rw [List.mem_map] at hu
  obtain ⟨b, _, rfl⟩ := hu
  rfl

set_option maxRecDepth 100000 in
/-- append(own, bytes...): own bytes again, the new ones behind. -/
theorem run_append_bytes (base : Nat) (ty : TypeId) (w : World) (v : Value) (xs : List UInt8) (hown : Own base w v xs) (A : Option Addr) (l : List UInt8) (c : Nat) (hB : Bytes w A l)
    (hsz : xs.length + l.length ≤ 140737488355328) (hbase : base ≤ w.heap.size) :
    ∃ v' w', (Builtin.append_ #[22, 22] ty #[v, .slice A l.length c]).run Tryz.prog w = .ok v' w' ∧ Own base w' v' (xs ++ l) ∧ w.grownBy w' v.ownBlock := by
  obtain ⟨i, hi, hz0, hz1, hz2⟩ := info_parts info8
  cases A with
  | none =>
    have hl : l = [] := by
      rcases hB with h | ⟨_, _, h, _⟩
      · exact h
      · cases h
    subst hl
    refine ⟨v, w, ?_, by simpa using hown, World.grownBy.refl w _⟩
    rcases hown.2 with ⟨rfl, h0⟩ | ⟨g, cap, cur, rfl, _, _, hnc, _⟩
    · simp [Builtin.append_, run_underlying Tryz.underlying22, sizeOf, typeInfo, hi, Builtin.lenOf, Builtin.firstCells]
    · simp [Builtin.append_, run_underlying Tryz.underlying22, sizeOf, typeInfo, hi, Builtin.lenOf, Builtin.firstCells, hnc, storeCells]
  | some ad =>
    have hnews : ∀ j u, (l.map B8)[j]? = some u → w.cell? (ad.add j) = some u := by
      intro j u hu
      rw [List.getElem?_map] at hu
      by_cases hj : j < l.length
      · obtain ⟨b, off, e, _, hcell⟩ := hB.addr (by omega)
        injection e with e; subst e
        rw [List.getElem?_eq_getElem hj] at hu
        rw [show (⟨b, off, none⟩ : Addr).add j = ⟨b, off + j, none⟩ from by unfold Addr.add; split <;> simp_all, hcell j hj]
        simpa using hu
      · rw [List.getElem?_eq_none (by omega)] at hu; simp at hu
    obtain ⟨v', w', hr, h2, h3, _⟩ := run_append_own (P := Tryz.prog) w base 22 ty 5 i (.int .u8 0) 1 1 Tryz.underlying22 hi hz0 hz1 hz2 rfl (by decide)
      v xs.length (xs.map B8) hown ad l.length c (l.map B8) (by simp) hnews (b8_one l) (by unfold maxLen; omega) (by omega) hbase
    exact ⟨v', w', hr, by simpa [Own] using h2, h3⟩

/-- The same at the operation. -/
theorem wpList_append_bytes {ops : Array Oper} {rest : List Oper} {o : Oper} {a : Act} {Q : Exit → Act → World → Prop} (hgd : o.guard = none) (s x : Operand)
    (ho : o.op = .call { callee := .builtin .append, args := #[s, x], argTypes := #[22, 22] })
    (base : Nat) (w : World) (v : Value) (xs : List UInt8) (hs : a.eval s = v) (hown : Own base w v xs) (A : Option Addr) (l : List UInt8) (c : Nat) (hx : a.eval x = .slice A l.length c) (hB : Bytes w A l)
    (hsz : xs.length + l.length ≤ 140737488355328) (hbase : base ≤ w.heap.size)
    (h : ∀ v' w', Own base w' v' (xs ++ l) → w.grownBy w' v.ownBlock → wpList Tryz.prog ops Q rest (a.put o.dst v') w') : wpList Tryz.prog ops Q (o :: rest) a w := by
  refine wpList_plain hgd fun K hK => ?_
  obtain ⟨v', w', hr, h2, h3⟩ := run_append_bytes base o.type w v xs hown A l c hB hsz hbase
  unfold Oper.wp execOp
  simp only [ho, resolve, invoke, builtin, Sem.run_bind, Sem.run_pure, Result.andThen_ok, List.map_toArray, List.map_cons, List.map_nil, hs, hx, hr]
  exact hK _ _ (h v' w' h2 h3)

set_option maxRecDepth 100000 in
/-- string(bytes). -/
theorem run_str {w : World} {A : Option Addr} {l : List UInt8} (hB : Bytes w A l) (c : Nat) : (convert 22 9 (.slice A l.length c)).run Tryz.prog w = .ok (.string ⟨l.toArray⟩) w := by
  cases A with
  | none =>
    have hl : l = [] := by
      rcases hB with h | ⟨_, _, h, _⟩
      · exact h
      · cases h
    subst hl
    exact run_convert_bytes_nil w 22 5 Tryz.underlying22 Tryz.underlying5 0 c 9 Tryz.underlying9
  | some ad =>
    have key : ∀ b off, (∀ k (h : k < l.length), w.cell? ⟨b, off + k, none⟩ = some (.int .u8 (l[k].toNat : Nat))) → (convert 22 9 (.slice (some ⟨b, off, none⟩) l.length c)).run Tryz.prog w = .ok (.string ⟨l.toArray⟩) w := by
      intro b off hc
      have h := run_convert_bytes_arg (P := Tryz.prog) w 22 5 Tryz.underlying22 Tryz.underlying5 b off l.length c (l.map fun x => (x.toNat : Int)) (by simp) (fun i hi => by
        rw [hc i hi]; simp [List.getD, hi]) 9 Tryz.underlying9
      rw [h]
      have e : strOfNums (l.map fun x => (x.toNat : Int)) = ⟨l.toArray⟩ := by
        unfold strOfNums
        congr 1
        congr 1
        rw [List.map_map]
        conv => rhs; rw [← List.map_id l]
        apply List.map_congr_left
        intro x _
        simp
      rw [e]
    rcases hB with rfl | ⟨b, off, e, _, hc⟩
    · have h := run_convert_bytes_string (P := Tryz.prog) w 22 9 5 (some ad) 0 c Tryz.underlying22 Tryz.underlying5 Tryz.underlying9
      rw [List.length_nil, h]
      simp [Conv.bytesToString]
      rfl
    · injection e with e; subst e
      exact key b off hc

/-- A one-cell block that a call has just made. -/
theorem Bytes.one (w : World) (x : UInt8) : Bytes (w.alloc (.cells #[.int .u8 (x.toNat : Nat)] 5)) (some ⟨w.heap.size, 0, none⟩) [x] := by
  refine .inr ⟨_, _, rfl, by simp, fun k hk => ?_⟩
  obtain rfl : k = 0 := by simpa using hk
  rw [cell_of_row _ _ _ _ _ _ (heap_alloc_last _ _)]; rfl

/-- What a law's contract says: it returns true, and memory that was there is as it was. -/
def Holds (w : World) (e : Ending) (w' : World) : Prop := e = .returned (.bool true) ∧ Below w.heap.size w w'
end Go.Proofs.YtklkboplkobhgaaGreat
