/- Several texts in one: Base, Lift, Tk, Vals. -/
import Derived.Test.YtkckjjchfccdjaaRows
import Derived.WalkKit
import Derived.WalkSpells
import Derived.WalkLawsBesides
import Derived.Lib.Hide
import Derived.Deep.QuietTactic
import Derived.BigQuiet
import Derived.Deep.OwnRows
import Derived.Deep.WholeRow
import Derived.Deep.MidRow
import Derived.Deep.AppendLies
import Derived.Maps.AppendAt
import Derived.Laws.CopyOwn
import Derived.Lib.SlBytesConst
import Derived.Laws.BytesArg
import Derived.ProofKit
import Derived.Deep.RegionHeld
import Derived.KernelRfl
/- Words for memory that all texts of this seat use: a slice that reads as bytes, bytes of the call's own, an append onto them. -/
namespace Go.Proofs.Ytkckjjchfccdjaa
set_option maxRecDepth 100000
open Go.RowKit

/-- A byte as the model holds it. -/
abbrev B8 (b : UInt8) : Value := .int .u8 (b.toNat : Nat)

/-- A slice's address reads as these bytes. -/
def Bytes (w : World) (A : Option Addr) (l : List UInt8) : Prop :=
  l = [] ∨ ∃ b off, A = some ⟨b, off, none⟩ ∧ b < w.heap.size ∧ ∀ k (h : k < l.length), w.cell? ⟨b, off + k, none⟩ = some (.int .u8 (l[k].toNat : Nat))

theorem Bytes.keep {w w' : World} {A : Option Addr} {l : List UInt8} (h : Bytes w A l) (hs : w.heap.size ≤ w'.heap.size) (hc : ∀ p : Addr, A.map (·.block) = some p.block → p.block < w.heap.size → w'.cell? p = w.cell? p) : Bytes w' A l := by
  rcases h with h | ⟨b, off, rfl, hlt, hcell⟩
  · exact .inl h
  · exact .inr ⟨b, off, rfl, Nat.lt_of_lt_of_le hlt hs, fun k hk => (hc ⟨b, off + k, none⟩ rfl hlt).trans (hcell k hk)⟩
theorem Bytes.below {w w' : World} {A : Option Addr} {l : List UInt8} (h : Bytes w A l) (hb : Below w.heap.size w w') : Bytes w' A l :=
  h.keep hb.size fun _ _ hp => hb.cell hp
theorem Bytes.drewN {w : World} {A : Option Addr} {l : List UInt8} (h : Bytes w A l) (n : Nat) : Bytes (w.drewN n) A l := h
theorem Bytes.drew {w : World} {A : Option Addr} {l : List UInt8} (h : Bytes w A l) : Bytes w.drew A l := h
theorem Bytes.alloc {w : World} {A : Option Addr} {l : List UInt8} (h : Bytes w A l) (o : Obj) : Bytes (w.alloc o) A l := h.below ((Below.refl _ _).alloc (Nat.le_refl _) _)
theorem Bytes.nil {w : World} {A : Option Addr} : Bytes w A [] := .inl rfl
theorem Bytes.addr {w : World} {A : Option Addr} {l : List UInt8} (h : Bytes w A l) (hl : 0 < l.length) : ∃ b off, A = some ⟨b, off, none⟩ ∧ b < w.heap.size ∧ ∀ k (h : k < l.length), w.cell? ⟨b, off + k, none⟩ = some (.int .u8 (l[k].toNat : Nat)) := by
  rcases h with rfl | h
  · simp at hl
  · exact h
theorem Bytes.drop {w : World} {b off : Nat} {l : List UInt8} (j : Nat) (h : Bytes w (some ⟨b, off, none⟩) l) : Bytes w (some ⟨b, off + j, none⟩) (l.drop j) := by
  rcases h with rfl | ⟨b', off', e, hlt, hc⟩
  · exact .inl (by simp)
  · injection e with e; injection e with e1 e2; subst e1; subst e2
    refine .inr ⟨_, _, rfl, hlt, fun k hk => ?_⟩
    have hk' : j + k < l.length := by simp at hk; omega
    have := hc (j + k) hk'
    rw [List.getElem_drop, Nat.add_assoc]; exact this
theorem Bytes.take {w : World} {A : Option Addr} {l : List UInt8} (j : Nat) (h : Bytes w A l) : Bytes w A (l.take j) := by
  rcases h with rfl | ⟨b, off, rfl, hlt, hc⟩
  · exact .inl (by simp)
  · refine .inr ⟨_, _, rfl, hlt, fun k hk => ?_⟩
    have hk' : k < l.length := by simp at hk; omega
    rw [List.getElem_take]; exact hc k hk'
/-- s[k:] as the model makes it. -/
theorem Bytes.cutFrom {w : World} {A : Option Addr} {l : List UInt8} (h : Bytes w A l) {k c : Nat} (hk : k ≤ l.length) (hc : l.length ≤ c) : Bytes w (if c = k then A else A.map (·.add k)) (l.drop k) := by
  by_cases hck : c = k
  · exact .inl (List.drop_eq_nil_of_le (by omega))
  · rw [if_neg hck]
    rcases h with rfl | ⟨b, off, rfl, hlt, hcell⟩
    · exact .inl (by simp)
    · have e : (Option.some (⟨b, off, none⟩ : Addr)).map (·.add k) = Option.some ⟨b, off + k, none⟩ := by
        simp only [Option.map]; unfold Addr.add; split <;> simp_all
      rw [e]
      exact Bytes.drop k (.inr ⟨b, off, rfl, hlt, hcell⟩)

theorem below_drewN {B : Nat} {a w : World} (h : Below B a w) (n : Nat) : Below B a (w.drewN n) := ⟨h.os, h.tape, h.output, h.size, h.block⟩
theorem below_grown {B : Nat} {a w w' : World} (h : Below B a w) {row : Option Nat} (hg : w.grownBy w' row) (hB : B ≤ w.heap.size) (hr : ∀ g, row = some g → B ≤ g) : Below B a w' :=
  ⟨hg.os.trans h.os, hg.tape.trans h.tape, hg.output.trans h.output, Nat.le_trans h.size hg.size, fun i hi => (hg.block i (by omega) (fun e => by have := hr i e.symm; omega)).trans (h.block i hi)⟩

/-- Bytes of the call's own: a slice value in a block from base on (or nil), which may be appended to. -/
def Own (base : Nat) (w : World) (v : Value) (l : List UInt8) : Prop := w.ownsRow base 5 1 v l.length (l.map B8)

theorem Own.nil (base : Nat) (w : World) : Own base w (.slice none 0 0) [] := World.ownsRow_nil w base _ 1
theorem Own.alloc {base : Nat} {w : World} {v : Value} {l : List UInt8} (h : Own base w v l) (o : Obj) : Own base (w.alloc o) v l := World.ownsRow.alloc h o
theorem Own.drew {base : Nat} {w : World} {v : Value} {l : List UInt8} (h : Own base w v l) : Own base w.drew v l := h
theorem Own.drewN {base : Nat} {w : World} {v : Value} {l : List UInt8} (h : Own base w v l) (n : Nat) : Own base (w.drewN n) v l := h
theorem Own.below {base : Nat} {w w' : World} {v : Value} {l : List UInt8} (h : Own base w v l) (hb : Below w.heap.size w w') : Own base w' v l := by
  rcases h with ⟨h1, h2 | ⟨g, cap, cur, h2, h3, h4, h5⟩⟩
  · exact ⟨h1, .inl h2⟩
  · refine ⟨h1, .inr ⟨g, cap, cur, h2, h3, (hb.block g ?_).trans h4, h5⟩⟩
    rcases Nat.lt_or_ge g w.heap.size with h | h
    · exact h
    · rw [Array.getElem?_eq_none h] at h4; cases h4
/-- Own bytes as a slice that is read. -/
theorem Own.read {base : Nat} {w : World} {v : Value} {l : List UInt8} (h : Own base w v l) : ∃ A c, v = .slice A l.length c ∧ l.length ≤ c ∧ c ≤ 9223372036854775807 ∧ Bytes w A l := by
  rcases h with ⟨h1, ⟨rfl, h0⟩ | ⟨g, cap, cur, rfl, hb, hg, hnc, hcm, hsz, htake⟩⟩
  · have : l = [] := List.eq_nil_of_length_eq_zero h0
    subst this
    exact ⟨none, 0, rfl, by simp, by omega, .nil⟩
  · refine ⟨_, cap, rfl, hnc, by unfold maxLen at hcm; exact hcm, ?_⟩
    refine .inr ⟨g, 0, rfl, ?_, fun k hk => ?_⟩
    · rcases Nat.lt_or_ge g w.heap.size with h | h
      · exact h
      · rw [Array.getElem?_eq_none h] at hg; cases hg
    · rw [cell_of_row w g _ cur _ _ hg, Nat.zero_add]
      have h2 := congrArg (fun x : List Value => x[k]?) htake
      simp only [List.getElem?_take, Nat.mul_one, hk, if_true, List.getElem?_map] at h2
      rw [List.getElem?_eq_getElem hk] at h2
      simpa using h2
theorem Own.from_base {base : Nat} {w : World} {v : Value} {l : List UInt8} (h : Own base w v l) : ∀ g, v.ownBlock = Option.some g → base ≤ g ∧ g < w.heap.size := World.ownsRow.lt h
theorem Own.lit {base : Nat} (w : World) (l : List UInt8) (hb : base ≤ w.heap.size) (hm : l.length ≤ 9223372036854775807) : Own base (w.alloc (.cells (l.map B8).toArray 5)) (.slice (Option.some ⟨w.heap.size, 0, none⟩) l.length l.length) l := by
  have := World.ownsRow_lit (base := base) (e := 5) (size := 1) w (l.map B8).toArray l.length hb (by unfold maxLen; exact hm) (by simp)
  simpa [Own] using this

theorem info8 : (Try.prog.info? 5).map (fun i => (i.zero, i.size, i.bytes)) = some (some (.int .u8 0), 1, 1) := by kernel_rfl

theorem b8_one (l : List UInt8) : ∀ u ∈ l.map B8, u.oneCell' = true := by
  intro u hu
  rw [List.mem_map] at hu
  obtain ⟨b, _, rfl⟩ := hu
  rfl

set_option maxRecDepth 100000 in
/-- append(own, bytes...): own bytes again, the new ones behind. -/
theorem run_append_bytes (base : Nat) (ty : TypeId) (w : World) (v : Value) (xs : List UInt8) (hown : Own base w v xs) (A : Option Addr) (l : List UInt8) (c : Nat) (hB : Bytes w A l)
    (hsz : xs.length + l.length ≤ 140737488355328) (hbase : base ≤ w.heap.size) :
    ∃ v' w', (Builtin.append_ #[22, 22] ty #[v, .slice A l.length c]).run Try.prog w = .ok v' w' ∧ Own base w' v' (xs ++ l) ∧ w.grownBy w' v.ownBlock := by
  obtain ⟨i, hi, hz0, hz1, hz2⟩ := info_parts info8
  cases A with
  | none =>
    have hl : l = [] := by
      rcases hB with h | ⟨_, _, h, _⟩
      · exact h
      · cases h
    subst hl
    refine ⟨v, w, ?_, by simpa using hown, World.grownBy.refl w _⟩
    rcases hown.2 with ⟨rfl, h0⟩ | ⟨g, cap, cur, rfl, _, _, hnc, _⟩
    · simp [Builtin.append_, run_underlying Try.underlying22, sizeOf, typeInfo, hi, Builtin.lenOf, Builtin.firstCells]
    · simp [Builtin.append_, run_underlying Try.underlying22, sizeOf, typeInfo, hi, Builtin.lenOf, Builtin.firstCells, hnc, storeCells]
  | some ad =>
    have hnews : ∀ j u, (l.map B8)[j]? = some u → w.cell? (ad.add j) = some u := by
      intro j u hu
      rw [List.getElem?_map] at hu
      by_cases hj : j < l.length
      · obtain ⟨b, off, e, _, hcell⟩ := hB.addr (by omega)
        injection e with e; subst e
        rw [List.getElem?_eq_getElem hj] at hu
        rw [show (⟨b, off, none⟩ : Addr).add j = ⟨b, off + j, none⟩ from by unfold Addr.add; split <;> simp_all, hcell j hj]
        simpa using hu
      · rw [List.getElem?_eq_none (by omega)] at hu; simp at hu
    obtain ⟨v', w', hr, h2, h3, _⟩ := run_append_own (P := Try.prog) w base 22 ty 5 i (.int .u8 0) 1 1 Try.underlying22 hi hz0 hz1 hz2 rfl (by decide)
      v xs.length (xs.map B8) hown ad l.length c (l.map B8) (by simp) hnews (b8_one l) (by unfold maxLen; omega) (by omega) hbase
    exact ⟨v', w', hr, by simpa [Own] using h2, h3⟩

/-- The same at the operation. -/
theorem wpList_append_bytes {ops : Array Oper} {rest : List Oper} {o : Oper} {a : Act} {Q : Exit → Act → World → Prop} (hgd : o.guard = none) (s x : Operand)
    (ho : o.op = .call { callee := .builtin .append, args := #[s, x], argTypes := #[22, 22] })
    (base : Nat) (w : World) (v : Value) (xs : List UInt8) (hs : a.eval s = v) (hown : Own base w v xs) (A : Option Addr) (l : List UInt8) (c : Nat) (hx : a.eval x = .slice A l.length c) (hB : Bytes w A l)
    (hsz : xs.length + l.length ≤ 140737488355328) (hbase : base ≤ w.heap.size)
    (h : ∀ v' w', Own base w' v' (xs ++ l) → w.grownBy w' v.ownBlock → wpList Try.prog ops Q rest (a.put o.dst v') w') : wpList Try.prog ops Q (o :: rest) a w := by
  refine wpList_plain hgd fun K hK => ?_
  obtain ⟨v', w', hr, h2, h3⟩ := run_append_bytes base o.type w v xs hown A l c hB hsz hbase
  unfold Oper.wp execOp
  simp only [ho, resolve, invoke, builtin, Sem.run_bind, Sem.run_pure, Result.andThen_ok, List.map_toArray, List.map_cons, List.map_nil, hs, hx, hr]
  exact hK _ _ (h v' w' h2 h3)

set_option maxRecDepth 100000 in
/-- string(bytes). -/
theorem run_str {w : World} {A : Option Addr} {l : List UInt8} (hB : Bytes w A l) (c : Nat) : (convert 22 9 (.slice A l.length c)).run Try.prog w = .ok (.string ⟨l.toArray⟩) w := by
  cases A with
  | none =>
    have hl : l = [] := by
      rcases hB with h | ⟨_, _, h, _⟩
      · exact h
      · cases h
    subst hl
    exact run_convert_bytes_nil w 22 5 Try.underlying22 Try.underlying5 0 c 9 Try.underlying9
  | some ad =>
    have key : ∀ b off, (∀ k (h : k < l.length), w.cell? ⟨b, off + k, none⟩ = some (.int .u8 (l[k].toNat : Nat))) → (convert 22 9 (.slice (some ⟨b, off, none⟩) l.length c)).run Try.prog w = .ok (.string ⟨l.toArray⟩) w := by
      intro b off hc
      have h := run_convert_bytes_arg (P := Try.prog) w 22 5 Try.underlying22 Try.underlying5 b off l.length c (l.map fun x => (x.toNat : Int)) (by simp) (fun i hi => by
        rw [hc i hi]; simp [List.getD, hi]) 9 Try.underlying9
      rw [h]
      have e : strOfNums (l.map fun x => (x.toNat : Int)) = ⟨l.toArray⟩ := by
        unfold strOfNums
        congr 1
        congr 1
        rw [List.map_map]
        conv => rhs; rw [← List.map_id l]
        apply List.map_congr_left
        intro x _
        simp
      rw [e]
    rcases hB with rfl | ⟨b, off, e, _, hc⟩
    · have h := run_convert_bytes_string (P := Try.prog) w 22 9 5 (some ad) 0 c Try.underlying22 Try.underlying5 Try.underlying9
      rw [List.length_nil, h]
      simp [Conv.bytesToString]
      rfl
    · injection e with e; subst e
      exact key b off hc

/-- A one-cell block that a call has just made. -/
theorem Bytes.one (w : World) (x : UInt8) : Bytes (w.alloc (.cells #[.int .u8 (x.toNat : Nat)] 5)) (some ⟨w.heap.size, 0, none⟩) [x] := by
  refine .inr ⟨_, _, rfl, by simp, fun k hk => ?_⟩
  obtain rfl : k = 0 := by simpa using hk
  rw [cell_of_row _ _ _ _ _ _ (heap_alloc_last _ _)]; rfl

/-- What a law's contract says: it returns true, and memory that was there is as it was. -/
def Holds (w : World) (e : Ending) (w' : World) : Prop := e = .returned (.bool true) ∧ Below w.heap.size w w'
end Go.Proofs.Ytkckjjchfccdjaa

/- From a law's contract to its statement: arguments are opened, and read back behind the call as they were. -/
namespace Go.Proofs.Ytkckjjchfccdjaa
set_option maxRecDepth 100000
open Go.ChangeShapes Go.WideShapes Go.ChangeAt Go.RowKit

theorem Try.own : ownKnob Try.prog.godebug = none := by kernel_rfl
theorem laidOut : laidOutB Try.prog = true := by kernel_rfl
theorem cells8 : Try.prog.cellsOf 5 = 1 := by kernel_rfl

set_option maxRecDepth 100000 in
/-- A []byte that came in: its address reads as a list of bytes. -/
theorem open_bytes {H : Type} {enc : TypeId × Value → H} {W : World} {b0 : Nat} {v : Value} {d : DataW H} {p : List MemPlace}
    (hval : Value.okWide Try.prog W .any b0 22 v) (h : DataW.Trod enc Try.prog W 0 (fun _ => true) true 22 v d p) :
    ∃ (A : Option Addr) (l : List UInt8) (c : Nat), v = .slice A l.length c ∧ l.length ≤ c ∧ c ≤ 9223372036854775807 ∧ Bytes W A l := by
  obtain ⟨fuel, hf⟩ := h
  obtain ⟨a0, len, cap, rfl⟩ := okWide_slice Try.underlying22 hval
  rcases open_ints Try.underlying22 Try.underlying5 cells8 hf with ⟨hcs, _⟩ | ⟨a, len', cap', zs, hcs, _, hl, hm, hz, _, hcell, hwz⟩
  · simp [Value.cells] at hcs
    obtain ⟨rfl, rfl, rfl⟩ := hcs
    exact ⟨none, [], 0, rfl, by simp, by omega, .nil⟩
  · simp [Value.cells] at hcs
    obtain ⟨rfl, rfl, rfl⟩ := hcs
    simp only [if_true] at hz
    unfold maxLen at hm
    refine ⟨some a, (zs.take len).map (fun n => UInt8.ofNat n.toNat), cap, by rw [List.length_map, List.length_take, Nat.min_eq_left (by omega)], by simp; omega, hm, ?_⟩
    rcases Nat.eq_zero_or_pos len with h0 | hpos
    · subst h0; exact .inl (by simp)
    · obtain ⟨b, off, spot⟩ := a
      have hspot : spot = none := by simpa [Addr.add] using World.cell?_spot (hcell 0 (by omega))
      subst hspot
      refine .inr ⟨b, off, rfl, ?_, fun k hk => ?_⟩
      · have := block_lt_of_cell (hcell 0 (by omega)); simpa [Addr.add] using this
      · have hk' : k < len := by simp at hk; omega
        have hc := hcell k (by omega)
        have hw := hwz (zs[k]'(by omega)) (List.getElem_mem _)
        have hb : 0 ≤ zs[k]'(by omega) ∧ zs[k]'(by omega) < 256 := by
          have h1 : IntKind.u8.min = 0 := rfl
          have h2 : IntKind.u8.max = 255 := rfl
          simp [Lit.wf] at hw; omega
        rw [show (⟨b, off, none⟩ : Addr).add k = ⟨b, off + k, none⟩ from by unfold Addr.add; split <;> simp_all] at hc
        rw [hc]
        have e : zs.getD k 0 = zs[k]'(by omega) := by simp [List.getD, show k < zs.length by omega]
        rw [e, List.getElem_map, List.getElem_take]
        congr 2
        rw [UInt8.toNat_ofNat']
        omega

theorem wf_bounds64 {a : Int} (h : (Lit.int .i64 a).wf = true) : -9223372036854775808 ≤ a ∧ a ≤ 9223372036854775807 := by
  have e1 : IntKind.i64.min = -9223372036854775808 := rfl
  have e2 : IntKind.i64.max = 9223372036854775807 := rfl
  simp [Lit.wf] at h; omega
theorem wf_bv8 {a : Int} (h : (Lit.int .u8 a).wf = true) : a = ((BitVec.ofNat 8 a.toNat).toNat : Int) := by
  have e1 : IntKind.u8.min = 0 := rfl
  have e2 : IntKind.u8.max = 255 := rfl
  simp [Lit.wf] at h
  rw [BitVec.toNat_ofNat]; omega
theorem wf_bv16 {a : Int} (h : (Lit.int .u16 a).wf = true) : a = ((BitVec.ofNat 16 a.toNat).toNat : Int) := by
  have e1 : IntKind.u16.min = 0 := rfl
  have e2 : IntKind.u16.max = 65535 := rfl
  simp [Lit.wf] at h
  rw [BitVec.toNat_ofNat]; omega
theorem wf_bv32 {a : Int} (h : (Lit.int .u32 a).wf = true) : a = ((BitVec.ofNat 32 a.toNat).toNat : Int) := by
  have e1 : IntKind.u32.min = 0 := rfl
  have e2 : IntKind.u32.max = 4294967295 := rfl
  simp [Lit.wf] at h
  rw [BitVec.toNat_ofNat]; omega
theorem wf_bv64 {a : Int} (h : (Lit.int .u64 a).wf = true) : a = ((BitVec.ofNat 64 a.toNat).toNat : Int) := by
  have e1 : IntKind.u64.min = 0 := rfl
  have e2 : IntKind.u64.max = 18446744073709551615 := rfl
  simp [Lit.wf] at h
  rw [BitVec.toNat_ofNat]; omega
/-- Arguments read behind the call as before it, where older memory is as it was. -/
theorem trodAll_below {H : Type} {enc : TypeId × Value → H} {W W' : World} (hb : Below W.heap.size W W') : ∀ {ts : List TypeId} {vs : List Value} {ds : List (DataW H)} {ps : List MemPlace},
    DataW.TrodAll enc Try.prog W 0 (fun _ => true) true ts vs ds ps → (∀ t ∈ ts, Try.prog.readableRec t = true ∧ t < Try.prog.types.size) → (∀ x ∈ ps, x.block < W.heap.size) →
    DataW.TrodAll enc Try.prog W' 0 (fun b => decide (b < W.heap.size)) true ts vs ds ps
  | [], vs, ds, ps, h, _, _ => by
    obtain ⟨rfl, rfl, rfl⟩ := trodAll_nil h
    exact rfl
  | t :: ts, vs, ds, ps, h, hr, hlt => by
    obtain ⟨v, vs', d, ds', p, q, rfl, rfl, rfl, h1, h2⟩ := trodAll_cons h
    have hr1 := hr t (by simp)
    exact ⟨p, q, Below.trod laidOut hr1.1 hr1.2 h1 hb (fun x hx => hlt x (by simp [hx])),
      trodAll_below hb h2 (fun t ht => hr t (by simp [ht])) (fun x hx => hlt x (by simp [hx])), rfl⟩

/-- What stands behind a law's call: its result is true, and all that came in reads as it did. -/
theorem law_post {H : Type} {enc : TypeId × Value → H} {f : Func} {s : ChangeSpec} {W W' : World} {args : Array Value} {ds : List (DataW H)} {before : List MemPlace}
    (hr : f.resultTypes = #[4]) (hvs : s.vars = [])
    (hW : DataW.Whole enc Try.prog f.params.toList s.vars false W args.toList ds [] before)
    (hres : (s.fn H (ds ++ [])).results = [.lit (.bool true)]) (hargs : (s.fn H (ds ++ [])).args = ds) (hvars : (s.fn H (ds ++ [])).vars = [])
    (hread : ∀ t ∈ f.params.toList, Try.prog.readableRec t = true ∧ t < Try.prog.types.size)
    (hb : Below W.heap.size W W') : s.post enc Try.prog f false true false false W args (.bool true) W' := by
  have hlt := hW.lt
  have hW0 := hW
  obtain ⟨p, q, hA, hV, rfl, _, _⟩ := hW
  rw [hvs] at hV
  obtain ⟨_, rfl⟩ := trodVars_none hV
  refine ⟨ds, [], _, [], p, [], hW0, ?_, ?_, ?_, hb.frame _, fun h => by cases h⟩
  · rw [hres, hr]; exact trodAll_mk1 (shut_bool Try.underlying4 true)
  · rw [hargs]; exact trodAll_below hb hA hread (fun x hx => hlt x (by simp [hx]))
  · rw [hvs, hvars]; rfl
end Go.Proofs.Ytkckjjchfccdjaa

/- A step of a drawn region that only reads, told in few words. -/
namespace Go.Proofs.Ytkckjjchfccdjaa
set_option maxRecDepth 100000
open Go.RowKit

theorem tk {P : Program} {md : Region.Mode} {ops : Array Oper} {Q : Exit → Act → World → Prop} {S : World → Prop} (i : Nat) {oi : Oper} {rest : List Oper} {v : Value} {fuel : Nat} {listed : Array Bool} {a : Act} {w : World}
    (hy : ∀ w, S w → (execOp a.eval oi).run P w = .ok (.value v) w) (hS : S w) (h : wpAnyH P md ops Q S fuel (listed.setIfInBounds i true) (a.put oi.dst v) w)
    (hi : ops.toList.drop i = oi :: rest := by rfl) (hs : Region.noSelect ops = true := by kernel_rfl) (hf : Region.free md ops listed i = true := by kernel_rfl) (hr : (Region.ready md ops listed).contains i = true := by kernel_rfl)
    (hq : ∀ c a w, Q (.panic c) (a.put oi.dst v) w → Q (.panic c) a w := by exact fun _ _ _ h => h) (hw : Region.wanted oi (yielded ops a.tmps) = true := by rfl) : wpAnyH P md ops Q S (fuel + 1) listed a w :=
  wpAnyH_take (by have e := congrArg (fun l : List Oper => l[0]?) hi; simpa using e) hs hf hr hq (.inl ⟨hw, hy⟩) hS h
end Go.Proofs.Ytkckjjchfccdjaa

/- A slice of one-cell elements of the call's own: what it holds, and appends to it. -/
namespace Go.Proofs.Ytkckjjchfccdjaa
set_option maxRecDepth 100000
open Go.RowKit

/-- A slice value of the call's own, from block base on (or nil). -/
def OwnV (t : TypeId) (base : Nat) (w : World) (v : Value) (l : List Value) : Prop := w.ownsRow base t 1 v l.length l
/-- What an append wants to know of the element's type. -/
structure Elem (ts t : TypeId) (z : Value) (bytes : Nat) : Prop where
  und : Try.prog.underlying ts = some (.slice t)
  info : (Try.prog.info? t).map (fun i => (i.zero, i.size, i.bytes)) = some (some z, 1, bytes)
  one : z.cells.size = 1

theorem OwnV.nil (t : TypeId) (base : Nat) (w : World) : OwnV t base w (.slice none 0 0) [] := World.ownsRow_nil w base _ 1
theorem OwnV.keep {t : TypeId} {base : Nat} {w w' : World} {v : Value} {l : List Value} (h : OwnV t base w v l) (hb : ∀ g, v.ownBlock = some g → w'.heap[g]? = w.heap[g]?) : OwnV t base w' v l := by
  rcases h with ⟨h1, h2 | ⟨g, cap, cur, h2, h3, h4, h5⟩⟩
  · exact ⟨h1, .inl h2⟩
  · exact ⟨h1, .inr ⟨g, cap, cur, h2, h3, (hb g (by rw [h2]; rfl)).trans h4, h5⟩⟩
theorem OwnV.lt {t : TypeId} {base : Nat} {w : World} {v : Value} {l : List Value} (h : OwnV t base w v l) (g : Nat) (hg : v.ownBlock = some g) : base ≤ g ∧ g < w.heap.size := World.ownsRow.lt h g hg
theorem OwnV.below {t : TypeId} {base : Nat} {w w' : World} {v : Value} {l : List Value} (h : OwnV t base w v l) (hb : Below w.heap.size w w') : OwnV t base w' v l := h.keep fun g hg => hb.block g (h.lt g hg).2
theorem OwnV.alloc {t : TypeId} {base : Nat} {w : World} {v : Value} {l : List Value} (h : OwnV t base w v l) (o : Obj) : OwnV t base (w.alloc o) v l := h.below ((Below.refl _ _).alloc (Nat.le_refl _) _)
theorem OwnV.drew {t : TypeId} {base : Nat} {w : World} {v : Value} {l : List Value} (h : OwnV t base w v l) : OwnV t base w.drew v l := h
theorem OwnV.drewN {t : TypeId} {base : Nat} {w : World} {v : Value} {l : List Value} (h : OwnV t base w v l) (n : Nat) : OwnV t base (w.drewN n) v l := h
theorem OwnV.grown {t : TypeId} {base : Nat} {w w' : World} {v v2 : Value} {l : List Value} (h : OwnV t base w v l) (hg : w.grownBy w' v2.ownBlock) (hne : ∀ g, v.ownBlock = some g → v2.ownBlock ≠ some g) : OwnV t base w' v l :=
  h.keep fun g e => hg.block g (h.lt g e).2 (fun h2 => hne g e h2.symm)
/-- Its form: nil, or a block's begin. -/
theorem OwnV.form {t : TypeId} {base : Nat} {w : World} {v : Value} {l : List Value} (h : OwnV t base w v l) :
    (v = .slice none 0 0 ∧ l = []) ∨ ∃ g cap, v = .slice (some ⟨g, 0, none⟩) l.length cap ∧ base ≤ g ∧ g < w.heap.size ∧ l.length ≤ cap ∧ cap ≤ 9223372036854775807 ∧ ∀ i (h : i < l.length), w.cell? ⟨g, i, none⟩ = some l[i] := by
  have hc := fun (g cap : Nat) (e : v = .slice (some ⟨g, 0, none⟩) l.length cap) (i : Nat) (hi : i < l.length) => World.ownsRow.cellAt (e ▸ h) i (by omega)
  rcases h with ⟨h1, ⟨h2, h3⟩ | ⟨g, cap, cur, h2, h3, h4, h5, h6, h7, h8⟩⟩
  · exact .inl ⟨h2, List.eq_nil_of_length_eq_zero h3⟩
  · refine .inr ⟨g, cap, h2, h3, ?_, h5, by unfold maxLen at h6; exact h6, fun i hi => ?_⟩
    · rcases Nat.lt_or_ge g w.heap.size with h | h
      · exact h
      · rw [Array.getElem?_eq_none h] at h4; cases h4
    · rw [hc g cap h2 i hi, List.getElem?_eq_getElem hi]
theorem OwnV.read {t : TypeId} {base : Nat} {w : World} {v : Value} {l : List Value} (h : OwnV t base w v l) :
    ∃ A c, v = .slice A l.length c ∧ l.length ≤ c ∧ c ≤ 9223372036854775807 ∧ (∀ i (h : i < l.length), ∃ g, A = some ⟨g, 0, none⟩ ∧ w.cell? ⟨g, i, none⟩ = some l[i]) := by
  rcases h.form with ⟨rfl, rfl⟩ | ⟨g, cap, rfl, _, _, hc, hm, hcell⟩
  · exact ⟨none, 0, rfl, by simp, by omega, fun i hi => by simp at hi⟩
  · exact ⟨_, cap, rfl, hc, hm, fun i hi => ⟨g, rfl, hcell i hi⟩⟩
theorem OwnV.some_of_pos {t : TypeId} {base : Nat} {w : World} {v : Value} {l : List Value} (h : OwnV t base w v l) (hl : 0 < l.length) :
    ∃ g cap, v = .slice (some ⟨g, 0, none⟩) l.length cap ∧ base ≤ g ∧ g < w.heap.size ∧ l.length ≤ cap ∧ cap ≤ 9223372036854775807 ∧ ∀ i (h : i < l.length), w.cell? ⟨g, i, none⟩ = some l[i] := by
  rcases h.form with ⟨_, rfl⟩ | h
  · simp at hl
  · exact h
/-- A literal's block. -/
theorem OwnV.lit {base : Nat} (t : TypeId) (w : World) (l : List Value) (hb : base ≤ w.heap.size) (hm : l.length ≤ 9223372036854775807) : OwnV t base (w.alloc (.cells l.toArray t)) (.slice (some ⟨w.heap.size, 0, none⟩) l.length l.length) l := by
  have := World.ownsRow_lit (base := base) (e := t) (size := 1) w l.toArray l.length hb (by unfold maxLen; exact hm) (by simp)
  simpa [OwnV] using this
theorem below_grown2 {B : Nat} {a w w' : World} (h : Below B a w) {v : Value} (hg : w.grownBy w' v.ownBlock) (hB : B ≤ w.heap.size) (hr : ∀ g, v.ownBlock = some g → B ≤ g) : Below B a w' := below_grown h hg hB hr

set_option maxRecDepth 100000 in
theorem run_append_vals {ts t : TypeId} {z : Value} {bytes : Nat} (hE : Elem ts t z bytes) (base : Nat) (ty : TypeId) (w : World) (v : Value) (l : List Value) (hown : OwnV t base w v l) (hh m c : Nat) (news : List Value) (hl : news.length = m)
    (hc : ∀ i (h : i < news.length), w.cell? ⟨hh, i, none⟩ = some news[i]) (h1 : ∀ u ∈ news, u.oneCell' = true) (hsz : (l.length + m) * bytes ≤ 140737488355328) (h63 : l.length + m ≤ 140737488355328) (hbase : base ≤ w.heap.size) :
    ∃ v' w', (Builtin.append_ #[ts, ts] ty #[v, .slice (some ⟨hh, 0, none⟩) m c]).run Try.prog w = .ok v' w' ∧ OwnV t base w' v' (l ++ news) ∧ w.grownBy w' v.ownBlock ∧ (v'.ownBlock = v.ownBlock ∨ v'.ownBlock = some w.heap.size) := by
  obtain ⟨i, hi, hz0, hz1, hz2⟩ := info_parts hE.info
  obtain ⟨v', w', hr, h2, h3, _, h5⟩ := run_append_own_at (P := Try.prog) w base ts ty t i z 1 bytes hE.und hi hz0 hz1 hz2 hE.one (by decide)
    v l.length l hown ⟨hh, 0, none⟩ m c news (by omega) (by
      intro j u hu
      have hj : j < news.length := by
        rcases Nat.lt_or_ge j news.length with h | h
        · exact h
        · rw [List.getElem?_eq_none h] at hu; cases hu
      have := hc j hj
      rw [List.getElem?_eq_getElem hj] at hu
      injection hu with hu
      rw [← hu, ← this, show (⟨hh, 0, none⟩ : Addr).add j = ⟨hh, j, none⟩ from by unfold Addr.add; split <;> simp_all]) h1 (by unfold maxLen; omega) hsz hbase
  exact ⟨v', w', hr, by simpa [OwnV, hl] using h2, h3, h5⟩
theorem wpList_append_vals {ts t : TypeId} {z : Value} {bytes : Nat} (hE : Elem ts t z bytes) {ops : Array Oper} {rest : List Oper} {o : Oper} {a : Act} {Q : Exit → Act → World → Prop} (hgd : o.guard = none) (s x : Operand)
    (ho : o.op = .call { callee := .builtin .append, args := #[s, x], argTypes := #[ts, ts] })
    (base : Nat) (w : World) (v : Value) (l : List Value) (hs : a.eval s = v) (hown : OwnV t base w v l) (hh m c : Nat) (news : List Value) (hx : a.eval x = .slice (some ⟨hh, 0, none⟩) m c) (hl : news.length = m)
    (hc : ∀ i (h : i < news.length), w.cell? ⟨hh, i, none⟩ = some news[i]) (h1 : ∀ u ∈ news, u.oneCell' = true) (hsz : (l.length + m) * bytes ≤ 140737488355328) (h63 : l.length + m ≤ 140737488355328) (hbase : base ≤ w.heap.size)
    (h : ∀ v' w', OwnV t base w' v' (l ++ news) → w.grownBy w' v.ownBlock → (v'.ownBlock = v.ownBlock ∨ v'.ownBlock = some w.heap.size) → wpList Try.prog ops Q rest (a.put o.dst v') w') : wpList Try.prog ops Q (o :: rest) a w := by
  refine wpList_plain hgd fun K hK => ?_
  obtain ⟨v', w', hr, h2, h3, h4⟩ := run_append_vals hE base o.type w v l hown hh m c news hl hc h1 hsz h63 hbase
  unfold Oper.wp execOp
  simp only [ho, resolve, invoke, builtin, Sem.run_bind, Sem.run_pure, Result.andThen_ok, List.map_toArray, List.map_cons, List.map_nil, hs, hx, hr]
  exact hK _ _ (h v' w' h2 h3 h4)
/-- The same at a step of a region that draws its order. -/
theorem step_append_vals {ts t : TypeId} {z : Value} {bytes : Nat} (hE : Elem ts t z bytes) {ops : Array Oper} {o : Oper} {a : Act} {K : Act → World → Prop} {Q : Exit → Act → World → Prop} (hgd : o.guard = none) (s x : Operand)
    (ho : o.op = .call { callee := .builtin .append, args := #[s, x], argTypes := #[ts, ts] })
    (base : Nat) (w : World) (v : Value) (l : List Value) (hs : a.eval s = v) (hown : OwnV t base w v l) (hh m c : Nat) (news : List Value) (hx : a.eval x = .slice (some ⟨hh, 0, none⟩) m c) (hl : news.length = m)
    (hc : ∀ i (h : i < news.length), w.cell? ⟨hh, i, none⟩ = some news[i]) (h1 : ∀ u ∈ news, u.oneCell' = true) (hsz : (l.length + m) * bytes ≤ 140737488355328) (h63 : l.length + m ≤ 140737488355328) (hbase : base ≤ w.heap.size)
    (h : ∀ v' w', OwnV t base w' v' (l ++ news) → w.grownBy w' v.ownBlock → (v'.ownBlock = v.ownBlock ∨ v'.ownBlock = some w.heap.size) → K (a.put o.dst v') w') : if Region.wanted o (yielded ops a.tmps) = true then Oper.wp Try.prog o a w K Q else K (a.put o.dst undef) w := by
  rw [if_pos (by simp [Region.wanted, hgd])]
  obtain ⟨v', w', hr, h2, h3, h4⟩ := run_append_vals hE base o.type w v l hown hh m c news hl hc h1 hsz h63 hbase
  unfold Oper.wp execOp
  simp only [ho, resolve, invoke, builtin, Sem.run_bind, Sem.run_pure, Result.andThen_ok, List.map_toArray, List.map_cons, List.map_nil, hs, hx, hr]
  exact h v' w' h2 h3 h4
/-- A block just made, one element. -/
theorem lit_cell1 (w : World) (u : Value) (t : TypeId) : ∀ i (h : i < [u].length), (w.alloc (.cells #[u] t)).cell? ⟨w.heap.size, i, none⟩ = some [u][i] := by
  intro i hi
  obtain rfl : i = 0 := by simpa using hi
  rw [cell_of_row _ _ _ _ _ _ (heap_alloc_last _ _)]; rfl
theorem lit_cells (w : World) (l : List Value) (t : TypeId) : ∀ i (h : i < l.length), (w.alloc (.cells l.toArray t)).cell? ⟨w.heap.size, i, none⟩ = some l[i] := by
  intro i hi
  rw [cell_of_row _ _ _ _ _ _ (heap_alloc_last _ _), List.getElem?_toArray, List.getElem?_eq_getElem hi]
end Go.Proofs.Ytkckjjchfccdjaa
