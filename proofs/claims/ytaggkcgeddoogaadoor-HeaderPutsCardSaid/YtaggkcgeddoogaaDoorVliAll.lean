/- Several texts in one: VliMath, VliSeq, VliPut, VliGetMath, VliGet, VliRef, VliRPut. -/
import Derived.Test.YtaggkcgeddoogaaDoorRangeOwn
import Derived.Test.YtaggkcgeddoogaaDoorBase
import Derived.Shelf.Abstract
import Derived.Shelf.RegionOpen
import Derived.OwnWalkIn
import Derived.TacticsInMore
import Derived.LoopNIn
import Derived.LoopIn
import Derived.RangeFuncBox
import Derived.Maps.AppendAt
import Derived.Deep.DeepCutAuto
import Derived.Deep.RegionHeld3
/- Numbers in as few bytes as possible. Plain mathematics. -/
namespace Go.Proofs.YtaggkcgeddoogaaDoor.Vl
/-- The bytes of a number, up to f of them ahead of the last. -/
def put : Nat → Nat → List UInt8
  | 0, n => [UInt8.ofNat n]
  | f + 1, n => if n < 128 then [UInt8.ofNat n] else UInt8.ofNat (n % 128 + 128) :: put f (n / 128)
theorem put_small {f n : Nat} (h : n < 128) : put f n = [UInt8.ofNat n] := by
  cases f with
  | zero => rfl
  | succ f => rw [put, if_pos h]
theorem put_big {f n : Nat} (h : ¬ n < 128) : put (f + 1) n = UInt8.ofNat (n % 128 + 128) :: put f (n / 128) := by rw [put, if_neg h]
theorem put_length (f n : Nat) : 1 ≤ (put f n).length ∧ (put f n).length ≤ f + 1 := by
  induction f generalizing n with
  | zero => exact ⟨Nat.le_refl _, Nat.le_refl _⟩
  | succ f ih =>
    by_cases h : n < 128
    · rw [put_small h]; simp
    · rw [put_big h]; have := ih (n / 128); simp; omega
theorem or128 : ∀ k : Fin 256, k.val ||| 128 = k.val % 128 + 128 := by decide +kernel
end Go.Proofs.YtaggkcgeddoogaaDoor.Vl

/- The walk over vli's encoding: an iterator that writes its own variable. -/
namespace Go.Proofs.YtaggkcgeddoogaaDoor
open Go.RowKit Go.Shelf
attribute [local go_sem] Oper.semAt_some

/-- What is left, as the iterator's variable says. -/
def leftIn (bn : Nat) (wr : World) : Nat := (intOf ((wr.cell? ⟨bn, 0, none⟩).getD undef)).toNat
theorem leftIn_eq {bn m : Nat} {wr : World} (h : wr.cell? ⟨bn, 0, none⟩ = some (.int .u64 (m : Nat))) : leftIn bn wr = m := by
  unfold leftIn; rw [h]; simp [intOf]

theorem or_byte (m : Nat) : bits .or .u8 ((m : Int) % 256) 128 = (((UInt8.ofNat (m % 128 + 128)).toNat : Nat) : Int) := by
  have h : m % 256 ||| 128 = m % 256 % 128 + 128 := Vl.or128 ⟨m % 256, Nat.mod_lt _ (by omega)⟩
  rw [show (m : Int) % 256 = ((m % 256 : Nat) : Int) by omega, show (128 : Int) = ((128 : Nat) : Int) from rfl, u8_or_nat _ _ (by omega) (by omega), h, UInt8.toNat_ofNat']
  omega
theorem low_byte (m : Nat) (h : m < 128) : B8 (UInt8.ofNat m) = .int .u8 (m : Nat) := by
  have e : (UInt8.ofNat m).toNat = m := by rw [UInt8.toNat_ofNat']; omega
  show Value.int .u8 _ = _
  rw [e]

set_option maxRecDepth 100000 in
set_option maxHeartbeats 1000000 in
theorem enc_seq (F : Fence) (n : Nat) (h11 : F.fn 47) (hro : F.round = none) (hn : 1 ≤ n) (bn nv : Nat) (w : World) (hb : bn < w.heap.size) (hc : w.cell? ⟨bn, 0, none⟩ = some (.int .u64 (nv : Nat))) (hf : w.frozen? ⟨bn, 0, none⟩ = false) (hv : nv < 128 ^ 10) (hv64 : nv < 18446744073709551616) :
    SeqOwn F n Tryd.prog 47 #[.pointer (some ⟨bn, 0, none⟩)] (fun x : UInt8 => #[B8 x]) bn (fun xs => xs = Vl.put 9 nv) 10 w := by
  intro l J W hW hJ hY h0
  have hcW := (hW.cell (p := ⟨bn, 0, none⟩) hb).trans hc
  have hfW := (hW.frozen (p := ⟨bn, 0, none⟩) hb).trans hf
  have HY := Lib.hid hY
  have HJ := Lib.hid hJ
  clear hY hJ hc hf
  refine callsIn_of_wp Tryd.func47 rfl h11 ?_ hro
  simp only [Tryd.ntmps47, List.size_toArray, List.length_cons, List.length_nil, Nat.reduceAdd, Nat.reduceSub, Array.replicate_succ, Array.replicate_zero, List.push_toArray, List.append_toArray, List.nil_append, List.cons_append]
  gi_wp2
  gi_loopw [4] (fun _ wr => ∃ (pre : List UInt8) (m f : Nat), Hid (Vl.put 9 nv = pre ++ Vl.put f m) ∧ Hid (m < 128 ^ (f + 1)) ∧ m < 18446744073709551616 ∧ pre.length + f = 9 ∧ wr.cell? ⟨bn, 0, none⟩ = some (.int .u64 (m : Nat)) ∧ wr.frozen? ⟨bn, 0, none⟩ = false ∧ J pre wr) (fun _ wr => leftIn bn wr)
  case atStart => exact ⟨[], nv, 9, rfl, hv, hv64, rfl, hcW, hfW, h0⟩
  case round =>
    obtain ⟨pre, m, f, hput, hm, hm64, hlen, hcm, hfm, hJs⟩ := hrel
    clear hcW hfW
    have hleft := Lib.hid (leftIn_eq hcm)
    by_cases hlt : m < 128
    · have hlt' : ¬ (128 : Int) ≤ (m : Int) := by omega
      obtain ⟨fn, tmps, assign, body, hy, hR⟩ := HY.out pre (UInt8.ofNat m) wr hJs (by omega)
      rw [low_byte m hlt] at hy
      have HPUT := Lib.hid (Vl.put_small (f := f) hlt)
      generalize UInt8.ofNat m = X at *
      gi_wp2
      refine hR.mono ?_
      rintro e W3 ⟨rfl, hJ3, hk3⟩
      gi_wp2
      go_end0
      exact ⟨⟨_, rfl⟩, pre ++ [X], by rw [hput.out, HPUT.out], hJ3⟩
    · have hlt' : (128 : Int) ≤ (m : Int) := by omega
      cases f with
      | zero => have := hm.out; simp at this; omega
      | succ f =>
        obtain ⟨fn, tmps, assign, body, hy, hR⟩ := HY.out pre (UInt8.ofNat (m % 128 + 128)) wr hJs (by omega)
        have hor := or_byte m
        have HPUT := Lib.hid (Vl.put_big (f := f) hlt)
        have hq : (m : Int) / 128 = ((m / 128 : Nat) : Int) := by omega
        have hm2 : m / 128 < 128 ^ (f + 1) := by
          have := hm.out
          rw [Nat.pow_succ] at this
          rw [Nat.div_lt_iff_lt_mul (by omega)]; exact this
        have hm3 : m / 128 < m := by omega
        have hm4 : m / 128 < 18446744073709551616 := by omega
        change Sem.run _ (Instr.yield l #[Value.int .u8 (((UInt8.ofNat (m % 128 + 128)).toNat : Nat) : Int)]) wr = _ at hy
        generalize (UInt8.ofNat (m % 128 + 128)).toNat = xn at hy hor
        generalize UInt8.ofNat (m % 128 + 128) = X at *
        generalize m / 128 = m2 at *
        have HM2 := Lib.hid hm2
        clear hm2 hm
        gi_wp2
        refine hR.mono ?_
        rintro e W3 ⟨rfl, hJ3, hk3⟩
        have hc3 : W3.cell? ⟨bn, 0, none⟩ = some (.int .u64 (m : Nat)) := hk3.1.trans hcm
        have hf3 : W3.frozen? ⟨bn, 0, none⟩ = false := hk3.2.trans hfm
        have hc4 : (W3.setCell ⟨bn, 0, none⟩ (.int .u64 (m2 : Nat))).cell? ⟨bn, 0, none⟩ = some (.int .u64 (m2 : Nat)) := World.cell?_setCell_same' _ _ _ (by rw [hc3]; rfl)
        have hf4 : (W3.setCell ⟨bn, 0, none⟩ (.int .u64 (m2 : Nat))).frozen? ⟨bn, 0, none⟩ = false := by rw [World.frozen?_setCell]; exact hf3
        have hJ4 := HJ.out (pre ++ [X]) W3 (.int .u64 (m2 : Nat)) hJ3
        have HL4 := Lib.hid (leftIn_eq hc4)
        gi_wp2
        go_roundw
        case rel => exact ⟨pre ++ [X], m2, f, by show Vl.put 9 nv = _; rw [hput.out, HPUT.out]; simp, HM2.out, hm4, by simp; omega, hc4, hf4, hJ4⟩
        case measure => rw [HL4.out, hleft.out]; exact hm3
end Go.Proofs.YtaggkcgeddoogaaDoor

/- The walk over vli's Put. -/
namespace Go.Proofs.YtaggkcgeddoogaaDoor
open Go.RowKit Go.Shelf
attribute [local go_sem] Oper.semAt_some

/-- Between two rounds: the bytes so far lie in the box B; the iterator's variable lies in block bn. -/
def PutAt (w : World) (B bn : Nat) (pre : List UInt8) (W : World) : Prop :=
  ∃ v x, W.heap[B]? = some (.cells #[v] 26 (0, 0)) ∧ W.heap[bn]? = some (.cells #[x] 44 (0, 0)) ∧ Own w.heap.size W v pre ∧ Below w.heap.size w W

theorem Own.put {base : Nat} {W : World} {v : Value} {l : List UInt8} (h : Own base W v l) {j : Nat} {o : Obj} (o' : Obj) (hj : W.heap[j]? = some o) (ho : o.isCells = false) : Own base (W.putObj j o') v l := by
  rcases h with ⟨h1, h2 | ⟨g, cap, cur, h2, h3, h4, h5⟩⟩
  · exact ⟨h1, .inl h2⟩
  · refine ⟨h1, .inr ⟨g, cap, cur, h2, h3, (World.putObj_heap_other ?_).trans h4, h5⟩⟩
    intro e; subst e; rw [hj] at h4; injection h4 with h4; subst h4; cases ho
theorem Own.set {base : Nat} {W : World} {v : Value} {l : List UInt8} (h : Own base W v l) {p : Addr} (hp : v.ownBlock ≠ some p.block) (u : Value) : Own base (W.setCell p u) v l := by
  rcases h with ⟨h1, h2 | ⟨g, cap, cur, h2, h3, h4, h5⟩⟩
  · exact ⟨h1, .inl h2⟩
  · exact ⟨h1, .inr ⟨g, cap, cur, h2, h3, (heap_setCell_other _ _ _ _ (fun e => hp (by rw [h2, ← e]; rfl))).trans h4, h5⟩⟩
/-- Its block is none of another type. -/
theorem Own.apart {base : Nat} {W : World} {v : Value} {l : List UInt8} (h : Own base W v l) {k : Nat} {cs : Array Value} {t : TypeId} {fr : Nat × Nat} (hk : W.heap[k]? = some (.cells cs t fr)) (ht : t ≠ 5) : v.ownBlock ≠ some k := by
  intro he
  rcases h with ⟨_, ⟨rfl, _⟩ | ⟨g', cap', cur, rfl, _, h4, _⟩⟩
  · cases he
  · have e : g' = k := by simpa [Value.ownBlock] using he
    subst e
    rw [h4] at hk
    injection hk with hk; injection hk with _ hk2 _
    exact ht hk2.symm

theorem Own.cells {base : Nat} {W : World} {v : Value} {l : List UInt8} (h : Own base W v l) {j : Nat} {o : Obj} (hj : v.ownBlock = some j) (ho : W.heap[j]? = some o) : o.isCells = true := by
  rcases h with ⟨_, ⟨rfl, _⟩ | ⟨g', cap', cur, rfl, _, h4, _⟩⟩
  · cases hj
  · have e : g' = j := by simpa [Value.ownBlock] using hj
    subst e
    rw [ho] at h4; injection h4 with h4; subst h4; rfl
theorem kept_of_block {bn : Nat} {W W' : World} (h : W'.heap[bn]? = W.heap[bn]?) : KeptCell bn W W' :=
  ⟨World.cell?_of_block (a := ⟨bn, 0, none⟩) h, World.frozen?_of_block (a := ⟨bn, 0, none⟩) h⟩

theorem putAt_alloc {w : World} {B bn : Nat} (s : List UInt8) (W : World) (o : Obj) (h : PutAt w B bn s W) : PutAt w B bn s (W.alloc o) := by
  obtain ⟨v, x, h1, h2, h3, h4⟩ := h
  have l1 : B < W.heap.size := (Array.getElem?_eq_some_iff.1 h1).1
  have l2 : bn < W.heap.size := (Array.getElem?_eq_some_iff.1 h2).1
  exact ⟨v, x, (Below.heap_alloc _ _ _ l1).trans h1, (Below.heap_alloc _ _ _ l2).trans h2, h3.alloc _, h4.alloc h4.size _⟩
theorem putAt_put {w w0 : World} {B bn : Nat} (hw : w.heap.size ≤ w0.heap.size) (s : List UInt8) (W : World) (j : Nat) (o o' : Obj) (h : PutAt w B bn s W) (hl : w0.heap.size ≤ j) (hj : W.heap[j]? = some o) (ho : o.isCells = false) : PutAt w B bn s (W.putObj j o') := by
  obtain ⟨v, x, h1, h2, h3, h4⟩ := h
  have n1 : B ≠ j := by intro e; subst e; rw [hj] at h1; injection h1 with h1; subst h1; cases ho
  have n2 : bn ≠ j := by intro e; subst e; rw [hj] at h2; injection h2 with h2; subst h2; cases ho
  refine ⟨v, x, (World.putObj_heap_other n1).trans h1, (World.putObj_heap_other n2).trans h2, h3.put _ hj ho, ?_⟩
  exact h4.grown (grownBy_putObj' W j o') h4.size (fun k e => by cases e; omega)
theorem putAt_cell {w : World} {B bn : Nat} (hne : B ≠ bn) (hb : w.heap.size ≤ bn) : AbidesCell bn (PutAt w B bn) := by
  intro s W u h
  obtain ⟨v, x, h1, h2, h3, h4⟩ := h
  refine ⟨v, u, (heap_setCell_other _ _ _ _ hne).trans h1, ?_, h3.set (h3.apart h2 (by decide)) _, h4.setCell hb _⟩
  rw [heap_setCell_same W bn 0 _ _ u h2]; rfl

def EncDone (w : World) (nv : Nat) (e : Ending) (w' : World) : Prop := e = .returned (.func (.func 47) #[] #[.pointer (some ⟨w.heap.size, 0, none⟩)]) ∧ w.alloc (.cells #[.int .u64 (nv : Nat)] 44) = w'
set_option maxHeartbeats 400000 in
theorem enc_in (F : Fence) (n : Nat) (h10 : F.fn 35) (hro : F.round = none) (nv : Nat) (w : World) :
    CallsIn F n Tryd.prog 35 #[.int .u64 (nv : Nat)] w (EncDone w nv) := by
  refine callsIn_of_wp Tryd.func35 rfl h10 ?_ hro
  simp only [Tryd.ntmps35, List.size_toArray, List.length_cons, List.length_nil, Nat.reduceAdd, Nat.reduceSub, Array.replicate_succ, Array.replicate_zero, List.push_toArray, List.append_toArray, List.nil_append, List.cons_append]
  gi_wp2
  go_ret
  exact ⟨rfl, rfl⟩

def PutDone (w : World) (l : List UInt8) (e : Ending) (w' : World) : Prop := ∃ v, e = .returned (.tuple #[v, .int .i64 0]) ∧ Own w.heap.size w' v l ∧ Below w.heap.size w w'

set_option maxRecDepth 100000 in
set_option maxHeartbeats 1000000 in
theorem put_in (F : Fence) (n : Nat) (h6 : F.fn 16) (h10 : F.fn 35) (h11 : F.fn 47) (hro : F.round = none) (hn : 3 ≤ n) (nv : Nat) (w : World) (hv : nv ≤ 9223372036854775807) :
    CallsIn F n Tryd.prog 16 #[.int .u64 (nv : Nat)] w (PutDone w (Vl.put 9 nv)) := by
  have h1 : 1 ≤ n := by omega
  have hv' : ¬ (9223372036854775807 : Int) < (nv : Int) := by omega
  have hv64 : nv < 18446744073709551616 := by omega
  refine callsIn_of_wp_marks Tryd.func16 rfl h6 ?_ hro
  simp only [Tryd.ntmps16, List.size_toArray, List.length_cons, List.length_nil, Nat.reduceAdd, Nat.reduceSub, Array.replicate_succ, Array.replicate_zero, List.push_toArray, List.append_toArray, List.nil_append, List.cons_append]
  gi_wp2_with (gi_at_call 35; refine (enc_in F (n - 1) h10 hro nv _).mono ?_; rintro e w' ⟨rfl, rfl⟩)
  have hblkN : ((w.alloc (.cells #[.slice none 0 0] 26)).alloc (.cells #[.int .u64 (nv : Nat)] 44)).heap[w.heap.size + 1]? = some (.cells #[.int .u64 (nv : Nat)] 44 (0, 0)) := by
    have := heap_alloc_new (w.alloc (.cells #[.slice none 0 0] 26)) (.cells #[.int .u64 (nv : Nat)] 44)
    rwa [World.size_alloc] at this
  have hblkB : ((w.alloc (.cells #[.slice none 0 0] 26)).alloc (.cells #[.int .u64 (nv : Nat)] 44)).heap[w.heap.size]? = some (.cells #[.slice none 0 0] 26 (0, 0)) :=
    (Below.heap_alloc _ _ _ (by simp)).trans (heap_alloc_new w _)
  have hbel : Below w.heap.size w ((w.alloc (.cells #[.slice none 0 0] 26)).alloc (.cells #[.int .u64 (nv : Nat)] 44)) := ((Below.refl _ _).alloc (Nat.le_refl _) _).alloc (by simp) _
  have hsz : ((w.alloc (.cells #[.slice none 0 0] 26)).alloc (.cells #[.int .u64 (nv : Nat)] 44)).heap.size = w.heap.size + 2 := by simp
  generalize (w.alloc (.cells #[.slice none 0 0] 26)).alloc (.cells #[.int .u64 (nv : Nat)] 44) = W0 at *
  have hcn : W0.cell? ⟨w.heap.size + 1, 0, none⟩ = some (.int .u64 (nv : Nat)) := by rw [cell_of_row _ _ _ _ _ _ hblkN]; rfl
  have hfn := frozen_of_row W0 (w.heap.size + 1) 0 _ _ hblkN
  have hv10 : nv < 128 ^ 10 := by
    have : (128 : Nat) ^ 10 = 1180591620717411303424 := by decide
    omega
  obtain ⟨i0, hi, hz0, hz1, hz2⟩ := info_parts info8
  refine wpIn_range_own hro h1 (gf := 47) (lb := #[.pointer (some ⟨w.heap.size + 1, 0, none⟩)]) rfl h11 (enters_of Tryd.func47 (by kernel_rfl) rfl)
    (enc_seq F (n - 1) h11 hro (by omega) (w.heap.size + 1) nv W0 (by omega) hcn hfn hv10 hv64) (by omega) (fun _ => rfl)
    (PutAt w w.heap.size (w.heap.size + 1)) putAt_alloc (putAt_put (w0 := W0) (by omega)) (putAt_cell (by omega) (by omega)) ⟨_, _, hblkB, hblkN, Own.nil _ _, hbel⟩
    (fun x => { tmps := #[.int .u64 (nv : Nat), undef, .slice none 0 0, .int .i64 0, .pointer (some ⟨w.heap.size, 0, none⟩), B8 x, .int .u64 (nv : Nat), .bool false, .int .u64 (nv : Nat), .func (.func 47) #[] #[.pointer (some ⟨w.heap.size + 1, 0, none⟩)], B8 x, undef, undef, undef, undef, undef], defers := [] }) ?assign ?body ?done
  case assign =>
    intro l x W K hK
    gi_wp2
    exact hK
  case body =>
    rintro l pre x W ⟨v, y, hB, hN, hO, hb⟩ hlen
    have cB : W.cell? ⟨w.heap.size, 0, none⟩ = some v := by rw [cell_of_row _ _ _ _ _ _ hB]; rfl
    have hbs := hb.size
    have hlB : w.heap.size < W.heap.size := (Array.getElem?_eq_some_iff.1 hB).1
    have hlN : w.heap.size + 1 < W.heap.size := (Array.getElem?_eq_some_iff.1 hN).1
    have aB := hO.apart hB (by decide)
    have aN := hO.apart hN (by decide)
    have hOa := hO.alloc (.cells #[B8 x] 5)
    clear hcn hfn hblkB hblkN hbel
    gi_wp2_with (gi_at_builtin; refine wpListIn_append_own _ rfl _ _ 26 rfl w.heap.size 5 i0 (.int .u8 0) 1 1 Tryd.underlying26 hi hz0 hz1 hz2 rfl (by decide) _ _ _ rfl hOa ⟨W.heap.size, 0, none⟩ 1 1 [B8 x] rfl rfl (cell_one_new _ _ _) (by intro u hu; simp at hu; subst hu; rfl) (by unfold maxLen; omega) (by omega) (by simp; omega) ?_; intro v' w1 hown' hgrow _; obtain ⟨g', cap', rfl, hg1, hg2⟩ := World.ownsRow.form hown' (by omega); have hB1 : w1.heap[w.heap.size]? = some (.cells #[v] 26 (0, 0)) := (hgrow.block _ (by simp; omega) (fun e => aB e.symm)).trans ((Below.heap_alloc _ _ _ hlB).trans hB); have hN1 : w1.heap[w.heap.size + 1]? = W.heap[w.heap.size + 1]? := (hgrow.block _ (by simp; omega) (fun e => aN e.symm)).trans (Below.heap_alloc _ _ _ hlN); have cB1 : w1.cell? ⟨w.heap.size, 0, none⟩ = some v := (by rw [cell_of_row _ _ _ _ _ _ hB1]; rfl); have fB1 := frozen_of_row w1 w.heap.size 0 _ _ hB1)
    have hgr : (W.alloc (.cells #[B8 x] 5)).grownBy w1 v.ownBlock := hgrow
    have hown2 : Own w.heap.size w1 (.slice (some ⟨g', 0, none⟩) (pre.length + 1) cap') (pre ++ [x]) := by
      unfold Own; simpa using hown'
    have aB1 := hown2.apart hB1 (by decide)
    refine ⟨((KeepsOthers.alloc W _).trans (KeepsOthers.of_grownBy hgr (fun j o hj ho => hOa.cells hj ho))).trans (KeepsOthers.setCell _ _ _), kept_of_block ((heap_setCell_other _ _ _ _ (by show w.heap.size + 1 ≠ w.heap.size; omega)).trans hN1), _, y, ?_, ?_, hown2.set aB1 _, ?_⟩
    · rw [heap_setCell_same w1 w.heap.size 0 _ _ _ hB1]; rfl
    · exact (heap_setCell_other _ _ _ _ (by show w.heap.size + 1 ≠ w.heap.size; omega)).trans (hN1.trans hN)
    · exact (below_grown (hb.alloc hb.size _) hgr (by simp; omega) (fun k hk => (hO.from_base k hk).1)).setCell (Nat.le_refl _) _
  case done =>
    rintro D xs W hD rfl ⟨v, y, hB, hN, hO, hb⟩ hK
    have cB : W.cell? ⟨w.heap.size, 0, none⟩ = some v := by rw [cell_of_row _ _ _ _ _ _ hB]; rfl
    gi_wp2
    refine ⟨by simp, .inl ⟨_, _, rfl, run_takeDeferred hK, ?_⟩⟩
    exact ⟨_, results_tmp2 rfl _ _ _, v, rfl, hO.put _ hK rfl, hb.grown (grownBy_putObj' W D (.deferred none)) hb.size (fun k e => by cases e; omega)⟩

theorem put_any (nv : Nat) (w : World) (hv : nv ≤ 9223372036854775807) : Calls Tryd.prog 16 #[.int .u64 (nv : Nat)] w (PutDone w (Vl.put 9 nv)) :=
  callsIn_wide.1 (put_in Fence.wide 3 trivial trivial trivial rfl (by omega) nv w hv)

set_option maxHeartbeats 400000 in
theorem put_over (nv : Nat) (w : World) (hv : 9223372036854775807 < nv) : Calls Tryd.prog 16 #[.int .u64 (nv : Nat)] w fun e w' => e = .returned (.tuple #[.slice none 0 0, .int .i64 1]) ∧ w = w' := by
  have hv' : (9223372036854775807 : Int) < (nv : Int) := by omega
  go_enter Tryd.func16, Tryd.ntmps16
  go_wp2_with fail
  go_ret2
  exact ⟨rfl, rfl⟩
end Go.Proofs.YtaggkcgeddoogaaDoor

/- Numbers got of bytes. Plain mathematics. -/
namespace Go.Proofs.YtaggkcgeddoogaaDoor.Vl

/-- The number of the first i bytes. -/
def num (l : List UInt8) : Nat → Nat
  | 0 => 0
  | i + 1 => num l i + (l.getD i 0).toNat % 128 * 128 ^ i
theorem num_lt (l : List UInt8) : ∀ i, num l i < 128 ^ i
  | 0 => by show 0 < 1; omega
  | i + 1 => by
    have h := num_lt l i
    have h2 : (l.getD i 0).toNat % 128 * 128 ^ i ≤ 127 * 128 ^ i := Nat.mul_le_mul_right _ (by omega)
    show num l i + _ < _
    rw [Nat.pow_succ]; omega
/-- What is got from place i on. -/
def go (l : List UInt8) : Nat → Nat → Nat × Nat × Nat
  | 0, _ => (0, 0, 6)
  | f + 1, i => if l.length ≤ i then (0, 0, 2) else if 128 ≤ (l.getD i 0).toNat then go l f (i + 1) else if (l.getD i 0).toNat = 0 ∧ 0 < i then (0, 0, 6) else (num l (i + 1), i + 1, 0)
def get (l : List UInt8) : Nat × Nat × Nat := go l 9 0

theorem go_end {l : List UInt8} {f i : Nat} (h : l.length ≤ i) : go l (f + 1) i = (0, 0, 2) := by rw [go, if_pos h]
theorem go_more {l : List UInt8} {f i : Nat} (h : ¬ l.length ≤ i) (hb : 128 ≤ (l.getD i 0).toNat) : go l (f + 1) i = go l f (i + 1) := by rw [go, if_neg h, if_pos hb]
theorem go_bad {l : List UInt8} {f i : Nat} (h : ¬ l.length ≤ i) (hb : (l.getD i 0).toNat = 0) (hi : 0 < i) : go l (f + 1) i = (0, 0, 6) := by rw [go, if_neg h, if_neg (by omega), if_pos ⟨hb, hi⟩]
theorem go_last {l : List UInt8} {f i : Nat} (h : ¬ l.length ≤ i) (hb : ¬ 128 ≤ (l.getD i 0).toNat) (hi : ¬ ((l.getD i 0).toNat = 0 ∧ 0 < i)) : go l (f + 1) i = (num l (i + 1), i + 1, 0) := by rw [go, if_neg h, if_neg hb, if_neg hi]

/-- What was put is got, whatever stands behind. -/
theorem go_put (l : List UInt8) (more : List UInt8) : ∀ (f n i e : Nat), l.drop i = put f n ++ more → n < 128 ^ (f + 1) → (0 < i → 0 < n) → f + 1 ≤ e → go l e i = (num l i + n * 128 ^ i, i + (put f n).length, 0)
  | 0, n, i, e, hd, hn, hp, he => by
    obtain ⟨e, rfl⟩ : ∃ e', e = e' + 1 := ⟨e - 1, by omega⟩
    have hn' : n < 128 := by simpa using hn
    have hlt : ¬ l.length ≤ i := by intro h; rw [List.drop_eq_nil_of_le h] at hd; simp [put] at hd
    have hg : l.getD i 0 = UInt8.ofNat n := by
      have : (l.drop i)[0]? = some (UInt8.ofNat n) := by rw [hd]; rfl
      rw [List.getElem?_drop] at this; simp only [Nat.add_zero] at this
      rw [List.getD_eq_getElem?_getD, this]; rfl
    have ht : (l.getD i 0).toNat = n := by rw [hg, UInt8.toNat_ofNat']; omega
    rw [go_last hlt (by omega) (by rw [ht]; intro ⟨h1, h2⟩; have := hp h2; omega), num, ht, Nat.mod_eq_of_lt hn']; rfl
  | f + 1, n, i, e, hd, hn, hp, he => by
    obtain ⟨e, rfl⟩ : ∃ e', e = e' + 1 := ⟨e - 1, by omega⟩
    have hlt : ¬ l.length ≤ i := by
      intro h; rw [List.drop_eq_nil_of_le h] at hd
      have := (put_length (f + 1) n).1
      have h2 := congrArg List.length hd
      simp at h2; omega
    by_cases hs : n < 128
    · rw [put_small hs] at hd ⊢
      have hg : l.getD i 0 = UInt8.ofNat n := by
        have : (l.drop i)[0]? = some (UInt8.ofNat n) := by rw [hd]; rfl
        rw [List.getElem?_drop] at this; simp only [Nat.add_zero] at this
        rw [List.getD_eq_getElem?_getD, this]; rfl
      have ht : (l.getD i 0).toNat = n := by rw [hg, UInt8.toNat_ofNat']; omega
      rw [go_last hlt (by omega) (by rw [ht]; intro ⟨h1, h2⟩; have := hp h2; omega), num, ht, Nat.mod_eq_of_lt hs]; rfl
    · rw [put_big hs] at hd ⊢
      have hg : l.getD i 0 = UInt8.ofNat (n % 128 + 128) := by
        have : (l.drop i)[0]? = some (UInt8.ofNat (n % 128 + 128)) := by rw [hd]; rfl
        rw [List.getElem?_drop] at this; simp only [Nat.add_zero] at this
        rw [List.getD_eq_getElem?_getD, this]; rfl
      have ht : (l.getD i 0).toNat = n % 128 + 128 := by rw [hg, UInt8.toNat_ofNat']; omega
      have hd2 : l.drop (i + 1) = put f (n / 128) ++ more := by
        have : l.drop (i + 1) = (l.drop i).drop 1 := by rw [List.drop_drop]
        rw [this, hd]; rfl
      have hn2 : n / 128 < 128 ^ (f + 1) := by
        rw [Nat.div_lt_iff_lt_mul (by omega)]; rw [Nat.pow_succ] at hn; exact hn
      rw [go_more hlt (by omega), go_put l more f (n / 128) (i + 1) e hd2 hn2 (fun _ => by omega) (by omega), num, ht]
      have e1 : (n % 128 + 128) % 128 = n % 128 := by omega
      have e2 : n / 128 * 128 ^ (i + 1) = n / 128 * 128 * 128 ^ i := by rw [Nat.pow_succ, Nat.mul_comm (128 ^ i), Nat.mul_assoc]
      have e3 : n % 128 * 128 ^ i + n / 128 * 128 * 128 ^ i = n * 128 ^ i := by rw [← Nat.add_mul]; congr 1; omega
      rw [e1, e2, Nat.add_assoc, e3, List.length_cons]
      congr 2; omega

/-- What was got is put as it was. -/
theorem put_go (l : List UInt8) : ∀ (f i N k : Nat), go l f i = (N, k, 0) → ∃ m, N = num l i + m * 128 ^ i ∧ i < k ∧ k ≤ l.length ∧ put f m = (l.drop i).take (k - i) ∧ m < 128 ^ f ∧ (0 < i → 0 < m)
  | 0, i, N, k, h => by simp [go] at h
  | f + 1, i, N, k, h => by
    by_cases hlt : l.length ≤ i
    · rw [go_end hlt] at h; simp at h
    · have hcons : l.drop i = l.getD i 0 :: l.drop (i + 1) := by
        rw [List.drop_eq_getElem_cons (by omega)]; congr 1; simp [List.getD, show i < l.length by omega]
      by_cases hb : 128 ≤ (l.getD i 0).toNat
      · rw [go_more hlt hb] at h
        obtain ⟨m, h1, h2, h3, h4, h5, h6⟩ := put_go l f (i + 1) N k h
        have hlt256 := (l.getD i 0).toNat_lt
        have hm := h6 (by omega)
        have e1 : ((l.getD i 0).toNat % 128 + m * 128) / 128 = m := by omega
        have e2 : ((l.getD i 0).toNat % 128 + m * 128) % 128 = (l.getD i 0).toNat % 128 := by omega
        refine ⟨(l.getD i 0).toNat % 128 + m * 128, ?_, by omega, h3, ?_, ?_, fun _ => by omega⟩
        · rw [h1, num, Nat.add_assoc, Nat.add_mul, Nat.pow_succ, Nat.mul_assoc m, Nat.mul_comm 128]
        · rw [put_big (by omega), e1, e2, h4, hcons, show k - i = (k - (i + 1)) + 1 by omega, List.take_succ_cons]
          congr 1
          apply UInt8.toNat_inj.1
          rw [UInt8.toNat_ofNat']; omega
        · rw [Nat.pow_succ]; omega
      · by_cases hz : (l.getD i 0).toNat = 0 ∧ 0 < i
        · rw [go_bad hlt hz.1 hz.2] at h; simp at h
        · rw [go_last hlt hb hz] at h
          simp only [Prod.mk.injEq, and_true] at h
          obtain ⟨rfl, rfl⟩ := h
          refine ⟨(l.getD i 0).toNat, ?_, by omega, by omega, ?_, ?_, fun hi => by omega⟩
          · rw [num, Nat.mod_eq_of_lt (by omega)]
          · rw [put_small (by omega), hcons, show i + 1 - i = 0 + 1 by omega, List.take_succ_cons, List.take_zero]
            congr 1
            apply UInt8.toNat_inj.1
            rw [UInt8.toNat_ofNat']; have := (l.getD i 0).toNat_lt; omega
          · rw [Nat.pow_succ]; have : 0 < 128 ^ f := Nat.pos_of_ne_zero (by simp)
            have h1 : 1 * 128 ≤ 128 ^ f * 128 := Nat.mul_le_mul_right _ this
            omega
end Go.Proofs.YtaggkcgeddoogaaDoor.Vl

/- The walks over vli's Get and the reference's Get and Put. -/
namespace Go.Proofs.YtaggkcgeddoogaaDoor
open Go.RowKit

theorem or_add (a b k : Nat) (hb : b < 2 ^ k) : a * 2 ^ k ||| b = a * 2 ^ k + b := by
  rw [← Nat.shiftLeft_eq, ← Nat.shiftLeft_add_eq_or_of_lt hb]
theorem digit (N v t : Nat) (hv : v < 256) (hN : N < 128 ^ t) (ht : t < 9) :
    bits .or .u64 (N : Int) (IntKind.u64.wrap (IntKind.u64.wrap (bits .and .u8 (v : Int) 127) * 2 ^ (7 * t))) = ((N + v % 128 * 128 ^ t : Nat) : Int) := by
  have hp : (128 : Nat) ^ t = 2 ^ (7 * t) := by rw [Nat.pow_mul]
  have hle : 2 ^ (7 * t) ≤ 2 ^ 56 := Nat.pow_le_pow_right (by omega) (by omega)
  have hand : bits .and .u8 (v : Int) 127 = ((v % 128 : Nat) : Int) := by
    rw [show (127 : Int) = ((127 : Nat) : Int) from rfl, u8_and_nat _ _ (by omega) (by omega)]
    congr 1; exact Nat.and_two_pow_sub_one_eq_mod v 7
  have hd : v % 128 * 2 ^ (7 * t) ≤ 127 * 2 ^ (7 * t) := Nat.mul_le_mul_right _ (by omega)
  have e1 : IntKind.u64.wrap ((v % 128 : Nat) : Int) = ((v % 128 : Nat) : Int) := by rw [IntKind.wrap_u64]; omega
  have e2 : ((v % 128 : Nat) : Int) * 2 ^ (7 * t) = ((v % 128 * 2 ^ (7 * t) : Nat) : Int) := by simp
  have e3 : IntKind.u64.wrap ((v % 128 * 2 ^ (7 * t) : Nat) : Int) = ((v % 128 * 2 ^ (7 * t) : Nat) : Int) := by rw [IntKind.wrap_u64]; omega
  rw [hand, e1, e2, e3, u64_or_nat _ _ (by rw [hp] at hN; omega) (by omega), Nat.or_comm, or_add _ _ _ (by rw [← hp]; exact hN), hp, Nat.add_comm]

def Got (w : World) (r : Nat × Nat × Nat) (e : Ending) (w' : World) : Prop := e = .returned (.tuple #[.int .u64 (r.1 : Nat), .int .i64 (r.2.1 : Nat), .int .i64 (r.2.2 : Nat)]) ∧ w = w'

set_option maxRecDepth 100000 in
set_option maxHeartbeats 1000000 in
theorem get_any (A : Option Addr) (l : List UInt8) (c : Nat) (w : World) (hB : Bytes w A l) (hl : l.length ≤ 140737488355328) :
    Calls Tryd.prog 23 #[.slice A l.length c] w (Got w (Vl.get l)) := by
  go_enter Tryd.func23, Tryd.ntmps23
  go_wp2_with fail
  go_loopw [5, 10] (fun nn i wr => ∃ t : Nat, t ≤ l.length ∧ t < 9 ∧ i = .int .i64 (t : Nat) ∧ nn = .int .u64 (Vl.num l t : Nat) ∧ Hid (Vl.get l = Vl.go l (9 - t) t) ∧ w = wr) (fun _ i _ => l.length - (intOf i).toNat)
  case atStart => exact ⟨0, by omega, by omega, rfl, rfl, rfl, rfl⟩
  case round =>
    obtain ⟨t, ht, ht9, rfl, rfl, hgo, rfl⟩ := hrel
    by_cases hlt : t < l.length
    · obtain ⟨b, off, rfl, hb, hc⟩ := hB.addr (by omega)
      have hct := hc t hlt
      have hgd : l[t] = l.getD t 0 := by simp [List.getD, hlt]
      rw [hgd] at hct
      have hnl : ¬ l.length ≤ t := by omega
      have hlti : (t : Int) < (l.length : Int) := by omega
      have h256 := (l.getD t 0).toNat_lt
      have hnum := Vl.num_lt l t
      have hfx : 9 - t = (8 - t) + 1 := by omega
      rw [hfx] at hgo
      have HM := Lib.hid (fun h => hgo.out.trans (Vl.go_more (f := 8 - t) hnl h))
      have HBAD := Lib.hid (fun h h2 => hgo.out.trans (Vl.go_bad (f := 8 - t) hnl h h2))
      have HLAST := Lib.hid (fun h h2 => hgo.out.trans (Vl.go_last (f := 8 - t) hnl h h2))
      have HNUM := Lib.hid (show Vl.num l (t + 1) = Vl.num l t + (l.getD t 0).toNat % 128 * 128 ^ t from rfl)
      generalize (l.getD t 0).toNat = v at *
      generalize hN : Vl.num l t = N at *
      have HNN := Lib.hid hN
      have hNL := Lib.hid hnum
      clear hc hgd hB
      generalize hL : l.length = L at *
      have HL := Lib.hid hL
      clear hgo hfx hnum hN hL
      have HDG := Lib.hid (digit N v t h256 hNL.out ht9)
      go_upto_region 7 with (fail)
      rw [HDG.out]
      rw [← HNUM.out]
      generalize hN2 : Vl.num l (t + 1) = N2 at *
      have HN2 := Lib.hid hN2
      clear hN2 HDG hct
      by_cases hv : 128 ≤ v
      · have hvi : (128 : Int) ≤ (v : Int) := by omega
        by_cases h8 : t = 8
        · have h8i : ((t : Int) + 1 == 9) = true := by simp; omega
          have HE := Lib.hid (show Vl.get l = (0, 0, 6) by rw [HM.out hv, h8]; rfl)
          have H8 := Lib.hid h8
          clear h8
          go_wp2_with fail
          go_ret3
          exact ⟨by rw [HE.out]; rfl, rfl⟩
        · have h8i : ((t : Int) + 1 == 9) = false := beq_eq_false_iff_ne.2 (by omega)
          have HE := Lib.hid (HM.out hv)
          go_wp2_with fail
          go_roundw
          case rel => exact ⟨t + 1, by have := HL.out; omega, by omega, congrArg (Value.int .i64) (by omega), by rw [HN2.out], by show Vl.get l = _; rw [HE.out, show 9 - (t + 1) = 8 - t by omega], trivial⟩
          case measure => have := HL.out; simp [intOf] <;> omega
      · have hvi : ¬ (128 : Int) ≤ (v : Int) := by omega
        by_cases hv0 : v = 0
        · have hv0i : ((v : Int) == 0) = true := by simp [hv0]
          by_cases ht0 : 0 < t
          · have ht0i : (0 : Int) < (t : Int) := by omega
            have HE := Lib.hid (HBAD.out hv0 ht0)
            have HV := Lib.hid hv0
            clear hv0
            go_wp2_with fail
            go_ret3
            exact ⟨by rw [HE.out]; rfl, rfl⟩
          · have ht0i : ¬ (0 : Int) < (t : Int) := by omega
            have HE := Lib.hid (HLAST.out hv (by omega))
            have HV := Lib.hid hv0
            clear hv0
            go_wp2_with fail
            go_ret3
            exact ⟨by rw [HE.out]; rfl, rfl⟩
        · have hv0i : ((v : Int) == 0) = false := beq_eq_false_iff_ne.2 (by omega)
          have HE := Lib.hid (HLAST.out hv (by omega))
          go_wp2_with fail
          go_ret3
          exact ⟨by rw [HE.out]; rfl, rfl⟩
    · have hlti : ¬ (t : Int) < (l.length : Int) := by omega
      have hfx : 9 - t = (8 - t) + 1 := by omega
      have HE := Lib.hid (show Vl.get l = (0, 0, 2) by rw [hgo.out, hfx]; exact Vl.go_end (by omega))
      clear hfx hgo
      go_wp2_with fail
      go_ret3
      exact ⟨by rw [HE.out]; rfl, rfl⟩
end Go.Proofs.YtaggkcgeddoogaaDoor

/- The walks over the reference's Get and Put. -/
namespace Go.Proofs.YtaggkcgeddoogaaDoor
open Go.RowKit

set_option maxRecDepth 100000 in
set_option maxHeartbeats 1000000 in
theorem rget_any (A : Option Addr) (l : List UInt8) (c : Nat) (w : World) (hB : Bytes w A l) (hl : l.length ≤ 140737488355328) :
    Calls Tryd.prog 45 #[.slice A l.length c] w (Got w (Vl.get l)) := by
  go_enter Tryd.func45, Tryd.ntmps45
  go_wp2_with fail
  go_loopw [5, 6, 7] (fun nn pp i wr => ∃ t : Nat, t ≤ 9 ∧ i = .int .i64 (t : Nat) ∧ nn = .int .u64 (Vl.num l t : Nat) ∧ pp = .int .u64 ((128 ^ t : Nat) : Int) ∧ Hid (Vl.get l = Vl.go l (9 - t) t) ∧ w = wr) (fun _ _ i _ => 9 - (intOf i).toNat)
  case atStart => exact ⟨0, by omega, rfl, rfl, rfl, rfl, rfl⟩
  case round =>
    obtain ⟨t, ht9, rfl, rfl, rfl, hgo, rfl⟩ := hrel
    by_cases h9 : t < 9
    · have h9i : (t : Int) < 9 := by omega
      have hfx : 9 - t = (8 - t) + 1 := by omega
      rw [hfx] at hgo
      by_cases hlt : t < l.length
      · obtain ⟨b, off, rfl, hb, hc⟩ := hB.addr (by omega)
        have hct := hc t hlt
        have hgd : l[t] = l.getD t 0 := by simp [List.getD, hlt]
        rw [hgd] at hct
        have hnl : ¬ l.length ≤ t := by omega
        have hlti : ¬ (l.length : Int) ≤ (t : Int) := by omega
        have hlti2 : (t : Int) < (l.length : Int) := by omega
        have h256 := (l.getD t 0).toNat_lt
        have hnum := Vl.num_lt l t
        have hP : 128 ^ t ≤ 128 ^ 8 := Nat.pow_le_pow_right (by omega) (by omega)
        have hP8 : (128 : Nat) ^ 8 = 72057594037927936 := by decide
        have HM := Lib.hid (fun h => hgo.out.trans (Vl.go_more (f := 8 - t) hnl h))
        have HBAD := Lib.hid (fun h h2 => hgo.out.trans (Vl.go_bad (f := 8 - t) hnl h h2))
        have HLAST := Lib.hid (fun h h2 => hgo.out.trans (Vl.go_last (f := 8 - t) hnl h h2))
        have HNUM := Lib.hid (show Vl.num l (t + 1) = Vl.num l t + (l.getD t 0).toNat % 128 * 128 ^ t from rfl)
        have HPW := Lib.hid (show (128 : Nat) ^ (t + 1) = 128 ^ t * 128 from Nat.pow_succ _ _)
        generalize (l.getD t 0).toNat = v at *
        generalize Vl.num l t = N at *
        generalize 128 ^ t = P at *
        have hD : v % 128 * P ≤ 127 * P := Nat.mul_le_mul_right _ (by omega)
        have hmul : IntKind.u64.wrap ((v : Int) % 128 * (P : Int)) = ((v % 128 * P : Nat) : Int) := by
          rw [show (v : Int) % 128 * (P : Int) = ((v % 128 * P : Nat) : Int) by simp, IntKind.wrap_u64]; omega
        generalize v % 128 * P = D at *
        have hDl : (D : Int) ≤ 127 * 72057594037927936 := by omega
        have hNl : (N : Int) < 72057594037927936 := by omega
        have hPl : (P : Int) ≤ 72057594037927936 := by omega
        generalize hN2 : Vl.num l (t + 1) = N2 at *
        have HN2 := Lib.hid hN2
        have hadd : (N : Int) + (D : Int) = (N2 : Int) := by have := HNUM.out; omega
        clear hc hgd hB
        generalize hL : l.length = L at *
        clear hgo hfx hnum hL hP hP8 hN2 hD
        by_cases hv : 128 ≤ v
        · have hvi : (128 : Int) ≤ (v : Int) := by omega
          have HE := Lib.hid (HM.out hv)
          go_wp2_with fail
          go_roundw
          case rel => exact ⟨t + 1, by omega, congrArg (Value.int .i64) (by omega), by rw [HN2.out], congrArg (Value.int .u64) (by have := HPW.out; omega), by show Vl.get l = _; rw [HE.out, show 9 - (t + 1) = 8 - t by omega], trivial⟩
          case measure => simp [intOf] <;> omega
        · have hvi : ¬ (128 : Int) ≤ (v : Int) := by omega
          by_cases hv0 : v = 0
          · have hv0i : ((v : Int) == 0) = true := by simp [hv0]
            by_cases ht0 : 0 < t
            · have ht0i : (0 : Int) < (t : Int) := by omega
              have HE := Lib.hid (HBAD.out hv0 ht0)
              have HV := Lib.hid hv0
              clear hv0
              go_wp2_with fail
              go_ret3
              exact ⟨by rw [HE.out]; rfl, rfl⟩
            · have ht0i : ¬ (0 : Int) < (t : Int) := by omega
              have HE := Lib.hid (HLAST.out hv (by omega))
              have HV := Lib.hid hv0
              clear hv0
              go_wp2_with fail
              go_ret3
              exact ⟨by rw [HE.out]; rfl, rfl⟩
          · have hv0i : ((v : Int) == 0) = false := beq_eq_false_iff_ne.2 (by omega)
            have HE := Lib.hid (HLAST.out hv (by omega))
            go_wp2_with fail
            go_ret3
            exact ⟨by rw [HE.out]; rfl, rfl⟩
      · have hlti : (l.length : Int) ≤ (t : Int) := by omega
        have HE := Lib.hid (show Vl.get l = (0, 0, 2) by rw [hgo.out]; exact Vl.go_end (by omega))
        clear hfx hgo
        generalize 128 ^ t = P at *
        go_wp2_with fail
        go_ret3
        exact ⟨by rw [HE.out]; rfl, rfl⟩
    · have h9i : ¬ (t : Int) < 9 := by omega
      have HE := Lib.hid (show Vl.get l = (0, 0, 6) by rw [hgo.out, show 9 - t = 0 by omega]; rfl)
      clear hgo
      generalize 128 ^ t = P at *
      go_wp2_with fail
      go_ret3
      exact ⟨by rw [HE.out]; rfl, rfl⟩
end Go.Proofs.YtaggkcgeddoogaaDoor

/- The walk over the reference's Put of a number. -/
namespace Go.Proofs.YtaggkcgeddoogaaDoor
open Go.RowKit

def GivesB (w : World) (l : List UInt8) (e : Ending) (w' : World) : Prop := ∃ v, e = .returned v ∧ Own w.heap.size w' v l ∧ Below w.heap.size w w'
theorem below_after {a b c : World} (h : Below a.heap.size a b) (k : Below b.heap.size b c) : Below a.heap.size a c := h.trans (k.mono h.size)

set_option maxRecDepth 100000 in
set_option maxHeartbeats 1000000 in
theorem rput_any : ∀ (f n : Nat) (w : World), f ≤ 20 → n < 128 ^ (f + 1) → n < 18446744073709551616 → Calls Tryd.prog 28 #[.int .u64 (n : Nat)] w (GivesB w (Vl.put f n))
  | f, n, w, hf, hn, h64 => by
    by_cases hs : n < 128
    · have hsi : (n : Int) < 128 := by omega
      have hp := Vl.put_small (f := f) hs
      have hx : (n : Int) = ((UInt8.ofNat n).toNat : Int) := by rw [UInt8.toNat_ofNat']; omega
      have HP := Lib.hid hp
      have ho : Own w.heap.size (w.alloc (.cells #[.int .u8 (n : Int)] 5)) (.slice (some ⟨w.heap.size, 0, none⟩) 1 1) [UInt8.ofNat n] := by
        have := Own.lit w [UInt8.ofNat n] (Nat.le_refl _) (by simp)
        rw [hx]; exact this
      clear hp hx
      go_enter Tryd.func28, Tryd.ntmps28
      go_wp2_with fail
      go_ret
      exact ⟨_, rfl, by rw [HP.out]; exact ho, (Below.refl _ _).alloc (Nat.le_refl _) _⟩
    · have hsi : ¬ (n : Int) < 128 := by omega
      match f with
      | 0 => exact absurd (by simpa using hn) hs
      | f + 1 =>
        have hn2 : n / 128 < 128 ^ (f + 1) := by
          rw [Nat.div_lt_iff_lt_mul (by omega)]; rw [Nat.pow_succ] at hn; exact hn
        have HP := Lib.hid (Vl.put_big (f := f) hs)
        have hx : (n : Int) % 128 + 128 = ((UInt8.ofNat (n % 128 + 128)).toNat : Int) := by rw [UInt8.toNat_ofNat']; omega
        have hq : (n : Int) / 128 = ((n / 128 : Nat) : Int) := by omega
        have ho : Own w.heap.size (w.alloc (.cells #[.int .u8 ((UInt8.ofNat (n % 128 + 128)).toNat : Int)] 5)) (.slice (some ⟨w.heap.size, 0, none⟩) 1 1) [UInt8.ofNat (n % 128 + 128)] := Own.lit w [UInt8.ofNat (n % 128 + 128)] (Nat.le_refl _) (by simp)
        have ih := rput_any f (n / 128) (w.alloc (.cells #[.int .u8 ((UInt8.ofNat (n % 128 + 128)).toNat : Int)] 5)) (by omega) hn2 (by omega)
        have hlen := (Vl.put_length f (n / 128)).2
        generalize Vl.put f (n / 128) = r at *
        have hxl : (UInt8.ofNat (n % 128 + 128)).toNat < 256 := (UInt8.ofNat (n % 128 + 128)).toNat_lt
        have HX : Hid (∀ u, Value.int .u8 ((UInt8.ofNat (n % 128 + 128)).toNat : Int) = u → B8 (UInt8.ofNat (n % 128 + 128)) = u) := fun u h => h
        generalize n / 128 = n2 at *
        generalize hX : UInt8.ofNat (n % 128 + 128) = X at *
        generalize hXn : X.toNat = xn at *
        have IH := Lib.hid ih
        have hb0 : Below w.heap.size w (w.alloc (.cells #[.int .u8 (xn : Int)] 5)) := (Below.refl _ _).alloc (Nat.le_refl _) _
        clear hX hXn ih HX
        go_enter Tryd.func28, Tryd.ntmps28
        go_wp2_with fail
        refine IH.out.mono ?_
        rintro e w1 ⟨v1, rfl, hO1, hb1⟩
        obtain ⟨A1, c1, rfl, hc1, hm1, hB1⟩ := hO1.read
        have ho1 := ho.below hb1
        have hb2 : Below w.heap.size w w1 := hb0.trans (hb1.mono hb0.size)
        have hfit : [X].length + r.length ≤ 140737488355328 := by simp; omega
        go_wp2_with (at_builtin; refine wpList_append_bytes rfl (.tmp 12) (.tmp 15) rfl w.heap.size _ _ [X] rfl ho1 A1 r c1 rfl hB1 hfit hb2.size ?_; intro v2 w4 ho4 hg4; have hb4 : Below w.heap.size w w4 := below_grown hb2 hg4 hb2.size (fun g' hg' => (ho1.from_base g' hg').1))
        go_ret
        exact ⟨_, rfl, by rw [HP.out]; exact ho4, hb4⟩
end Go.Proofs.YtaggkcgeddoogaaDoor
