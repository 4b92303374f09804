/- The reference's chunks: a part is tried. -/
import Derived.Test.YtklkboplkobhgaaGreatChqSymsG
import Derived.Test.YtklkboplkobhgaaGreatChkMem
import Derived.Test.YtklkboplkobhgaaGreatMlSym
import Derived.Test.YtklkboplkobhgaaGreatRcRefBytes
import Derived.Deep.RegionHeld3
namespace Go.Proofs.YtklkboplkobhgaaGreat
set_option maxRecDepth 100000
open Go.RowKit

/-- The reference's coder, by itself. -/
structure RCo (w : World) (C base N : Nat) (lc lp pb st : Int) (r : R4) (P : Nat → Nat) (Y : List Nat) : Prop where
  ex : ∃ (Pl : List Nat) (vR : Value) (gR gP capP : Nat), CodAt w C base lc lp pb st r Pl vR (.slice (some ⟨gP, 0, none⟩) N capP) ∧ vR.ownBlock = some gR ∧ Pl.length = N ∧ (∀ i, i < N → Pl[i]? = some (P i)) ∧ Y = [C, gR, gP]
  fair : ∀ i, 1 ≤ P i ∧ P i ≤ 2047
theorem RCo.below {w w' : World} {C base N : Nat} {lc lp pb st : Int} {r : R4} {P : Nat → Nat} {Y : List Nat} (h : RCo w C base N lc lp pb st r P Y) (hb : Below w.heap.size w w') : RCo w' C base N lc lp pb st r P Y := by
  obtain ⟨Pl, vR, gR, gP, capP, h1, h2⟩ := h.ex
  exact ⟨⟨Pl, vR, gR, gP, capP, h1.below hb, h2⟩, h.fair⟩
theorem RCo.lt {w : World} {C base N : Nat} {lc lp pb st : Int} {r : R4} {P : Nat → Nat} {Y : List Nat} (h : RCo w C base N lc lp pb st r P Y) : ∀ i ∈ Y, i < w.heap.size := by
  obtain ⟨Pl, vR, gR, gP, capP, h1, h2, h3, h4, rfl⟩ := h.ex
  intro i hi
  simp only [List.mem_cons, List.not_mem_nil, or_false] at hi
  rcases hi with rfl | rfl | rfl
  · exact (Array.getElem?_eq_some_iff.1 h1.box).1
  · exact (h1.reps.lt _ h2).2
  · exact (h1.ps.lt _ rfl).2
theorem RCo.re {w : World} {C base N h o cap : Nat} {lc lp pb st : Int} {r : R4} {P : Nat → Nat} {Y : List Nat} {s : Rc.St} (hC : RCo w C base N lc lp pb st r P Y) (hE : RefAt w h o cap s) : RE w C base h N lc lp pb st r (P, s) (Y ++ [h, o]) := by
  obtain ⟨Pl, vR, gR, gP, capP, h1, h2, h3, h4, rfl⟩ := hC.ex
  exact ⟨⟨Pl, vR, gR, gP, capP, o, cap, h1, h2, hE, h3, h4, rfl⟩, hC.fair⟩
theorem RE.co {w : World} {C base h N : Nat} {lc lp pb st : Int} {r : R4} {x : (Nat → Nat) × Rc.St} {Y : List Nat} (hM : RE w C base h N lc lp pb st r x Y) : ∃ Y0 o cap, RCo w C base N lc lp pb st r x.1 Y0 ∧ RefAt w h o cap x.2 ∧ Y = Y0 ++ [h, o] := by
  obtain ⟨Pl, vR, gR, gP, capP, o, cap, h1, h2, h3, h4, h5, rfl⟩ := hM.ex
  exact ⟨[C, gR, gP], o, cap, ⟨⟨Pl, vR, gR, gP, capP, h1, h2, h4, h5, rfl⟩, hM.fair⟩, h3, rfl⟩
/-- Between two symbols. -/
structure TrI (k : PkS) (C base h N : Nat) (Y0 : List Nat) (w8 wr : World) (st : Nat) (r : R4) (x : EncS) (n : Nat) : Prop where
  re : ∃ Y, RE wr C base h N (k.lc : Nat) (k.lp : Nat) (k.pb : Nat) (st : Nat) r x Y ∧ ∀ i ∈ Y, i ∈ Y0 ∨ w8.heap.size ≤ i
  only : Only Y0 w8 wr
  st : st < 12
  good : rGood r
  ok : (encIo 0).ok x.2 n
def RTriedDone (w : World) (k : PkS) (C base N : Nat) (Y : List Nat) (res : List UInt8 × (Nat × R4 × (Nat → Nat))) (e : Ending) (w' : World) : Prop :=
  ∃ v Y', e = .returned v ∧ Own w.heap.size w' v res.1 ∧ RCo w' C base N (k.lc : Nat) (k.lp : Nat) (k.pb : Nat) (res.2.1 : Nat) res.2.2.1 res.2.2.2 Y' ∧ res.2.1 < 12 ∧ rGood res.2.2.1 ∧ Only Y w w' ∧ (∀ i ∈ Y', i ∈ Y ∨ w.heap.size ≤ i) ∧ 5 ≤ res.1.length ∧ res.1.length + 100 ≤ 140737488355328
set_option maxRecDepth 100000 in
set_option maxHeartbeats 8000000 in
theorem rtried_any (k : PkS) (C base N : Nat) (st1 : Nat) (r1 : R4) (P1 : Nat → Nat) (Y : List Nat) (a b : Nat) (w : World) (hB : Bytes w k.A k.D) (hbY : ∀ q, k.A = some q → q.block ∉ Y ∧ q.block < w.heap.size) (hc : k.D.length ≤ k.cD) (hl : k.D.length ≤ 100000) (hd : 1 ≤ k.dict ∧ k.dict ≤ 67108864) (hn : k.nice ≤ 273) (hlc : k.lc ≤ 4) (hlp : k.lp ≤ 4) (hpb : k.pb ≤ 4)
    (hC : RCo w C base N (k.lc : Nat) (k.lp : Nat) (k.pb : Nat) (st1 : Nat) r1 P1 Y) (hst : st1 < 12) (hgd : rGood r1) (hN : N = 2180 + 768 * 2 ^ (k.lc + k.lp)) (hN2 : N ≤ 1000000) (hbase : base ≤ w.heap.size) (hab : a < b) (hbl : b ≤ k.D.length) :
    Calls Tryz.prog 17 #[.slice k.A k.D.length k.cD, .int .i64 (a : Nat), .int .i64 (b : Nat), OptV (k.lc : Nat) (k.lp : Nat) (k.pb : Nat) k.nice k.chunk k.block k.check k.chain k.dict, PF C] w (RTriedDone w k C base N Y (codeOf k a b (st1, r1, P1))) := by
  obtain ⟨W, hW⟩ : ∃ W, w.alloc (.cells #[.int .i64 (k.lc : Nat), .int .i64 (k.lp : Nat), .int .i64 (k.pb : Nat), .int .i64 k.nice, .int .i64 k.chunk, .int .i64 k.block, .int .i64 k.check, k.chain, .int .u32 (k.dict : Nat)] 26) = W := ⟨_, rfl⟩
  obtain ⟨hrow, hbW⟩ := optBox (vs := optRow (k.lc : Nat) (k.lp : Nat) (k.pb : Nat) k.nice k.chunk k.block k.check k.chain k.dict) hW
  have hCW := hC.below hbW
  obtain ⟨Pl, vR, gR, gP, capP, hC1, hgR, _⟩ := hC.ex
  have hC1W := hC1.below hbW
  have HCE : Hid (∀ w', Below W.heap.size W w' → w'.cell? ⟨w.heap.size, 8, none⟩ = some (.int .u32 (k.dict : Nat)) ∧ w'.cell? ⟨w.heap.size, 3, none⟩ = some (.int .i64 k.nice) ∧ w'.cell? ⟨C, 4, none⟩ = some vR) := Lib.hid (fun w' hb => by
    have hr := (hb.block _ (Array.getElem?_eq_some_iff.1 hrow).1).trans hrow
    exact ⟨by rw [cell_of_row w' _ _ _ _ _ hr]; rfl, by rw [cell_of_row w' _ _ _ _ _ hr]; rfl, (hC1W.below hb).cells.2.1⟩)
  have HSYM : Hid (∀ w', Below W.heap.size W w' → Calls Tryz.prog 30 #[.slice k.A k.D.length k.cD, .int .i64 (a : Nat), .int .i64 (b : Nat), .int .i64 (k.dict : Nat), .int .i64 k.nice, vR] w' (RSymsDone (symsOf k.D (k.dict : Nat) k.nice b (b - a) a r1).1 w')) := Lib.hid (fun w' hb => by
    have hb' := hbW.trans (hb.mono hbW.size)
    exact rsyms_any k.A k.D k.cD (k.dict : Nat) k.nice a b r1 vR base w' (hB.below hb') hc hl (Nat.le_of_lt hab) hbl (by omega) hn (hC1W.below hb).reps (Nat.le_trans hbase hb'.size))
  obtain ⟨LS, hLS⟩ : ∃ LS, partSyms k a b r1 = LS := ⟨_, rfl⟩
  rw [show (symsOf k.D (k.dict : Nat) k.nice b (b - a) a r1).1 = LS from hLS] at HSYM
  have HLS := Lib.hid hLS
  have HW := Lib.hid hW
  have HBW := Lib.hid hbW
  have HC := Lib.hid hCW
  have HYL := Lib.hid hC.lt
  have HBY := Lib.hid (And.intro hB (And.intro hbY (And.intro hc hl)))
  have HP := Lib.hid (And.intro hlc (And.intro hlp (And.intro hpb (And.intro hN (And.intro hN2 hbase)))))
  have HD := Lib.hid (And.intro hab (And.intro hbl (And.intro hd hn)))
  have HS := Lib.hid (And.intro hst hgd)
  have hdi : (k.dict : Int) ≤ 67108864 := by omega
  have hdcv : IntKind.i64.wrap ((k.dict : Nat) : Int) = ((k.dict : Nat) : Int) := IntWalk.i64_in _ (by omega)
  have hdl : (k.D.length : Int) ≤ 100000 := by omega
  clear hrow hW hbW hCW hC hC1 hC1W hgR hLS hB hbY hc hl hd hn hlc hlp hpb hst hgd hN hN2 hbase hab hbl
  go_enter Tryz.func17, Tryz.ntmps17
  go_upto_region 1 with fail
  rw [HW.out]
  have hdr : Below W.heap.size W W.drew := ⟨rfl, rfl, rfl, Nat.le_refl _, fun _ _ => rfl⟩
  refine wp_region_held_drew (S := fun w' => Below W.heap.size W w') (by kernel_rfl) hdr (fun hS => ?_)
  refine wpAnyH_take (i := 0) (oi := { dst := some 17, op := Op.move (Operand.tmp 0), type := 22, pos := "ref.go:22", after := #[], guard := none }) (v := ?vqa1) rfl (by kernel_rfl) (by kernel_rfl) (by kernel_rfl) (fun _ _ _ h => h) (Or.inl ⟨by rfl, ?yqa1⟩) hS ?_
  case yqa1 =>
    intro w hSw
    go_simp; all_goals (with_reducible rfl)
  simp only [Act.put, List.setIfInBounds_toArray, List.set_cons_zero, List.set_cons_succ]
  refine wpAnyH_take (i := 1) (oi := { dst := some 18, op := Op.move (Operand.tmp 1), type := 3, pos := "ref.go:22", after := #[], guard := none }) (v := ?vqa2) rfl (by kernel_rfl) (by kernel_rfl) (by kernel_rfl) (fun _ _ _ h => h) (Or.inl ⟨by rfl, ?yqa2⟩) hS ?_
  case yqa2 =>
    intro w hSw
    go_simp; all_goals (with_reducible rfl)
  simp only [Act.put, List.setIfInBounds_toArray, List.set_cons_zero, List.set_cons_succ]
  refine wpAnyH_take (i := 2) (oi := { dst := some 19, op := Op.move (Operand.tmp 2), type := 3, pos := "ref.go:22", after := #[], guard := none }) (v := ?vqa3) rfl (by kernel_rfl) (by kernel_rfl) (by kernel_rfl) (fun _ _ _ h => h) (Or.inl ⟨by rfl, ?yqa3⟩) hS ?_
  case yqa3 =>
    intro w hSw
    go_simp; all_goals (with_reducible rfl)
  simp only [Act.put, List.setIfInBounds_toArray, List.set_cons_zero, List.set_cons_succ]
  refine wpAnyH_take (i := 3) (oi := { dst := some 20, op := Op.fieldAddr 26 (Operand.tmp 8) 8, type := 0, pos := "ref.go:22", after := #[], guard := none }) (v := ?vqa4) rfl (by kernel_rfl) (by kernel_rfl) (by kernel_rfl) (fun _ _ _ h => h) (Or.inl ⟨by rfl, ?yqa4⟩) hS ?_
  case yqa4 =>
    intro w hSw
    go_simp; all_goals (with_reducible rfl)
  simp only [Act.put, List.setIfInBounds_toArray, List.set_cons_zero, List.set_cons_succ]
  refine wpAnyH_take (i := 4) (oi := { dst := some 21, op := Op.load 24 (Operand.tmp 20), type := 24, pos := "ref.go:22", after := #[{ on := 3, ground := Ground.data }], guard := none }) (v := ?vqa5) rfl (by kernel_rfl) (by kernel_rfl) (by kernel_rfl) (fun _ _ _ h => h) (Or.inl ⟨by rfl, ?yqa5⟩) hS ?_
  case yqa5 =>
    intro w hSw
    obtain ⟨k8, k3, k4⟩ := HCE.out w hSw
    go_simp; all_goals (with_reducible rfl)
  simp only [Act.put, List.setIfInBounds_toArray, List.set_cons_zero, List.set_cons_succ]
  refine wpAnyH_take (i := 5) (oi := { dst := some 22, op := Op.convert 24 3 (Operand.tmp 21), type := 3, pos := "ref.go:22", after := #[{ on := 4, ground := Ground.data }], guard := none }) (v := ?vqa6) rfl (by kernel_rfl) (by kernel_rfl) (by kernel_rfl) (fun _ _ _ h => h) (Or.inl ⟨by rfl, ?yqa6⟩) hS ?_
  case yqa6 =>
    intro w hSw
    go_simp; all_goals (with_reducible rfl)
  simp only [Act.put, List.setIfInBounds_toArray, List.set_cons_zero, List.set_cons_succ]
  refine wpAnyH_take (i := 6) (oi := { dst := some 23, op := Op.fieldAddr 26 (Operand.tmp 8) 3, type := 0, pos := "ref.go:22", after := #[], guard := none }) (v := ?vqa7) rfl (by kernel_rfl) (by kernel_rfl) (by kernel_rfl) (fun _ _ _ h => h) (Or.inl ⟨by rfl, ?yqa7⟩) hS ?_
  case yqa7 =>
    intro w hSw
    go_simp; all_goals (with_reducible rfl)
  simp only [Act.put, List.setIfInBounds_toArray, List.set_cons_zero, List.set_cons_succ]
  refine wpAnyH_take (i := 7) (oi := { dst := some 24, op := Op.load 3 (Operand.tmp 23), type := 3, pos := "ref.go:22", after := #[{ on := 6, ground := Ground.data }], guard := none }) (v := ?vqa8) rfl (by kernel_rfl) (by kernel_rfl) (by kernel_rfl) (fun _ _ _ h => h) (Or.inl ⟨by rfl, ?yqa8⟩) hS ?_
  case yqa8 =>
    intro w hSw
    obtain ⟨k8, k3, k4⟩ := HCE.out w hSw
    go_simp; all_goals (with_reducible rfl)
  simp only [Act.put, List.setIfInBounds_toArray, List.set_cons_zero, List.set_cons_succ]
  refine wpAnyH_take (i := 8) (oi := { dst := some 25, op := Op.move (Operand.tmp 4), type := 49, pos := "ref.go:22", after := #[], guard := none }) (v := ?vqa9) rfl (by kernel_rfl) (by kernel_rfl) (by kernel_rfl) (fun _ _ _ h => h) (Or.inl ⟨by rfl, ?yqa9⟩) hS ?_
  case yqa9 =>
    intro w hSw
    go_simp; all_goals (with_reducible rfl)
  simp only [Act.put, List.setIfInBounds_toArray, List.set_cons_zero, List.set_cons_succ]
  refine wpAnyH_take (i := 9) (oi := { dst := some 26, op := Op.nilCheck (Operand.tmp 25), type := 0, pos := "ref.go:22", after := #[{ on := 8, ground := Ground.data }], guard := none }) (v := ?vqa10) rfl (by kernel_rfl) (by kernel_rfl) (by kernel_rfl) (fun _ _ _ h => h) (Or.inl ⟨by rfl, ?yqa10⟩) hS ?_
  case yqa10 =>
    intro w hSw
    go_simp; all_goals (with_reducible rfl)
  simp only [Act.put, List.setIfInBounds_toArray, List.set_cons_zero, List.set_cons_succ]
  refine wpAnyH_take (i := 10) (oi := { dst := some 27, op := Op.fieldAddr 87 (Operand.tmp 26) 4, type := 0, pos := "ref.go:22", after := #[{ on := 9, ground := Ground.data }], guard := none }) (v := ?vqa11) rfl (by kernel_rfl) (by kernel_rfl) (by kernel_rfl) (fun _ _ _ h => h) (Or.inl ⟨by rfl, ?yqa11⟩) hS ?_
  case yqa11 =>
    intro w hSw
    go_simp; all_goals (with_reducible rfl)
  simp only [Act.put, List.setIfInBounds_toArray, List.set_cons_zero, List.set_cons_succ]
  refine wpAnyH_take (i := 11) (oi := { dst := some 28, op := Op.load 84 (Operand.tmp 27), type := 84, pos := "ref.go:22", after := #[{ on := 10, ground := Ground.data }], guard := none }) (v := ?vqa12) rfl (by kernel_rfl) (by kernel_rfl) (by kernel_rfl) (fun _ _ _ h => h) (Or.inl ⟨by rfl, ?yqa12⟩) hS ?_
  case yqa12 =>
    intro w hSw
    obtain ⟨k8, k3, k4⟩ := HCE.out w hSw
    go_simp; all_goals (with_reducible rfl)
  simp only [Act.put, List.setIfInBounds_toArray, List.set_cons_zero, List.set_cons_succ]
  refine wpAnyH_ready (rs := [12]) (by kernel_rfl) (by simp) ?_
  refine (AllReadyH.cons (o := { dst := some 29, op := Op.call { callee := Callee.value (Operand.func 30), args := #[Operand.tmp 17, Operand.tmp 18, Operand.tmp 19, Operand.tmp 22, Operand.tmp 24, Operand.tmp 28], argTypes := #[22, 3, 3, 3, 3, 84] }, type := 90, pos := "ref.go:22", after := #[{ on := 0, ground := Ground.data }, { on := 1, ground := Ground.data }, { on := 2, ground := Ground.data }, { on := 5, ground := Ground.data }, { on := 7, ground := Ground.data }, { on := 11, ground := Ground.data }], guard := none }) rfl (fun K hK => ?_) AllReadyH.nil)
  go_simp
  refine (HSYM.out _ hdr).mono ?_
  rintro e x12 ⟨v12, C12, rfl, hos, hb12⟩
  have g12 := hdr.trans (hb12.mono hdr.size)
  have HG12 := Lib.hid g12
  have HOS := Lib.hid (hos.weaken hdr.size)
  clear hb12 hos
  go_wp2_with fail
  refine hK.out _ _ g12 (fun _ => ?_)
  clear hK K
  refine wpAnyH_take (i := 13) (oi := { dst := some 16, op := Op.move (Operand.tmp 29), type := 90, pos := "ref.go:22", after := #[{ on := 12, ground := Ground.data }], guard := none }) (v := ?vqa13) rfl (by kernel_rfl) (by kernel_rfl) (by kernel_rfl) (fun _ _ _ h => h) (Or.inl ⟨by rfl, ?yqa13⟩) g12 ?_
  case yqa13 =>
    intro w hSw
    go_simp; all_goals (with_reducible rfl)
  simp only [Act.put, List.setIfInBounds_toArray, List.set_cons_zero, List.set_cons_succ]
  refine wpAnyH_take (i := 14) (oi := { dst := some 30, op := Op.extract (Operand.tmp 16) 0, type := 89, pos := "ref.go:22", after := #[{ on := 13, ground := Ground.data }], guard := none }) (v := ?vqa14) rfl (by kernel_rfl) (by kernel_rfl) (by kernel_rfl) (fun _ _ _ h => h) (Or.inl ⟨by rfl, ?yqa14⟩) g12 ?_
  case yqa14 =>
    intro w hSw
    go_simp; all_goals (with_reducible rfl)
  simp only [Act.put, List.setIfInBounds_toArray, List.set_cons_zero, List.set_cons_succ]
  refine wpAnyH_take (i := 15) (oi := { dst := some 31, op := Op.extract (Operand.tmp 16) 1, type := 49, pos := "ref.go:22", after := #[{ on := 13, ground := Ground.data }, { on := 16, ground := Ground.gcOnly Departure.lateStores }], guard := none }) (v := ?vqa15) rfl (by kernel_rfl) (by kernel_rfl) (by kernel_rfl) (fun _ _ _ h => h) (Or.inl ⟨by rfl, ?yqa15⟩) g12 ?_
  case yqa15 =>
    intro w hSw
    go_simp; all_goals (with_reducible rfl)
  simp only [Act.put, List.setIfInBounds_toArray, List.set_cons_zero, List.set_cons_succ]
  refine wpAnyH_take (i := 16) (oi := { dst := some 11, op := Op.assign (Operand.tmp 30), type := 89, pos := "ref.go:22", after := #[{ on := 14, ground := Ground.data }, { on := 12, ground := Ground.chain }, { on := 0, ground := Ground.phase }, { on := 1, ground := Ground.phase }, { on := 2, ground := Ground.phase }, { on := 3, ground := Ground.phase }, { on := 4, ground := Ground.phase }, { on := 5, ground := Ground.phase }, { on := 6, ground := Ground.phase }, { on := 7, ground := Ground.phase }, { on := 8, ground := Ground.phase }, { on := 9, ground := Ground.phase }, { on := 10, ground := Ground.phase }, { on := 11, ground := Ground.phase }, { on := 12, ground := Ground.phase }, { on := 13, ground := Ground.phase }, { on := 14, ground := Ground.phase }, { on := 15, ground := Ground.textOnly Departure.lateStores }], guard := none }) (v := ?vqa16) rfl (by kernel_rfl) (by kernel_rfl) (by kernel_rfl) (fun _ _ _ h => h) (Or.inl ⟨by rfl, ?yqa16⟩) g12 ?_
  case yqa16 =>
    intro w hSw
    go_simp; all_goals (with_reducible rfl)
  simp only [Act.put, List.setIfInBounds_toArray, List.set_cons_zero, List.set_cons_succ]
  refine wpAnyH_take (i := 17) (oi := { dst := some 12, op := Op.assign (Operand.tmp 31), type := 49, pos := "ref.go:22", after := #[{ on := 15, ground := Ground.data }, { on := 16, ground := Ground.chain }, { on := 0, ground := Ground.phase }, { on := 1, ground := Ground.phase }, { on := 2, ground := Ground.phase }, { on := 3, ground := Ground.phase }, { on := 4, ground := Ground.phase }, { on := 5, ground := Ground.phase }, { on := 6, ground := Ground.phase }, { on := 7, ground := Ground.phase }, { on := 8, ground := Ground.phase }, { on := 9, ground := Ground.phase }, { on := 10, ground := Ground.phase }, { on := 11, ground := Ground.phase }, { on := 12, ground := Ground.phase }, { on := 13, ground := Ground.phase }, { on := 14, ground := Ground.phase }, { on := 15, ground := Ground.phase }, { on := 16, ground := Ground.phase }], guard := none }) (v := ?vqa17) rfl (by kernel_rfl) (by kernel_rfl) (by kernel_rfl) (fun _ _ _ h => h) (Or.inl ⟨by rfl, ?yqa17⟩) g12 ?_
  case yqa17 =>
    intro w hSw
    go_simp; all_goals (with_reducible rfl)
  simp only [Act.put, List.setIfInBounds_toArray, List.set_cons_zero, List.set_cons_succ]
  refine wpAnyH_done (by kernel_rfl) ?_ _
  obtain ⟨AL, cL, e10, hcL, hmL, hat⟩ := HOS.out.form
  subst e10
  have hLne : 0 < LS.length := by
    rw [← HLS.out]; unfold partSyms
    rw [symsOf_step HD.out.1]
    simp
  obtain ⟨gS, hAL, hgS, _, _, _, _, _⟩ := hat 0 hLne
  subst hAL
  have hgS0 : W.heap.size ≤ gS := (HOS.out.lt gS rfl).1
  have HSC : Hid (∀ n (hn : n < LS.length) (w' : World), w'.heap[gS]? = x12.heap[gS]? → w'.cell? ⟨gS, 5 * n, none⟩ = some (.int .i64 (LS[n].k : Nat)) ∧ w'.cell? ⟨gS, 5 * n + 1, none⟩ = some (.int .u8 (LS[n].b.toNat : Nat)) ∧ w'.cell? ⟨gS, 5 * n + 2, none⟩ = some (.int .i64 (LS[n].l : Nat)) ∧ w'.cell? ⟨gS, 5 * n + 3, none⟩ = some (.int .i64 (LS[n].d : Nat)) ∧ w'.cell? ⟨gS, 5 * n + 4, none⟩ = some (.int .i64 (LS[n].r : Nat))) := Lib.hid (fun n hn w' hW => by
    obtain ⟨g', e', _, c0, c1, c2, c3, c4⟩ := hat n hn
    injection e' with e'; injection e' with e' _ _
    subst e'
    exact ⟨(World.cell?_of_block (a := ⟨gS, _, none⟩) hW).trans c0, (World.cell?_of_block (a := ⟨gS, _, none⟩) hW).trans c1, (World.cell?_of_block (a := ⟨gS, _, none⟩) hW).trans c2, (World.cell?_of_block (a := ⟨gS, _, none⟩) hW).trans c3, (World.cell?_of_block (a := ⟨gS, _, none⟩) hW).trans c4⟩)
  have HGS : Hid (W.heap.size ≤ gS ∧ gS < x12.heap.size) := Lib.hid ⟨hgS0, hgS⟩
  have hcLi : (LS.length : Int) ≤ (cL : Int) := by omega
  have hmLi : (LS.length : Int) ≤ 9223372036854775807 := by omega
  clear hS g12 hdr hcL hmL hat hgS hgS0
  go_upto_region 4 with (refine (rnew_any _).mono ?_; rintro e w8 ⟨h, oE, capE, rfl, hE8, hb8, hh8, ho8⟩; have HE8 := Lib.hid hE8; have HB8 := Lib.hid hb8; have HG8 := Lib.hid (And.intro hh8 ho8); clear hE8 hb8 hh8 ho8)
  have HI8 : Hid (TrI k C base h N (Y ++ [h, oE]) w8 w8 st1 r1 (P1, st0) (82 * (b - a) + 100)) := Lib.hid ⟨⟨_, (HC.out.below (HG12.out.trans (HB8.out.mono HG12.out.size))).re HE8.out, fun i hi => .inl hi⟩, Only.refl _ _, HS.out.1, HS.out.2, ⟨st0_ok, by have := HD.out; have := HBY.out.2.2.2; show 1 + 0 + 2 * _ ≤ _; omega⟩⟩
  go_wp2_with fail
  go_loopw [14, 15] (fun pv iv wr => ∃ (i pl st : Nat) (r : R4) (x : EncS), pv = .int .i64 (pl : Nat) ∧ iv = .int .i64 (i : Nat) ∧ Hid (TrI k C base h N (Y ++ [h, oE]) w8 wr st r x (82 * (b - pl) + 100)) ∧ Hid (LS.drop i = (symsOf k.D (k.dict : Nat) k.nice b (b - pl) pl r).1 ∧ putAll k.lc k.lp k.pb k.D LS a (st1, r1, (P1, st0)) = putAll k.lc k.lp k.pb k.D (LS.drop i) pl (st, r, x)) ∧ i ≤ LS.length ∧ pl ≤ b) (fun _ iv _ => LS.length - (intOf iv).toNat)
  case atStart => exact ⟨0, a, st1, r1, (P1, st0), rfl, rfl, HI8, Lib.hid ⟨by rw [← HLS.out]; rfl, rfl⟩, Nat.zero_le _, Nat.le_of_lt HD.out.1⟩
  case round =>
    obtain ⟨i, pl, st, r, x, rfl, rfl, HI, HL, hi, hplb⟩ := hrel
    by_cases hlt : i < LS.length
    case neg =>
      have hlti : ¬ (i : Int) < (LS.length : Int) := by omega
      have hdr0 : LS.drop i = [] := List.drop_eq_nil_of_le (by omega)
      have HPA : Hid (putAll k.lc k.lp k.pb k.D LS a (st1, r1, (P1, st0)) = (st, r, x)) := Lib.hid (by rw [HL.out.2, hdr0]; rfl)
      obtain ⟨Y1, hRE, hY1⟩ := HI.out.re
      obtain ⟨Y2, oF, capF, hco, hRA, rfl⟩ := hRE.co
      have HKE : Hid (x.2.v < 256 ^ (4 + x.2.k) ∧ 4 + x.2.k + 1 ≤ 140737488355328 ∧ 105 + x.2.k ≤ 140737488355328) := Lib.hid (by
        obtain ⟨⟨⟨h1, h2⟩, h3⟩, h4⟩ := HI.out.ok
        refine ⟨?_, by omega, by omega⟩
        have : x.2.v + x.2.r ≤ 256 ^ (4 + x.2.k) := h1
        omega)
      have HBYT := Lib.hid (rbytes_any h oF capF x.2 wr hRA HKE.out.1 HKE.out.2.1)
      have HCO := Lib.hid hco
      have HY1 := Lib.hid hY1
      clear hlt hdr0 hRE hY1 hco hRA hi
      go_wp2_with fail
      refine HBYT.out.mono ?_
      rintro e w9 ⟨v9, rfl, ho9, hb9⟩
      go_wp2_with fail
      go_ret
      have hcode : codeOf k a b (st1, r1, P1) = (Rc.be (5 + x.2.k) x.2.v, (st, r, x.1)) := by
        unfold codeOf
        rw [HLS.out]
        show (Rc.be (5 + (putAll k.lc k.lp k.pb k.D LS a (st1, r1, (P1, st0))).2.2.2.k) _, _) = _
        rw [HPA.out]
      rw [hcode]
      have hbw8 : Below w.heap.size w w8 := HBW.out.trans ((HG12.out.trans (HB8.out.mono HG12.out.size)).mono HBW.out.size)
      have hon : Only Y w wr := by
        refine (Only.of_below hbw8).trans HI.out.only (fun j hj => ?_)
        rcases List.mem_append.1 hj with hj | hj
        · exact .inl hj
        · right
          have h1 := HG8.out; have h2 := HG12.out.size; have h3 := HBW.out.size
          simp only [List.mem_cons, List.not_mem_nil, or_false] at hj
          rcases hj with rfl | rfl <;> omega
      refine ⟨v9, Y2, rfl, ho9.weaken hon.size, HCO.out.below hb9, HI.out.st, HI.out.good, hon.trans (Only.of_below hb9) (fun j hj => .inl hj), fun j hj => ?_, by rw [Rc.be_length]; omega, by rw [Rc.be_length]; have := HKE.out.2.2; omega⟩
      rcases HY1.out j (by simp [hj]) with h1 | h1
      · rcases List.mem_append.1 h1 with h1 | h1
        · exact .inl h1
        · right
          have h3 := HG8.out; have h2 := HG12.out.size; have h4 := HBW.out.size
          simp only [List.mem_cons, List.not_mem_nil, or_false] at h1
          rcases h1 with rfl | rfl <;> omega
      · exact .inr (Nat.le_trans hbw8.size h1)
    case pos =>
      have hlti : (i : Int) < (LS.length : Int) := by omega
      have hplt : pl < b := by
        by_cases h : pl < b
        · exact h
        · have h1 := HL.out.1
          rw [symsOf_end h] at h1
          have h2 : (LS.drop i).length = 0 := by rw [h1]; rfl
          rw [List.length_drop] at h2; omega
      obtain ⟨S, hS⟩ : ∃ S, nextS k.D (k.dict : Nat) k.nice b pl r = S := ⟨_, rfl⟩
      have hst := (next_stands_to (D := k.D) (dict := (k.dict : Nat)) (nice := k.nice) (r := r) hplt HD.out.2.1 HBY.out.2.2.2 (by have := HD.out; omega) HD.out.2.2.2)
      have hto := next_to (D := k.D) (dict := (k.dict : Nat)) (nice := k.nice) (r := r) hplt
      have hstep := symsOf_step (D := k.D) (dict := (k.dict : Nat)) (nice := k.nice) (r := r) hplt
      rw [hS] at hst hto hstep
      have hdrop : LS.drop i = S :: (symsOf k.D (k.dict : Nat) k.nice b (b - (pl + max S.l 1)) (pl + max S.l 1) (afterS S r)).1 := by
        rw [HL.out.1, hstep]
      have hcons := List.drop_eq_getElem_cons hlt
      have hSi : LS[i] = S := by rw [hcons] at hdrop; injection hdrop
      have hrest : LS.drop (i + 1) = (symsOf k.D (k.dict : Nat) k.nice b (b - (pl + max S.l 1)) (pl + max S.l 1) (afterS S r)).1 := by rw [hcons] at hdrop; injection hdrop
      have hTl : (k.D.take pl).length = pl := by rw [List.length_take]; have := HD.out; omega
      have hfit := hst.fits
      obtain ⟨sl1, sl2⟩ := stands_len hst
      obtain ⟨s', st', r', Z, hsym, hr', hst', _, hput⟩ := fits_sym (g := 0) (lc := k.lc) (lp := k.lp) (pb := k.pb) (st := st) (r := r) (x := x) (H := k.D.take pl) (k := (S.k : Nat)) (b := S.b) (l := (S.l : Nat)) (d := (S.d : Nat)) (q := (S.r : Nat)) HP.out.1 HP.out.2.1 HP.out.2.2.1 HI.out.st HI.out.good (by rw [hTl]; have := HBY.out.2.2.2; have := HD.out; omega) (by rw [hTl]; exact hfit)
      have hr2 : r' = afterS S r := hr'.trans (repsAfter_after S hst.k r)
      have hstl : st' < 12 := by
        have h := stateAfter_ok (st := (st : Nat)) (k := (S.k : Nat)) (l := (S.l : Nat)) (by omega) (by have := HI.out.st; omega)
        rw [← hst'] at h; omega
      have hgd' : rGood r' := by
        rw [hr']
        have hf := fitsZ_cases hfit
        by_cases hk1 : S.k = 1
        · exact rGood_after HI.out.good (by omega) (fun _ => by omega)
        · rw [show repsAfter r (S.k : Nat) (S.d : Nat) (S.r : Nat) = repsAfter r (S.k : Nat) (0 : Nat) (S.r : Nat) from by unfold repsAfter; simp only [show ¬ (((S.k : Nat) : Int) = 1) by omega, if_false]]
          exact rGood_after HI.out.good (by decide) (fun h => absurd h hk1)
      obtain ⟨M, hM⟩ : ∃ M, max S.l 1 = M := ⟨_, rfl⟩
      rw [hM] at hto hrest
      have HPA : Hid (putAll k.lc k.lp k.pb k.D LS a (st1, r1, (P1, st0)) = putAll k.lc k.lp k.pb k.D (LS.drop (i + 1)) (pl + M) (st', r', Z)) := Lib.hid (by
        rw [HL.out.2, hcons, hSi, ← hM]
        show putAll k.lc k.lp k.pb k.D (LS.drop (i + 1)) (pl + max S.l 1) ((Md.sym (encIo 0) k.lc k.lp k.pb st r (k.D.take pl) (S.k : Nat) S.b (S.l : Nat) (S.d : Nat) (S.r : Nat) x).2) = _
        rw [hsym]
        rfl)
      have HRS : Hid (LS.drop (i + 1) = (symsOf k.D (k.dict : Nat) k.nice b (b - (pl + M)) (pl + M) r').1) := Lib.hid (by rw [hrest, hr2])
      have hplb2 : (pl : Int) ≤ 100000 := by have := HBY.out.2.2.2; have := HD.out; omega
      have hli : (S.l : Int) ≤ 273 := by have := hst.short; omega
      obtain ⟨Y1, hRE, hY1⟩ := HI.out.re
      have hw18 : x12.heap.size ≤ w8.heap.size := HB8.out.size
      have hbw8 : Below w.heap.size w w8 := HBW.out.trans ((HG12.out.trans (HB8.out.mono HG12.out.size)).mono HBW.out.size)
      have hgY : ∀ j ∈ Y ++ [h, oE], j ≠ gS ∧ (j ∈ Y ∨ x12.heap.size ≤ j) := fun j hj => by
        rcases List.mem_append.1 hj with hj | hj
        · have h1 := HYL.out j hj; have h2 := HGS.out; have h3 := HBW.out.size
          exact ⟨by omega, .inl hj⟩
        · have h1 := HG8.out; have h2 := HGS.out
          simp only [List.mem_cons, List.not_mem_nil, or_false] at hj
          rcases hj with rfl | rfl
          · exact ⟨by omega, .inr h1.1⟩
          · exact ⟨by omega, .inr h1.2⟩
      have hgY1 : ∀ j ∈ Y1, j ≠ gS := fun j hj => by
        rcases hY1 j hj with h1 | h1
        · exact (hgY j h1).1
        · have h2 := HGS.out; omega
      have hgr : wr.heap[gS]? = x12.heap[gS]? := by
        refine (HI.out.only.block gS (Nat.lt_of_lt_of_le HGS.out.2 hw18) (fun hj => (hgY gS hj).1 rfl)).trans (HB8.out.block gS HGS.out.2)
      have hqs := HSC.out i hlt wr hgr
      rw [hSi, Nat.mul_comm 5 i] at hqs
      have hDr : Bytes wr k.A k.D := by
        refine (HBY.out.1.below hbw8).only HI.out.only (fun q hq hj => ?_)
        have h1 := HBY.out.2.1 q hq
        rcases List.mem_append.1 hj with hj | hj
        · exact h1.1 hj
        · have h2 := HG8.out; have h3 := HG12.out.size; have h4 := HBW.out.size
          simp only [List.mem_cons, List.not_mem_nil, or_false] at hj
          rcases hj with hj | hj <;> omega
      have HPUT : Hid (∀ w', Below wr.heap.size wr w' → Calls Tryz.prog 32 #[PF C, PF h, .slice k.A pl k.cD, SyV (S.k : Nat) S.b (S.l : Nat) (S.d : Nat) (S.r : Nat)] w' (MAnd ((encIo 0).ok Z.2 (82 * (b - (pl + M)) + 100)) (RDone (.tuple #[]) C base h N (k.lc : Nat) (k.lp : Nat) (k.pb : Nat) (st' : Nat) r' Z Y1 w'))) := Lib.hid (fun w' hW => by
        have hp := hput C base h N Y1 w' (82 * (b - (pl + M)) + 100) k.A k.cD (hRE.below hW) (Nat.le_trans HP.out.2.2.2.2.2 (Nat.le_trans hbw8.size (Nat.le_trans HI.out.only.size hW.size))) HP.out.2.2.2.1 HP.out.2.2.2.2.1 ((encIo 0).le HI.out.ok (by omega)) ((hDr.below hW).take pl) (fun q hq hj => by
          have h1 := HBY.out.2.1 q hq
          rcases hY1 _ hj with h2 | h2
          · rcases (hgY _ h2).2 with h3 | h3
            · exact h1.1 h3
            · have := HG12.out.size; have := HBW.out.size; omega
          · have := hbw8.size; omega) (by rw [hTl]; have := HBY.out.2.2.1; have := HD.out; omega)
        rw [hTl] at hp
        exact hp)
      have HAFT : Hid (∀ w' : World, WentR C base h N (k.lc : Nat) (k.lp : Nat) (k.pb : Nat) (st' : Nat) r' Z Y1 wr.drew w' → w'.cell? ⟨gS, i * 5, none⟩ = some (.int .i64 (S.k : Nat)) ∧ w'.cell? ⟨gS, i * 5 + 1, none⟩ = some (.int .u8 (S.b.toNat : Nat)) ∧ w'.cell? ⟨gS, i * 5 + 2, none⟩ = some (.int .i64 (S.l : Nat)) ∧ w'.cell? ⟨gS, i * 5 + 3, none⟩ = some (.int .i64 (S.d : Nat)) ∧ w'.cell? ⟨gS, i * 5 + 4, none⟩ = some (.int .i64 (S.r : Nat))) := Lib.hid (fun w' hw => by
        obtain ⟨_, _, hon, _⟩ := hw
        have hg2 : w'.heap[gS]? = x12.heap[gS]? := (hon.block gS (Nat.lt_of_lt_of_le HGS.out.2 (Nat.le_trans hw18 HI.out.only.size)) (fun hj => hgY1 gS hj rfl)).trans hgr
        have hq2 := HSC.out i hlt w' hg2
        rw [hSi, Nat.mul_comm 5 i] at hq2
        exact hq2)
      have HT := Lib.hid (And.intro hlt (And.intro hto (And.intro sl1 sl2)))
      have HSS := Lib.hid (And.intro hstl (And.intro hgd' hM))
      have HYY := Lib.hid hY1
      have hpd : (pl : Int) ≤ (k.D.length : Int) := by have := HD.out; omega
      have hpc : (pl : Int) ≤ (k.cD : Int) := by have := HD.out; have := HBY.out.2.2.1; omega
      have hdc : (k.D.length : Int) ≤ (k.cD : Int) := by have := HBY.out.2.2.1; omega
      clear hS hst hto hstep hdrop hcons hSi hrest hTl hfit hsym hr' hst' hput hr2 hstl hgd' hM hRE hY1 hw18 hbw8 hgY hgY1 hgr hDr hlt hplb hi hplt sl1 sl2
      go_upto_region 7 with fail
      have hdr : Below wr.heap.size wr wr.drew := ⟨rfl, rfl, rfl, Nat.le_refl _, fun _ _ => rfl⟩
      refine wp_region_held_drew (S := fun w2 => w2.cell? ⟨gS, i * 5, none⟩ = some (.int .i64 (S.k : Nat)) ∧ w2.cell? ⟨gS, i * 5 + 1, none⟩ = some (.int .u8 (S.b.toNat : Nat)) ∧ w2.cell? ⟨gS, i * 5 + 2, none⟩ = some (.int .i64 (S.l : Nat)) ∧ w2.cell? ⟨gS, i * 5 + 3, none⟩ = some (.int .i64 (S.d : Nat)) ∧ w2.cell? ⟨gS, i * 5 + 4, none⟩ = some (.int .i64 (S.r : Nat))) (by kernel_rfl) hqs (fun hS => ?_)
      refine wpAnyH_take (i := 0) (oi := { dst := some 40, op := Op.move (Operand.tmp 4), type := 49, pos := "ref.go:26", after := #[], guard := none }) (v := ?vqb18) rfl (by kernel_rfl) (by kernel_rfl) (by kernel_rfl) (fun _ _ _ h => h) (Or.inl ⟨by rfl, ?yqb18⟩) hS ?_
      case yqb18 =>
        intro w hSw
        go_simp; all_goals (with_reducible rfl)
      simp only [Act.put, List.setIfInBounds_toArray, List.set_cons_zero, List.set_cons_succ]
      refine wpAnyH_take (i := 1) (oi := { dst := some 41, op := Op.move (Operand.tmp 13), type := 92, pos := "ref.go:26", after := #[], guard := none }) (v := ?vqb19) rfl (by kernel_rfl) (by kernel_rfl) (by kernel_rfl) (fun _ _ _ h => h) (Or.inl ⟨by rfl, ?yqb19⟩) hS ?_
      case yqb19 =>
        intro w hSw
        go_simp; all_goals (with_reducible rfl)
      simp only [Act.put, List.setIfInBounds_toArray, List.set_cons_zero, List.set_cons_succ]
      refine wpAnyH_take (i := 2) (oi := { dst := some 42, op := Op.move (Operand.tmp 0), type := 22, pos := "ref.go:26", after := #[], guard := none }) (v := ?vqb20) rfl (by kernel_rfl) (by kernel_rfl) (by kernel_rfl) (fun _ _ _ h => h) (Or.inl ⟨by rfl, ?yqb20⟩) hS ?_
      case yqb20 =>
        intro w hSw
        go_simp; all_goals (with_reducible rfl)
      simp only [Act.put, List.setIfInBounds_toArray, List.set_cons_zero, List.set_cons_succ]
      refine wpAnyH_take (i := 3) (oi := { dst := some 43, op := Op.move (Operand.tmp 14), type := 3, pos := "ref.go:26", after := #[], guard := none }) (v := ?vqb21) rfl (by kernel_rfl) (by kernel_rfl) (by kernel_rfl) (fun _ _ _ h => h) (Or.inl ⟨by rfl, ?yqb21⟩) hS ?_
      case yqb21 =>
        intro w hSw
        go_simp; all_goals (with_reducible rfl)
      simp only [Act.put, List.setIfInBounds_toArray, List.set_cons_zero, List.set_cons_succ]
      refine wpAnyH_take (i := 4) (oi := { dst := some 44, op := Op.slice 22 (Operand.tmp 42) none (some (Operand.tmp 43)) none, type := 22, pos := "ref.go:26", after := #[{ on := 2, ground := Ground.data }, { on := 3, ground := Ground.data }], guard := none }) (v := ?vqb22) rfl (by kernel_rfl) (by kernel_rfl) (by kernel_rfl) (fun _ _ _ h => h) (Or.inl ⟨by rfl, ?yqb22⟩) hS ?_
      case yqb22 =>
        intro w hSw
        go_simp; all_goals (with_reducible rfl)
      simp only [Act.put, List.setIfInBounds_toArray, List.set_cons_zero, List.set_cons_succ]
      refine wpAnyH_take (i := 5) (oi := { dst := some 45, op := Op.move (Operand.tmp 11), type := 89, pos := "ref.go:26", after := #[], guard := none }) (v := ?vqb23) rfl (by kernel_rfl) (by kernel_rfl) (by kernel_rfl) (fun _ _ _ h => h) (Or.inl ⟨by rfl, ?yqb23⟩) hS ?_
      case yqb23 =>
        intro w hSw
        go_simp; all_goals (with_reducible rfl)
      simp only [Act.put, List.setIfInBounds_toArray, List.set_cons_zero, List.set_cons_succ]
      refine wpAnyH_take (i := 6) (oi := { dst := some 46, op := Op.move (Operand.tmp 15), type := 3, pos := "ref.go:26", after := #[], guard := none }) (v := ?vqb24) rfl (by kernel_rfl) (by kernel_rfl) (by kernel_rfl) (fun _ _ _ h => h) (Or.inl ⟨by rfl, ?yqb24⟩) hS ?_
      case yqb24 =>
        intro w hSw
        go_simp; all_goals (with_reducible rfl)
      simp only [Act.put, List.setIfInBounds_toArray, List.set_cons_zero, List.set_cons_succ]
      refine wpAnyH_take (i := 7) (oi := { dst := some 47, op := Op.indexAddr 89 (Operand.tmp 45) (Operand.tmp 46), type := 0, pos := "ref.go:26", after := #[{ on := 5, ground := Ground.data }, { on := 6, ground := Ground.data }], guard := none }) (v := ?vqb25) rfl (by kernel_rfl) (by kernel_rfl) (by kernel_rfl) (fun _ _ _ h => h) (Or.inl ⟨by rfl, ?yqb25⟩) hS ?_
      case yqb25 =>
        intro w hSw
        go_simp; all_goals (with_reducible rfl)
      simp only [Act.put, List.setIfInBounds_toArray, List.set_cons_zero, List.set_cons_succ]
      refine wpAnyH_take (i := 8) (oi := { dst := some 48, op := Op.load 96 (Operand.tmp 47), type := 96, pos := "ref.go:26", after := #[{ on := 7, ground := Ground.data }], guard := none }) (v := ?vqb26) rfl (by kernel_rfl) (by kernel_rfl) (by kernel_rfl) (fun _ _ _ h => h) (Or.inl ⟨by rfl, ?yqb26⟩) hS ?_
      case yqb26 =>
        intro w hSw
        obtain ⟨q0, q1, q2, q3, q4⟩ := hSw
        go_simp; all_goals (with_reducible rfl)
      simp only [Act.put, List.setIfInBounds_toArray, List.set_cons_zero, List.set_cons_succ]
      refine wpAnyH_ready (rs := [9]) (by kernel_rfl) (by simp) ?_
      refine (AllReadyH.cons (o := { dst := some 49, op := Op.call { callee := Callee.value (Operand.func 32), args := #[Operand.tmp 40, Operand.tmp 41, Operand.tmp 44, Operand.tmp 48], argTypes := #[49, 92, 22, 96] }, type := 0, pos := "ref.go:26", after := #[{ on := 0, ground := Ground.data }, { on := 1, ground := Ground.data }, { on := 4, ground := Ground.data }, { on := 8, ground := Ground.data }], guard := none }) rfl (fun K hK => ?_) AllReadyH.nil)
      go_simp
      refine (HPUT.out _ hdr).mono ?_
      rintro e x9 ⟨⟨rfl, hwent⟩, hQ⟩
      have HWE := Lib.hid hwent
      have HQQ := Lib.hid hQ
      clear hwent hQ
      have g9 := HAFT.out _ HWE.out
      go_wp2_with fail
      refine hK.out _ _ g9 (fun _ => ?_)
      clear hK K
      refine wpAnyH_done (by kernel_rfl) ?_ _

      obtain ⟨q0, _, q2, _, _⟩ := g9
      have HI2 : Hid (TrI k C base h N (Y ++ [h, oE]) w8 x9 st' r' Z (82 * (b - (pl + M)) + 100)) := Lib.hid (by
        obtain ⟨Y2, hRE2, hon2, hY2⟩ := HWE.out
        have hw8r : w8.heap.size ≤ wr.heap.size := HI.out.only.size
        refine ⟨⟨Y2, hRE2, fun j hj => ?_⟩, ?_, HSS.out.1, HSS.out.2.1, HQQ.out⟩
        · rcases hY2 j hj with h1 | h1
          · exact HYY.out j h1
          · exact .inr (Nat.le_trans hw8r h1)
        · exact HI.out.only.trans ((Only.of_below (⟨rfl, rfl, rfl, Nat.le_refl _, fun _ _ => rfl⟩ : Below wr.heap.size wr wr.drew)).trans hon2 (fun j hj => .inl hj)) HYY.out)
      by_cases hk : S.k = 0
      · have hki : ((S.k : Int) == 0) = true := by rw [beq_iff_eq]; omega
        have HE : Hid (pl + M = pl + 1 ∧ S.l = 0) := Lib.hid (by have := HT.out.2.2.1 hk; have := HSS.out.2.2; omega)
        clear hk
        go_wp2_with fail
        exact ⟨⟨i + 1, pl + M, st', r', Z, by congr 1; have := HE.out; omega, rfl, HI2, Lib.hid ⟨HRS.out, HPA.out⟩, HT.out.1, HT.out.2.1⟩, by have := HT.out.1; simp [intOf]; omega⟩
      · have hki : ((S.k : Int) == 0) = false := by rw [beq_eq_false_iff_ne]; omega
        have HE : Hid (pl + M = pl + S.l) := Lib.hid (by have := HT.out.2.2.2 hk; have := HSS.out.2.2; omega)
        clear hk
        go_wp2_with fail
        exact ⟨⟨i + 1, pl + M, st', r', Z, by congr 1; have := HE.out; omega, rfl, HI2, Lib.hid ⟨HRS.out, HPA.out⟩, HT.out.1, HT.out.2.1⟩, by have := HT.out.1; simp [intOf]; omega⟩
end Go.Proofs.YtklkboplkobhgaaGreat
