/- The finder's beforePair. -/
import Derived.Test.YtnglkipjiojipaaFdPairMem
import Derived.Test.YtnglkipjiojipaaFdSeq
import Derived.Deep.RegionHeld3
namespace Go.Proofs.Ytnglkipjiojipaa
open Go.RowKit Go.Maps

def PairDone (L : List Nat) (place : Nat) (w : World) (e : Ending) (w' : World) : Prop := ∃ (b1 b2 : Nat) (A : Option Addr) (c h : Nat), e = .returned (.func (.func 29) #[] #[PF b1, PF b2]) ∧ BoxAt b1 w' (.int .i64 (h : Nat)) ∧ BoxAt b2 w' (.slice A L.length c) ∧
  Read32 w' A L ∧ L.length ≤ c ∧ h ≤ L.length ∧ (∀ q (_ : q < L.length), q < h → L[q] < place) ∧ (∀ q (_ : q < L.length), h ≤ q → place ≤ L[q]) ∧ Below w.heap.size w w'
set_option maxRecDepth 100000 in
set_option maxHeartbeats 2000000 in
theorem beforePair_any (Fp : Nat) (A : Option Addr) (c : Nat) (d : List UInt8) (dict nice : Int) (mp : Nat) (v4 : Value) (place : Nat) (w : World) (hF : FinderAt w Fp A c d dict nice mp v4) (hP : PairsAt w mp d (d.length - 1)) (hp : place + 1 < d.length) :
    Calls Try.prog 25 #[PF Fp, .int .i64 (place : Nat)] w (PairDone (places d (d.getD place 0) (d.getD (place + 1) 0) (d.length - 1)) place w) := by
  have hli : (d.length : Int) ≤ 100000 := by have := hF.small; omega
  have hln : d.length ≤ 100000 := hF.small
  have hci : (d.length : Int) ≤ (c : Int) := by have := hF.cap; omega
  obtain ⟨y1, hy1⟩ : ∃ y : Nat, place + 1 = y := ⟨_, rfl⟩
  have k1 : (place : Int) + 1 = (y1 : Int) := by omega
  have l1 : (y1 : Int) < (d.length : Int) := by omega
  have l0 : (place : Int) < (d.length : Int) := by omega
  obtain ⟨b, off, rfl, hbl, _⟩ := hF.bytes.addr (by omega)
  have HC0 : Hid (∀ w2 : World, Below w.heap.size w w2 → w2.cell? ⟨b, off + place, none⟩ = some (.int .u8 ((d.getD place 0).toNat : Nat)) ∧ w2.cell? ⟨b, off + y1, none⟩ = some (.int .u8 ((d.getD y1 0).toNat : Nat))) := Lib.hid (fun w2 hb => by
    obtain ⟨b', off', e, _, hat⟩ := (hF.below hb).bytes.addr (by omega)
    injection e with e
    injection e with e1 e2
    subst e1; subst e2
    have h0 := hat place (by omega)
    have h1 := hat y1 (by omega)
    rw [← getD_of (d := d) (i := place) (by omega)] at h0
    rw [← getD_of (d := d) (i := y1) (by omega)] at h1
    exact ⟨h0, h1⟩)
  rw [hy1]
  generalize d.getD place 0 = z0 at *
  generalize d.getD y1 0 = z1 at *
  obtain ⟨PA, cp, hlook, hread, hcp, hcm⟩ := hP.look (by omega) z0 z1
  have hrise := places_rise d z0 z1 (d.length - 1)
  have hlen := places_len d z0 z1 (d.length - 1)
  have HLK : Hid (∀ w2 : World, Below w.heap.size w w2 → (Instr.lookup 43 (.map (some mp)) (pairV z0 z1) false).run Try.prog w2 = .ok (.slice PA (places d z0 z1 (d.length - 1)).length cp) w2) := Lib.hid (fun w2 hb => by
    have hb' : w2.heap[mp]? = w.heap[mp]? := hb.block _ hP.lt
    exact hP.lookKept hb' hlook)
  obtain ⟨L, hL⟩ : ∃ L, places d z0 z1 (d.length - 1) = L := ⟨_, rfl⟩
  rw [hL] at hlook hread hcp hrise hlen HLK ⊢
  have HC := Lib.hid (fun (w2 : World) (hb : Below w.heap.size w w2) => (show w2.cell? ⟨Fp, 0, none⟩ = some (.slice (some ⟨b, off, none⟩) d.length c) ∧ w2.cell? ⟨Fp, 3, none⟩ = some (.map (some mp)) ∧ w2.cell? ⟨b, off + place, none⟩ = some (.int .u8 (z0.toNat : Nat)) ∧ w2.cell? ⟨b, off + y1, none⟩ = some (.int .u8 (z1.toNat : Nat)) ∧ (Instr.lookup 43 (.map (some mp)) (.agg #[.int .u8 (z0.toNat : Nat), .int .u8 (z1.toNat : Nat)]) false).run Try.prog w2 = .ok (.slice PA L.length cp) w2 from by
    obtain ⟨f0, _, _, f3, _⟩ := (hF.below hb).cells
    exact ⟨f0, f3, (HC0.out w2 hb).1, (HC0.out w2 hb).2, HLK.out w2 hb⟩))
  have HREAD := Lib.hid hread
  have HRISE := Lib.hid hrise
  have HCP := Lib.hid hcp
  have hw32 : IntKind.i32.wrap (place : Int) = (place : Int) := by
    have e1 : IntKind.i32.min = -2147483648 := rfl
    have e2 : IntKind.i32.max = 2147483647 := rfl
    first | exact IntWalk.i32_in _ (by omega) | (unfold IntKind.wrap; simp; omega)
  have hll : L.length ≤ 100000 := by omega
  have HLL := Lib.hid hll
  have v1 : IntKind.i64.wrap (y1 : Int) = (y1 : Int) := IntWalk.i64_in _ (by omega)
  clear hF hP hlook hread hrise hlen hcp hL hbl hy1 HC0 HLK hll hp hcm
  go_enter Try.func25, Try.ntmps25
  go_wp2_with fail
  refine wp_region_held_drew (S := fun w2 => Below w.heap.size w w2) (by kernel_rfl) ⟨rfl, rfl, rfl, Nat.le_refl _, fun _ _ => rfl⟩ (fun hS => ?_)
  refine wpAnyH_take (i := 0) (oi := { dst := some 8, op := Op.move (Operand.tmp 0), type := 24, pos := "finder.go:102", after := #[], guard := none }) (v := ?vbp1) rfl (by kernel_rfl) (by kernel_rfl) (by kernel_rfl) (fun _ _ _ h => h) (Or.inl ⟨by rfl, ?ybp1⟩) hS ?_
  case ybp1 =>
    intro w hSw
    obtain ⟨c0, c3, i0, i1, hlk⟩ := HC.out w hSw
    go_simp; all_goals (with_reducible rfl)
  simp only [Act.put, List.setIfInBounds_toArray, List.set_cons_zero, List.set_cons_succ]
  refine wpAnyH_take (i := 1) (oi := { dst := some 9, op := Op.nilCheck (Operand.tmp 8), type := 0, pos := "finder.go:102", after := #[{ on := 0, ground := Ground.data }], guard := none }) (v := ?vbp2) rfl (by kernel_rfl) (by kernel_rfl) (by kernel_rfl) (fun _ _ _ h => h) (Or.inl ⟨by rfl, ?ybp2⟩) hS ?_
  case ybp2 =>
    intro w hSw
    obtain ⟨c0, c3, i0, i1, hlk⟩ := HC.out w hSw
    go_simp; all_goals (with_reducible rfl)
  simp only [Act.put, List.setIfInBounds_toArray, List.set_cons_zero, List.set_cons_succ]
  refine wpAnyH_take (i := 2) (oi := { dst := some 10, op := Op.fieldAddr 46 (Operand.tmp 9) 3, type := 0, pos := "finder.go:102", after := #[{ on := 1, ground := Ground.data }], guard := none }) (v := ?vbp3) rfl (by kernel_rfl) (by kernel_rfl) (by kernel_rfl) (fun _ _ _ h => h) (Or.inl ⟨by rfl, ?ybp3⟩) hS ?_
  case ybp3 =>
    intro w hSw
    obtain ⟨c0, c3, i0, i1, hlk⟩ := HC.out w hSw
    go_simp; all_goals (with_reducible rfl)
  simp only [Act.put, List.setIfInBounds_toArray, List.set_cons_zero, List.set_cons_succ]
  refine wpAnyH_take (i := 3) (oi := { dst := some 11, op := Op.load 43 (Operand.tmp 10), type := 43, pos := "finder.go:102", after := #[{ on := 2, ground := Ground.data }], guard := none }) (v := ?vbp4) rfl (by kernel_rfl) (by kernel_rfl) (by kernel_rfl) (fun _ _ _ h => h) (Or.inl ⟨by rfl, ?ybp4⟩) hS ?_
  case ybp4 =>
    intro w hSw
    obtain ⟨c0, c3, i0, i1, hlk⟩ := HC.out w hSw
    go_simp; all_goals (with_reducible rfl)
  simp only [Act.put, List.setIfInBounds_toArray, List.set_cons_zero, List.set_cons_succ]
  refine wpAnyH_take (i := 4) (oi := { dst := some 12, op := Op.move (Operand.tmp 0), type := 24, pos := "finder.go:102", after := #[], guard := none }) (v := ?vbp5) rfl (by kernel_rfl) (by kernel_rfl) (by kernel_rfl) (fun _ _ _ h => h) (Or.inl ⟨by rfl, ?ybp5⟩) hS ?_
  case ybp5 =>
    intro w hSw
    obtain ⟨c0, c3, i0, i1, hlk⟩ := HC.out w hSw
    go_simp; all_goals (with_reducible rfl)
  simp only [Act.put, List.setIfInBounds_toArray, List.set_cons_zero, List.set_cons_succ]
  refine wpAnyH_take (i := 5) (oi := { dst := some 13, op := Op.nilCheck (Operand.tmp 12), type := 0, pos := "finder.go:102", after := #[{ on := 4, ground := Ground.data }], guard := none }) (v := ?vbp6) rfl (by kernel_rfl) (by kernel_rfl) (by kernel_rfl) (fun _ _ _ h => h) (Or.inl ⟨by rfl, ?ybp6⟩) hS ?_
  case ybp6 =>
    intro w hSw
    obtain ⟨c0, c3, i0, i1, hlk⟩ := HC.out w hSw
    go_simp; all_goals (with_reducible rfl)
  simp only [Act.put, List.setIfInBounds_toArray, List.set_cons_zero, List.set_cons_succ]
  refine wpAnyH_take (i := 6) (oi := { dst := some 14, op := Op.fieldAddr 46 (Operand.tmp 13) 0, type := 0, pos := "finder.go:102", after := #[{ on := 5, ground := Ground.data }], guard := none }) (v := ?vbp7) rfl (by kernel_rfl) (by kernel_rfl) (by kernel_rfl) (fun _ _ _ h => h) (Or.inl ⟨by rfl, ?ybp7⟩) hS ?_
  case ybp7 =>
    intro w hSw
    obtain ⟨c0, c3, i0, i1, hlk⟩ := HC.out w hSw
    go_simp; all_goals (with_reducible rfl)
  simp only [Act.put, List.setIfInBounds_toArray, List.set_cons_zero, List.set_cons_succ]
  refine wpAnyH_take (i := 7) (oi := { dst := some 15, op := Op.load 22 (Operand.tmp 14), type := 22, pos := "finder.go:102", after := #[{ on := 6, ground := Ground.data }], guard := none }) (v := ?vbp8) rfl (by kernel_rfl) (by kernel_rfl) (by kernel_rfl) (fun _ _ _ h => h) (Or.inl ⟨by rfl, ?ybp8⟩) hS ?_
  case ybp8 =>
    intro w hSw
    obtain ⟨c0, c3, i0, i1, hlk⟩ := HC.out w hSw
    go_simp; all_goals (with_reducible rfl)
  simp only [Act.put, List.setIfInBounds_toArray, List.set_cons_zero, List.set_cons_succ]
  refine wpAnyH_take (i := 8) (oi := { dst := some 16, op := Op.move (Operand.tmp 1), type := 3, pos := "finder.go:102", after := #[], guard := none }) (v := ?vbp9) rfl (by kernel_rfl) (by kernel_rfl) (by kernel_rfl) (fun _ _ _ h => h) (Or.inl ⟨by rfl, ?ybp9⟩) hS ?_
  case ybp9 =>
    intro w hSw
    obtain ⟨c0, c3, i0, i1, hlk⟩ := HC.out w hSw
    go_simp; all_goals (with_reducible rfl)
  simp only [Act.put, List.setIfInBounds_toArray, List.set_cons_zero, List.set_cons_succ]
  refine wpAnyH_take (i := 9) (oi := { dst := some 17, op := Op.indexAddr 22 (Operand.tmp 15) (Operand.tmp 16), type := 0, pos := "finder.go:102", after := #[{ on := 7, ground := Ground.data }, { on := 8, ground := Ground.data }], guard := none }) (v := ?vbp10) rfl (by kernel_rfl) (by kernel_rfl) (by kernel_rfl) (fun _ _ _ h => h) (Or.inl ⟨by rfl, ?ybp10⟩) hS ?_
  case ybp10 =>
    intro w hSw
    obtain ⟨c0, c3, i0, i1, hlk⟩ := HC.out w hSw
    go_simp; all_goals (with_reducible rfl)
  simp only [Act.put, List.setIfInBounds_toArray, List.set_cons_zero, List.set_cons_succ]
  refine wpAnyH_take (i := 10) (oi := { dst := some 18, op := Op.load 5 (Operand.tmp 17), type := 5, pos := "finder.go:102", after := #[{ on := 9, ground := Ground.data }], guard := none }) (v := ?vbp11) rfl (by kernel_rfl) (by kernel_rfl) (by kernel_rfl) (fun _ _ _ h => h) (Or.inl ⟨by rfl, ?ybp11⟩) hS ?_
  case ybp11 =>
    intro w hSw
    obtain ⟨c0, c3, i0, i1, hlk⟩ := HC.out w hSw
    go_simp; all_goals (with_reducible rfl)
  simp only [Act.put, List.setIfInBounds_toArray, List.set_cons_zero, List.set_cons_succ]
  refine wpAnyH_take (i := 11) (oi := { dst := some 19, op := Op.move (Operand.tmp 0), type := 24, pos := "finder.go:102", after := #[], guard := none }) (v := ?vbp12) rfl (by kernel_rfl) (by kernel_rfl) (by kernel_rfl) (fun _ _ _ h => h) (Or.inl ⟨by rfl, ?ybp12⟩) hS ?_
  case ybp12 =>
    intro w hSw
    obtain ⟨c0, c3, i0, i1, hlk⟩ := HC.out w hSw
    go_simp; all_goals (with_reducible rfl)
  simp only [Act.put, List.setIfInBounds_toArray, List.set_cons_zero, List.set_cons_succ]
  refine wpAnyH_take (i := 12) (oi := { dst := some 20, op := Op.nilCheck (Operand.tmp 19), type := 0, pos := "finder.go:102", after := #[{ on := 11, ground := Ground.data }], guard := none }) (v := ?vbp13) rfl (by kernel_rfl) (by kernel_rfl) (by kernel_rfl) (fun _ _ _ h => h) (Or.inl ⟨by rfl, ?ybp13⟩) hS ?_
  case ybp13 =>
    intro w hSw
    obtain ⟨c0, c3, i0, i1, hlk⟩ := HC.out w hSw
    go_simp; all_goals (with_reducible rfl)
  simp only [Act.put, List.setIfInBounds_toArray, List.set_cons_zero, List.set_cons_succ]
  refine wpAnyH_take (i := 13) (oi := { dst := some 21, op := Op.fieldAddr 46 (Operand.tmp 20) 0, type := 0, pos := "finder.go:102", after := #[{ on := 12, ground := Ground.data }], guard := none }) (v := ?vbp14) rfl (by kernel_rfl) (by kernel_rfl) (by kernel_rfl) (fun _ _ _ h => h) (Or.inl ⟨by rfl, ?ybp14⟩) hS ?_
  case ybp14 =>
    intro w hSw
    obtain ⟨c0, c3, i0, i1, hlk⟩ := HC.out w hSw
    go_simp; all_goals (with_reducible rfl)
  simp only [Act.put, List.setIfInBounds_toArray, List.set_cons_zero, List.set_cons_succ]
  refine wpAnyH_take (i := 14) (oi := { dst := some 22, op := Op.load 22 (Operand.tmp 21), type := 22, pos := "finder.go:102", after := #[{ on := 13, ground := Ground.data }], guard := none }) (v := ?vbp15) rfl (by kernel_rfl) (by kernel_rfl) (by kernel_rfl) (fun _ _ _ h => h) (Or.inl ⟨by rfl, ?ybp15⟩) hS ?_
  case ybp15 =>
    intro w hSw
    obtain ⟨c0, c3, i0, i1, hlk⟩ := HC.out w hSw
    go_simp; all_goals (with_reducible rfl)
  simp only [Act.put, List.setIfInBounds_toArray, List.set_cons_zero, List.set_cons_succ]
  refine wpAnyH_take (i := 15) (oi := { dst := some 23, op := Op.move (Operand.tmp 1), type := 3, pos := "finder.go:102", after := #[], guard := none }) (v := ?vbp16) rfl (by kernel_rfl) (by kernel_rfl) (by kernel_rfl) (fun _ _ _ h => h) (Or.inl ⟨by rfl, ?ybp16⟩) hS ?_
  case ybp16 =>
    intro w hSw
    obtain ⟨c0, c3, i0, i1, hlk⟩ := HC.out w hSw
    go_simp; all_goals (with_reducible rfl)
  simp only [Act.put, List.setIfInBounds_toArray, List.set_cons_zero, List.set_cons_succ]
  refine wpAnyH_take (i := 16) (oi := { dst := some 24, op := Op.binOp BinOp.add 3 (Operand.tmp 23) (Operand.const (Value.int IntKind.i64 1)) 3, type := 3, pos := "finder.go:102", after := #[{ on := 15, ground := Ground.data }], guard := none }) (v := ?vbp17) rfl (by kernel_rfl) (by kernel_rfl) (by kernel_rfl) (fun _ _ _ h => h) (Or.inl ⟨by rfl, ?ybp17⟩) hS ?_
  case ybp17 =>
    intro w hSw
    obtain ⟨c0, c3, i0, i1, hlk⟩ := HC.out w hSw
    go_simp; all_goals (with_reducible rfl)
  simp only [Act.put, List.setIfInBounds_toArray, List.set_cons_zero, List.set_cons_succ]
  refine wpAnyH_take (i := 17) (oi := { dst := some 25, op := Op.indexAddr 22 (Operand.tmp 22) (Operand.tmp 24), type := 0, pos := "finder.go:102", after := #[{ on := 14, ground := Ground.data }, { on := 16, ground := Ground.data }], guard := none }) (v := ?vbp18) rfl (by kernel_rfl) (by kernel_rfl) (by kernel_rfl) (fun _ _ _ h => h) (Or.inl ⟨by rfl, ?ybp18⟩) hS ?_
  case ybp18 =>
    intro w hSw
    obtain ⟨c0, c3, i0, i1, hlk⟩ := HC.out w hSw
    go_simp; all_goals (with_reducible rfl)
  simp only [Act.put, List.setIfInBounds_toArray, List.set_cons_zero, List.set_cons_succ]
  refine wpAnyH_take (i := 18) (oi := { dst := some 26, op := Op.load 5 (Operand.tmp 25), type := 5, pos := "finder.go:102", after := #[{ on := 17, ground := Ground.data }], guard := none }) (v := ?vbp19) rfl (by kernel_rfl) (by kernel_rfl) (by kernel_rfl) (fun _ _ _ h => h) (Or.inl ⟨by rfl, ?ybp19⟩) hS ?_
  case ybp19 =>
    intro w hSw
    obtain ⟨c0, c3, i0, i1, hlk⟩ := HC.out w hSw
    go_simp; all_goals (with_reducible rfl)
  simp only [Act.put, List.setIfInBounds_toArray, List.set_cons_zero, List.set_cons_succ]
  refine wpAnyH_take (i := 19) (oi := { dst := some 27, op := Op.build 61 #[(0, Operand.tmp 18), (1, Operand.tmp 26)], type := 61, pos := "finder.go:102", after := #[{ on := 10, ground := Ground.data }, { on := 18, ground := Ground.data }], guard := none }) (v := ?vbp20) rfl (by kernel_rfl) (by kernel_rfl) (by kernel_rfl) (fun _ _ _ h => h) (Or.inl ⟨by rfl, ?ybp20⟩) hS ?_
  case ybp20 =>
    intro w hSw
    obtain ⟨c0, c3, i0, i1, hlk⟩ := HC.out w hSw
    go_simp; all_goals (with_reducible rfl)
  simp only [Act.put, List.setIfInBounds_toArray, List.set_cons_zero, List.set_cons_succ]
  refine wpAnyH_take (i := 20) (oi := { dst := some 28, op := Op.lookup 43 (Operand.tmp 11) (Operand.tmp 27) false, type := 44, pos := "finder.go:102", after := #[{ on := 3, ground := Ground.data }, { on := 19, ground := Ground.data }], guard := none }) (v := ?vbp21) rfl (by kernel_rfl) (by kernel_rfl) (by kernel_rfl) (fun _ _ _ h => h) (Or.inl ⟨by rfl, ?ybp21⟩) hS ?_
  case ybp21 =>
    intro w hSw
    obtain ⟨c0, c3, i0, i1, hlk⟩ := HC.out w hSw
    go_simp; all_goals (with_reducible rfl)
  simp only [Act.put, List.setIfInBounds_toArray, List.set_cons_zero, List.set_cons_succ]
  refine wpAnyH_ready (rs := [21]) (by kernel_rfl) (by simp) ?_
  refine (AllReadyH.cons (o := { dst := some 5, op := Op.alloc 44, type := 0, pos := "finder.go:102", after := #[], guard := none }) rfl (fun K hK => ?_) AllReadyH.nil)
  go_simp
  refine hK.out _ _ (Below.alloc hS hS.size _) (fun _ => ?_)
  clear hK K
  refine wpAnyH_ready (rs := [22]) (by kernel_rfl) (by simp) ?_
  refine (AllReadyH.cons (o := { dst := none, op := Op.store 44 (Operand.tmp 5) (Operand.tmp 28), type := 0, pos := "finder.go:102", after := #[{ on := 21, ground := Ground.data }, { on := 20, ground := Ground.data }, { on := 0, ground := Ground.phase }, { on := 1, ground := Ground.phase }, { on := 2, ground := Ground.phase }, { on := 3, ground := Ground.phase }, { on := 4, ground := Ground.phase }, { on := 5, ground := Ground.phase }, { on := 6, ground := Ground.phase }, { on := 7, ground := Ground.phase }, { on := 8, ground := Ground.phase }, { on := 9, ground := Ground.phase }, { on := 10, ground := Ground.phase }, { on := 11, ground := Ground.phase }, { on := 12, ground := Ground.phase }, { on := 13, ground := Ground.phase }, { on := 14, ground := Ground.phase }, { on := 15, ground := Ground.phase }, { on := 16, ground := Ground.phase }, { on := 17, ground := Ground.phase }, { on := 18, ground := Ground.phase }, { on := 19, ground := Ground.phase }, { on := 20, ground := Ground.phase }, { on := 21, ground := Ground.phase }], guard := none }) rfl (fun K hK => ?_) AllReadyH.nil)
  go_simp
  refine hK.out _ _ (Below.alloc hS hS.size _) (fun _ => ?_)
  clear hK K
  refine wpAnyH_done (by kernel_rfl) ?_ _
  obtain ⟨W2, hW2⟩ : ∃ W2, (w.alloc (.cells #[.slice PA L.length cp] 44)).drew = W2 := ⟨_, rfl⟩
  rw [hW2]
  have hb2 : Below w.heap.size w W2 := by
    rw [← hW2]
    have h := (Below.refl w.heap.size w).alloc (Nat.le_refl _) (.cells #[.slice PA L.length cp] 44)
    exact ⟨h.os, h.tape, h.output, h.size, h.block⟩
  have hx2 : BoxAt w.heap.size W2 (.slice PA L.length cp) := ⟨_, by rw [← hW2]; exact heap_alloc_last _ _⟩
  have c5 := hx2.cell
  have HSE := Lib.hid (search_any PA L cp place W2 (HREAD.out.below hb2) HLL.out HCP.out HRISE.out)
  have HB2 := Lib.hid hb2
  have HX2 := Lib.hid hx2
  have hsz2 : Hid (W2.heap.size = w.heap.size + 1) := Lib.hid (by rw [← hW2]; simp [World.drew])
  clear hW2 hb2 hx2 hS
  go_wp2_with fail
  refine HSE.out.mono ?_
  rintro e w3 ⟨⟨i, bb, rfl, hi, hlo, hhi⟩, rfl⟩
  have HI := Lib.hid (And.intro hi (And.intro hlo hhi))
  obtain ⟨W4, hW4⟩ : ∃ W4, W2.alloc (.cells #[.int .i64 (i : Nat)] 3) = W4 := ⟨_, rfl⟩
  have hb4 : Below W2.heap.size W2 W4 := by rw [← hW4]; exact (Below.refl _ _).alloc (Nat.le_refl _) _
  have hx4 : BoxAt W2.heap.size W4 (.int .i64 (i : Nat)) := by rw [← hW4]; exact BoxAt.made _ _ _
  have HW4 := Lib.hid hW4
  have H4 := Lib.hid (And.intro hb4 hx4)
  clear hi hlo hhi hW4 hb4 hx4
  go_wp2_with fail
  rw [HW4.out]
  go_ret
  have hb24 := HB2.out.trans (H4.out.1.mono HB2.out.size)
  refine ⟨_, _, PA, cp, i, rfl, H4.out.2, HX2.out.keep (H4.out.1.block _ (by rw [hsz2.out]; omega)), HREAD.out.below hb24, HCP.out, HI.out.1, HI.out.2.1, HI.out.2.2, hb24⟩
end Go.Proofs.Ytnglkipjiojipaa
