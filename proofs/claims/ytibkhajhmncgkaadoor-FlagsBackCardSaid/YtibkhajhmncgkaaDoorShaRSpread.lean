/- The walk over the reference's spread. -/
import Derived.Test.YtibkhajhmncgkaaDoorShaRRot
import Derived.Test.YtibkhajhmncgkaaDoorShaRRoot2
import Derived.Deep.RegionHeld3
namespace Go.Proofs.YtibkhajhmncgkaaDoor
open Go.RowKit

/-- The first bytes of a word. -/
def accW (blk : List UInt8) (k : Nat) : Nat → Nat
  | 0 => 0
  | j + 1 => 256 * accW blk k j + (blk.getD (4 * k + j) 0).toNat
theorem accW_lt (blk : List UInt8) (k : Nat) : accW blk k 0 < 1 ∧ accW blk k 1 < 256 ∧ accW blk k 2 < 65536 ∧ accW blk k 3 < 16777216 ∧ accW blk k 4 < 4294967296 := by
  have h0 := (blk.getD (4 * k + 0) 0).toNat_lt
  have h1 := (blk.getD (4 * k + 1) 0).toNat_lt
  have h2 := (blk.getD (4 * k + 2) 0).toNat_lt
  have h3 := (blk.getD (4 * k + 3) 0).toNat_lt
  simp only [accW]; omega
theorem accW_bd (blk : List UInt8) (k j : Nat) (h : j < 4) : accW blk k j < 16777216 := by
  have := accW_lt blk k
  match j, h with
  | 0, _ | 1, _ | 2, _ | 3, _ => omega
theorem accW_end (blk : List UInt8) (k : Nat) : accW blk k 4 = (wordAt blk k).toNat := by
  unfold wordAt; rw [be_nat]
  simp only [accW, Nat.add_zero]; omega
def SpreadDone (w : World) (blk : List UInt8) (e : Ending) (w' : World) : Prop := ∃ v, e = .returned v ∧ OwnV 53 w.heap.size w' v ((schedTo blk 64).map U32) ∧ Below w.heap.size w w'
theorem sched_succ (blk : List UInt8) (k : Nat) : (schedTo blk (k + 1)).map U32 = (schedTo blk k).map U32 ++ [U32 (nextW blk (schedTo blk k) k)] := by simp [schedTo]
theorem sched_at (l : List (BitVec 32)) (i : Nat) (h : i < (l.map U32).length) : (l.map U32)[i] = U32 (l.getD i 0) := by
  have h' : i < l.length := by simpa using h
  rw [List.getElem_map]; simp [List.getD, h']
theorem next_early (blk : List UInt8) (l : List (BitVec 32)) (n : Nat) (h : n < 16) : nextW blk l n = wordAt blk n := by unfold nextW; rw [if_pos h]
theorem OwnV.cellG {t : TypeId} {base : Nat} {w : World} {g n cap : Nat} {l : List Value} (h : OwnV t base w (.slice (some ⟨g, 0, none⟩) n cap) l) {i : Nat} (hi : i < l.length) : w.cell? ⟨g, i, none⟩ = some l[i] := by
  rcases h.form with ⟨e, _⟩ | ⟨g', cap', e, _, _, _, _, hc⟩
  · cases e
  · injection e with e1 _ _; injection e1 with e1; injection e1 with e1; subst e1; exact hc i hi

set_option maxRecDepth 100000 in
set_option maxHeartbeats 4000000 in
theorem rspread_any (A : Option Addr) (blk : List UInt8) (c : Nat) (w : World) (hB : Bytes w A blk) (hblk : blk.length = 64) :
    Calls Tryd.prog 45 #[.slice A 64 c] w (SpreadDone w blk) := by
  obtain ⟨bb, off, rfl, hbl, hcell⟩ := hB.addr (by omega)
  have HCB : Hid (∀ i, i < 64 → w.cell? ⟨bb, off + i, none⟩ = some (B8 (blk.getD i 0))) := Lib.hid (fun i hi => by rw [hcell i (by omega)]; simp [List.getD, show i < blk.length by omega])
  have HSC := Lib.hid (sched_succ blk)
  have HLEN := Lib.hid (schedTo_length blk)
  have HBD := Lib.hid (accW_bd blk)
  have HEND := Lib.hid (accW_end blk)
  clear hB hcell hblk
  go_enter Tryd.func45, Tryd.ntmps45
  go_wp2_with fail
  go_loopw [3, 4] (fun v i wr => ∃ k : Nat, k ≤ 64 ∧ i = .int .i64 k ∧ OwnV 53 w.heap.size wr v ((schedTo blk k).map U32) ∧ Below w.heap.size w wr) (fun _ i _ => 64 - (intOf i).toNat)
  case atStart => exact ⟨0, by omega, rfl, OwnV.nil _ _ _, Below.refl _ _⟩
  case round =>
    obtain ⟨k, hk, rfl, hown, hb⟩ := hrel
    by_cases hlt : k < 64
    · have hki : (k : Int) < 64 := by omega
      have hk0 : (0 : Int) ≤ (k : Int) := by omega
      have hs := HSC.out k
      have hll : ((schedTo blk k).map U32).length = k := by rw [List.length_map, HLEN.out]
      have HLL := Lib.hid hll
      by_cases h16 : k < 16
      · have h16i : (k : Int) < 16 := by omega
        rw [next_early blk _ k h16] at hs
        have HS := Lib.hid hs
        obtain ⟨v0, hv0⟩ : ∃ v, wordAt blk k = v := ⟨_, rfl⟩
        have HV := Lib.hid hv0
        clear hs hv0 hll
        go_wp2_with fail
        go_loop [5, 6] (fun n j => ∃ q : Nat, q ≤ 4 ∧ j = .int .i64 q ∧ n = .int .u32 (accW blk k q : Nat)) (fun _ j => 4 - (intOf j).toNat)
        case atStart => exact ⟨0, by omega, rfl, rfl⟩
        case round =>
          obtain ⟨q, hq, rfl, rfl⟩ := hrel
          by_cases hq4 : q < 4
          · have hcl := (hb.cell (p := ⟨bb, off + (4 * k + q), none⟩) hbl).trans (HCB.out (4 * k + q) (by omega))
            have hbd := HBD.out k q hq4
            have HN : Hid (accW blk k (q + 1) = 256 * accW blk k q + (blk.getD (4 * k + q) 0).toNat) := Lib.hid rfl
            generalize blk.getD (4 * k + q) 0 = xb at *
            have hx := xb.toNat_lt
            generalize accW blk k q = a at *
            have hqi : (q : Int) < 4 := by omega
            have hq0 : (0 : Int) ≤ (q : Int) := by omega
            have hti : (4 * (k : Int) + (q : Int)).toNat = 4 * k + q := by omega
            have hti1 : 4 * (k : Int) + (q : Int) < 64 := by omega
            have hti0 : 0 ≤ 4 * (k : Int) + (q : Int) := by omega
            have ha0 : (0 : Int) ≤ (a : Int) := by omega
            have ha1 : (a : Int) < 16777216 := by omega
            have hx0 : (0 : Int) ≤ (xb.toNat : Int) := by omega
            have hx1 : (xb.toNat : Int) < 256 := by omega
            go_wp2_with fail
            go_round
            case rel => exact ⟨q + 1, by omega, by go_num, by rw [HN.out]; go_num⟩
            case measure => simp [intOf]; omega
          · obtain rfl : q = 4 := by omega
            rw [HEND.out, HV.out]
            have hown2 := hown.alloc (.cells #[U32 v0] 53)
            have hlc := lit_cell1 wr (U32 v0) 53
            have hb2 := hb.alloc hb.size (.cells #[U32 v0] 53)
            have hl1 : ((schedTo blk k).map U32).length ≤ 64 := by rw [HLL.out]; omega
            have hs2 := hb2.size
            generalize (schedTo blk k).map U32 = L at *
            go_wp2_with (refine wpList_append_vals elem32 rfl _ _ rfl w.heap.size _ u3 L rfl hown2 wr.heap.size 1 1 [U32 v0] rfl rfl hlc (one_int _) (by omega) (by omega) hs2 ?_; intro v2 w3 hown3 hg3 _)
            have hb3 := below_grown2 hb2 hg3 hs2 (fun g e => (hown2.lt g e).1)
            go_roundw
            case rel => exact ⟨k + 1, by omega, by go_num, by rw [HS.out, HV.out]; exact hown3, hb3⟩
            case measure => simp [intOf]; omega
      · have h16i : (16 : Int) ≤ (k : Int) := by omega
        have hn := next_late blk (schedTo blk k) k (by omega)
        obtain ⟨g, cap, rfl, hg1, hg2, hgc, hgm, hcg⟩ := hown.some_of_pos (by rw [hll]; omega)
        rw [hll] at hgc hown ⊢
        have hcc : ∀ i, i < k → wr.cell? ⟨g, i, none⟩ = some (U32 ((schedTo blk k).getD i 0)) := fun i hi => by rw [hcg i (by rw [hll]; exact hi), sched_at]
        have hc1 := hcc (k - 15) (by omega)
        have hc2 := hcc (k - 2) (by omega)
        have hc3 := hcc (k - 16) (by omega)
        have hc4 := hcc (k - 7) (by omega)
        generalize (schedTo blk k).getD (k - 15) 0 = x at *
        generalize (schedTo blk k).getD (k - 2) 0 = y at *
        generalize (schedTo blk k).getD (k - 16) 0 = a at *
        generalize (schedTo blk k).getD (k - 7) 0 = b at *
        have HS0 := Lib.hid (s0_val x)
        have HS1 := Lib.hid (s1_val y)
        generalize s0 x = p at *
        generalize s1 y = q at *
        have HN1 := Lib.hid (add32 a p)
        generalize a + p = v1 at *
        have HN2 := Lib.hid (add32 v1 b)
        generalize v1 + b = v2' at *
        have HN3 := Lib.hid (add32 v2' q)
        generalize v2' + q = v at *
        have HNX := Lib.hid hn
        have HR7 := Lib.hid (fun w => rot_any 7 (by omega) x w)
        have HR18 := Lib.hid (fun w => rot_any 18 (by omega) x w)
        have HR17 := Lib.hid (fun w => rot_any 17 (by omega) y w)
        have HR19 := Lib.hid (fun w => rot_any 19 (by omega) y w)
        have HS := Lib.hid hs
        have HOW : Hid (OwnV 53 w.heap.size (wr.drew.alloc (.cells #[U32 v] 53)) (.slice (some ⟨g, 0, none⟩) k cap) ((schedTo blk k).map U32)) := Lib.hid (hown.drew.alloc _)
        have HLC := Lib.hid (lit_cell1 wr.drew (U32 v) 53)
        have HLM1 : Hid ((((schedTo blk k).map U32).length + 1) * 4 ≤ 140737488355328) := Lib.hid (by rw [hll]; omega)
        have HLM2 : Hid (((schedTo blk k).map U32).length + 1 ≤ 140737488355328) := Lib.hid (by rw [hll]; omega)
        have hbd := (hb.drew).alloc hb.size (.cells #[U32 v] 53)
        have HSZ : Hid (w.heap.size ≤ (wr.drew.alloc (.cells #[U32 v] 53)).heap.size) := Lib.hid hbd.size
        have HBW := Lib.hid hbd
        have k3 : wr.drew.cell? ⟨g, k - 16, none⟩ = some (U32 a) := hc3
        have k4 : wr.drew.cell? ⟨g, k - 7, none⟩ = some (U32 b) := hc4
        have i15 : ((k : Int) - 15).toNat = k - 15 := by omega
        have i2 : ((k : Int) - 2).toNat = k - 2 := by omega
        have l15 : (15 : Int) ≤ (k : Int) := by omega
        have l2 : (2 : Int) ≤ (k : Int) := by omega
        have m15 : (k : Int) - 15 < (k : Int) := by omega
        have m2 : (k : Int) - 2 < (k : Int) := by omega
        clear hs hn hcc hc3 hc4 hcg hll hbd
        generalize (schedTo blk k).map U32 = L at *
        go_wp2_with fail
        refine (HR7.out _).mono ?_
        rintro e w' ⟨rfl, rfl⟩
        go_wp2_with fail
        refine (HR18.out _).mono ?_
        rintro e w' ⟨rfl, rfl⟩
        have hs0 := HS0.out
        go_wp2_with fail
        clear hs0
        refine (HR17.out _).mono ?_
        rintro e w' ⟨rfl, rfl⟩
        go_wp2_with fail
        refine (HR19.out _).mono ?_
        rintro e w' ⟨rfl, rfl⟩
        have hs1 := HS1.out
        go_wp2_with fail
        clear hs1 i15 i2 l15 l2 m15 m2
        refine wp_region_held_drew (S := fun _ => True) (by kernel_rfl) trivial (fun hS => ?_)
        refine wpAnyH_take (i := 0) (oi := { dst := some 62, op := Op.move (Operand.tmp 3), type := 62, pos := "ref.go:118", after := #[], guard := none }) (v := ?vc1) rfl (by kernel_rfl) (by kernel_rfl) (by kernel_rfl) (fun _ _ _ h => h) (Or.inl ⟨by rfl, ?yc1⟩) hS ?_
        case yc1 =>
          intro w hSw
          go_simp; all_goals (with_reducible rfl)
        simp only [Act.put, List.setIfInBounds_toArray, List.set_cons_zero, List.set_cons_succ]
        refine wpAnyH_take (i := 1) (oi := { dst := some 63, op := Op.move (Operand.tmp 3), type := 62, pos := "ref.go:118", after := #[], guard := none }) (v := ?vc2) rfl (by kernel_rfl) (by kernel_rfl) (by kernel_rfl) (fun _ _ _ h => h) (Or.inl ⟨by rfl, ?yc2⟩) hS ?_
        case yc2 =>
          intro w hSw
          go_simp; all_goals (with_reducible rfl)
        simp only [Act.put, List.setIfInBounds_toArray, List.set_cons_zero, List.set_cons_succ]
        refine wpAnyH_take (i := 2) (oi := { dst := some 64, op := Op.move (Operand.tmp 4), type := 3, pos := "ref.go:118", after := #[], guard := none }) (v := ?vc3) rfl (by kernel_rfl) (by kernel_rfl) (by kernel_rfl) (fun _ _ _ h => h) (Or.inl ⟨by rfl, ?yc3⟩) hS ?_
        case yc3 =>
          intro w hSw
          go_simp; all_goals (with_reducible rfl)
        simp only [Act.put, List.setIfInBounds_toArray, List.set_cons_zero, List.set_cons_succ]
        refine wpAnyH_take (i := 3) (oi := { dst := some 65, op := Op.binOp BinOp.sub 3 (Operand.tmp 64) (Operand.const (Value.int IntKind.i64 16)) 3, type := 3, pos := "ref.go:118", after := #[{ on := 2, ground := Ground.data }], guard := none }) (v := ?vc4) rfl (by kernel_rfl) (by kernel_rfl) (by kernel_rfl) (fun _ _ _ h => h) (Or.inl ⟨by rfl, ?yc4⟩) hS ?_
        case yc4 =>
          intro w hSw
          have q := IntWalk.i64_in ((k : Int) - 16) (by omega)
          go_simp; all_goals (with_reducible rfl)
        simp only [Act.put, List.setIfInBounds_toArray, List.set_cons_zero, List.set_cons_succ]
        refine wpAnyH_take (i := 4) (oi := { dst := some 66, op := Op.indexAddr 62 (Operand.tmp 63) (Operand.tmp 65), type := 0, pos := "ref.go:118", after := #[{ on := 1, ground := Ground.data }, { on := 3, ground := Ground.data }], guard := none }) (v := ?vc5) rfl (by kernel_rfl) (by kernel_rfl) (by kernel_rfl) (fun _ _ _ h => h) (Or.inl ⟨by rfl, ?yc5⟩) hS ?_
        case yc5 =>
          intro w hSw
          have q0 : (0 : Int) ≤ (k : Int) - 16 := by omega
          have q1 : (k : Int) - 16 < 64 := by omega
          have q2 : ((k : Int) - 16).toNat = k - 16 := by omega
          have q3 : (16 : Int) ≤ (k : Int) := by omega
          have q4 : (k : Int) - 16 < (k : Int) := by omega
          go_simp; all_goals (with_reducible rfl)
        simp only [Act.put, List.setIfInBounds_toArray, List.set_cons_zero, List.set_cons_succ]
        refine wpAnyH_take (i := 6) (oi := { dst := some 68, op := Op.move (Operand.tmp 9), type := 53, pos := "ref.go:118", after := #[], guard := none }) (v := ?vc6) rfl (by kernel_rfl) (by kernel_rfl) (by kernel_rfl) (fun _ _ _ h => h) (Or.inl ⟨by rfl, ?yc6⟩) hS ?_
        case yc6 =>
          intro w hSw
          go_simp; all_goals (with_reducible rfl)
        simp only [Act.put, List.setIfInBounds_toArray, List.set_cons_zero, List.set_cons_succ]
        refine wpAnyH_take (i := 8) (oi := { dst := some 70, op := Op.move (Operand.tmp 3), type := 62, pos := "ref.go:118", after := #[], guard := none }) (v := ?vc7) rfl (by kernel_rfl) (by kernel_rfl) (by kernel_rfl) (fun _ _ _ h => h) (Or.inl ⟨by rfl, ?yc7⟩) hS ?_
        case yc7 =>
          intro w hSw
          go_simp; all_goals (with_reducible rfl)
        simp only [Act.put, List.setIfInBounds_toArray, List.set_cons_zero, List.set_cons_succ]
        refine wpAnyH_take (i := 9) (oi := { dst := some 71, op := Op.move (Operand.tmp 4), type := 3, pos := "ref.go:118", after := #[], guard := none }) (v := ?vc8) rfl (by kernel_rfl) (by kernel_rfl) (by kernel_rfl) (fun _ _ _ h => h) (Or.inl ⟨by rfl, ?yc8⟩) hS ?_
        case yc8 =>
          intro w hSw
          go_simp; all_goals (with_reducible rfl)
        simp only [Act.put, List.setIfInBounds_toArray, List.set_cons_zero, List.set_cons_succ]
        refine wpAnyH_take (i := 10) (oi := { dst := some 72, op := Op.binOp BinOp.sub 3 (Operand.tmp 71) (Operand.const (Value.int IntKind.i64 7)) 3, type := 3, pos := "ref.go:118", after := #[{ on := 9, ground := Ground.data }], guard := none }) (v := ?vc9) rfl (by kernel_rfl) (by kernel_rfl) (by kernel_rfl) (fun _ _ _ h => h) (Or.inl ⟨by rfl, ?yc9⟩) hS ?_
        case yc9 =>
          intro w hSw
          have q := IntWalk.i64_in ((k : Int) - 7) (by omega)
          go_simp; all_goals (with_reducible rfl)
        simp only [Act.put, List.setIfInBounds_toArray, List.set_cons_zero, List.set_cons_succ]
        refine wpAnyH_take (i := 11) (oi := { dst := some 73, op := Op.indexAddr 62 (Operand.tmp 70) (Operand.tmp 72), type := 0, pos := "ref.go:118", after := #[{ on := 8, ground := Ground.data }, { on := 10, ground := Ground.data }], guard := none }) (v := ?vc10) rfl (by kernel_rfl) (by kernel_rfl) (by kernel_rfl) (fun _ _ _ h => h) (Or.inl ⟨by rfl, ?yc10⟩) hS ?_
        case yc10 =>
          intro w hSw
          have q0 : (0 : Int) ≤ (k : Int) - 7 := by omega
          have q1 : (k : Int) - 7 < 64 := by omega
          have q2 : ((k : Int) - 7).toNat = k - 7 := by omega
          have q3 : (7 : Int) ≤ (k : Int) := by omega
          have q4 : (k : Int) - 7 < (k : Int) := by omega
          go_simp; all_goals (with_reducible rfl)
        simp only [Act.put, List.setIfInBounds_toArray, List.set_cons_zero, List.set_cons_succ]
        refine wpAnyH_take (i := 14) (oi := { dst := some 76, op := Op.move (Operand.tmp 10), type := 53, pos := "ref.go:118", after := #[], guard := none }) (v := ?vc11) rfl (by kernel_rfl) (by kernel_rfl) (by kernel_rfl) (fun _ _ _ h => h) (Or.inl ⟨by rfl, ?yc11⟩) hS ?_
        case yc11 =>
          intro w hSw
          go_simp; all_goals (with_reducible rfl)
        simp only [Act.put, List.setIfInBounds_toArray, List.set_cons_zero, List.set_cons_succ]
        refine wpAnyH_ready (rs := [5, 12]) (by kernel_rfl) (by simp) ?_
        refine (AllReadyH.cons (o := { dst := some 67, op := Op.load 53 (Operand.tmp 66), type := 53, pos := "ref.go:118", after := #[{ on := 4, ground := Ground.data }], guard := none }) rfl (fun K hK => ?_) (AllReadyH.cons (o := { dst := some 74, op := Op.load 53 (Operand.tmp 73), type := 53, pos := "ref.go:118", after := #[{ on := 11, ground := Ground.data }], guard := none }) rfl (fun K hK => ?_) AllReadyH.nil))
        · skip
          go_simp
          refine hK.out _ _ trivial (fun _ => ?_)
          clear hK K
          refine wpAnyH_take (i := 7) (oi := { dst := some 69, op := Op.binOp BinOp.add 53 (Operand.tmp 67) (Operand.tmp 68) 53, type := 53, pos := "ref.go:118", after := #[{ on := 5, ground := Ground.data }, { on := 6, ground := Ground.data }], guard := none }) (v := ?vc12) rfl (by kernel_rfl) (by kernel_rfl) (by kernel_rfl) (fun _ _ _ h => h) (Or.inl ⟨by rfl, ?yc12⟩) trivial ?_
          case yc12 =>
            intro w hSw
            go_simp; all_goals (with_reducible rfl)
          simp only [Act.put, List.setIfInBounds_toArray, List.set_cons_zero, List.set_cons_succ]
          rw [HN1.out]
          refine wpAnyH_ready (rs := [12]) (by kernel_rfl) (by simp) ?_
          refine (AllReadyH.cons (o := { dst := some 74, op := Op.load 53 (Operand.tmp 73), type := 53, pos := "ref.go:118", after := #[{ on := 11, ground := Ground.data }], guard := none }) rfl (fun K hK => ?_) AllReadyH.nil)
          go_simp
          refine hK.out _ _ trivial (fun _ => ?_)
          clear hK K
          refine wpAnyH_take (i := 13) (oi := { dst := some 75, op := Op.binOp BinOp.add 53 (Operand.tmp 69) (Operand.tmp 74) 53, type := 53, pos := "ref.go:118", after := #[{ on := 7, ground := Ground.data }, { on := 12, ground := Ground.data }], guard := none }) (v := ?vc13) rfl (by kernel_rfl) (by kernel_rfl) (by kernel_rfl) (fun _ _ _ h => h) (Or.inl ⟨by rfl, ?yc13⟩) trivial ?_
          case yc13 =>
            intro w hSw
            go_simp; all_goals (with_reducible rfl)
          simp only [Act.put, List.setIfInBounds_toArray, List.set_cons_zero, List.set_cons_succ]
          rw [HN2.out]
          refine wpAnyH_take (i := 15) (oi := { dst := some 77, op := Op.binOp BinOp.add 53 (Operand.tmp 75) (Operand.tmp 76) 53, type := 53, pos := "ref.go:118", after := #[{ on := 13, ground := Ground.data }, { on := 14, ground := Ground.data }], guard := none }) (v := ?vc14) rfl (by kernel_rfl) (by kernel_rfl) (by kernel_rfl) (fun _ _ _ h => h) (Or.inl ⟨by rfl, ?yc14⟩) trivial ?_
          case yc14 =>
            intro w hSw
            go_simp; all_goals (with_reducible rfl)
          simp only [Act.put, List.setIfInBounds_toArray, List.set_cons_zero, List.set_cons_succ]
          rw [HN3.out]
          refine wpAnyH_ready (rs := [16]) (by kernel_rfl) (by simp) ?_
          refine (AllReadyH.cons (o := { dst := some 78, op := Op.buildSlice 62 1 #[(0, Operand.tmp 77)], type := 62, pos := "ref.go:118", after := #[{ on := 15, ground := Ground.data }], guard := none }) rfl (fun K hK => ?_) AllReadyH.nil)
          go_simp
          refine hK.out _ _ trivial (fun _ => ?_)
          clear hK K
          refine wpAnyH_ready (rs := [17]) (by kernel_rfl) (by simp) ?_
          refine (AllReadyH.cons (o := { dst := some 79, op := Op.call { callee := Callee.builtin Builtin.append, args := #[Operand.tmp 62, Operand.tmp 78], argTypes := #[62, 62] }, type := 62, pos := "ref.go:118", after := #[{ on := 0, ground := Ground.data }, { on := 16, ground := Ground.data }], guard := none }) rfl (fun K hK => ?_) AllReadyH.nil)
          refine step_append_vals elem32 rfl (.tmp 62) (.tmp 78) rfl w.heap.size (wr.drew.alloc (.cells #[U32 v] 53)) (.slice (some ⟨g, 0, none⟩) k cap) L rfl HOW.out wr.heap.size 1 1 [U32 v] rfl rfl HLC.out (one_int _) HLM1.out HLM2.out HSZ.out ?_
          intro v2 w3 hown3 hg3 _
          simp only [Act.put, List.setIfInBounds_toArray, List.set_cons_zero, List.set_cons_succ]
          refine hK.out _ _ trivial (fun _ => ?_)
          clear hK K
          refine wpAnyH_take (i := 18) (oi := { dst := some 3, op := Op.assign (Operand.tmp 79), type := 62, pos := "ref.go:118", after := #[{ on := 17, ground := Ground.data }, { on := 17, ground := Ground.chain }, { on := 0, ground := Ground.phase }, { on := 1, ground := Ground.phase }, { on := 2, ground := Ground.phase }, { on := 3, ground := Ground.phase }, { on := 4, ground := Ground.phase }, { on := 5, ground := Ground.phase }, { on := 6, ground := Ground.phase }, { on := 7, ground := Ground.phase }, { on := 8, ground := Ground.phase }, { on := 9, ground := Ground.phase }, { on := 10, ground := Ground.phase }, { on := 11, ground := Ground.phase }, { on := 12, ground := Ground.phase }, { on := 13, ground := Ground.phase }, { on := 14, ground := Ground.phase }, { on := 15, ground := Ground.phase }, { on := 16, ground := Ground.phase }, { on := 17, ground := Ground.phase }], guard := none }) (v := ?vc15) rfl (by kernel_rfl) (by kernel_rfl) (by kernel_rfl) (fun _ _ _ h => h) (Or.inl ⟨by rfl, ?yc15⟩) trivial ?_
          case yc15 =>
            intro w hSw
            go_simp; all_goals (with_reducible rfl)
          simp only [Act.put, List.setIfInBounds_toArray, List.set_cons_zero, List.set_cons_succ]
          refine wpAnyH_done (by kernel_rfl) ?_ _
          go_wp2_with fail
          have hb3 := below_grown2 HBW.out hg3 HSZ.out (fun g e => (HOW.out.lt g e).1)
          go_roundw
          case rel => exact ⟨k + 1, by omega, by go_num, by rw [HS.out, HNX.out]; exact hown3, hb3⟩
          case measure => simp [intOf]; omega
        · skip
          go_simp
          refine hK.out _ _ trivial (fun _ => ?_)
          clear hK K
          refine wpAnyH_ready (rs := [5]) (by kernel_rfl) (by simp) ?_
          refine (AllReadyH.cons (o := { dst := some 67, op := Op.load 53 (Operand.tmp 66), type := 53, pos := "ref.go:118", after := #[{ on := 4, ground := Ground.data }], guard := none }) rfl (fun K hK => ?_) AllReadyH.nil)
          go_simp
          refine hK.out _ _ trivial (fun _ => ?_)
          clear hK K
          refine wpAnyH_take (i := 7) (oi := { dst := some 69, op := Op.binOp BinOp.add 53 (Operand.tmp 67) (Operand.tmp 68) 53, type := 53, pos := "ref.go:118", after := #[{ on := 5, ground := Ground.data }, { on := 6, ground := Ground.data }], guard := none }) (v := ?vc16) rfl (by kernel_rfl) (by kernel_rfl) (by kernel_rfl) (fun _ _ _ h => h) (Or.inl ⟨by rfl, ?yc16⟩) trivial ?_
          case yc16 =>
            intro w hSw
            go_simp; all_goals (with_reducible rfl)
          simp only [Act.put, List.setIfInBounds_toArray, List.set_cons_zero, List.set_cons_succ]
          rw [HN1.out]
          refine wpAnyH_take (i := 13) (oi := { dst := some 75, op := Op.binOp BinOp.add 53 (Operand.tmp 69) (Operand.tmp 74) 53, type := 53, pos := "ref.go:118", after := #[{ on := 7, ground := Ground.data }, { on := 12, ground := Ground.data }], guard := none }) (v := ?vc17) rfl (by kernel_rfl) (by kernel_rfl) (by kernel_rfl) (fun _ _ _ h => h) (Or.inl ⟨by rfl, ?yc17⟩) trivial ?_
          case yc17 =>
            intro w hSw
            go_simp; all_goals (with_reducible rfl)
          simp only [Act.put, List.setIfInBounds_toArray, List.set_cons_zero, List.set_cons_succ]
          rw [HN2.out]
          refine wpAnyH_take (i := 15) (oi := { dst := some 77, op := Op.binOp BinOp.add 53 (Operand.tmp 75) (Operand.tmp 76) 53, type := 53, pos := "ref.go:118", after := #[{ on := 13, ground := Ground.data }, { on := 14, ground := Ground.data }], guard := none }) (v := ?vc18) rfl (by kernel_rfl) (by kernel_rfl) (by kernel_rfl) (fun _ _ _ h => h) (Or.inl ⟨by rfl, ?yc18⟩) trivial ?_
          case yc18 =>
            intro w hSw
            go_simp; all_goals (with_reducible rfl)
          simp only [Act.put, List.setIfInBounds_toArray, List.set_cons_zero, List.set_cons_succ]
          rw [HN3.out]
          refine wpAnyH_ready (rs := [16]) (by kernel_rfl) (by simp) ?_
          refine (AllReadyH.cons (o := { dst := some 78, op := Op.buildSlice 62 1 #[(0, Operand.tmp 77)], type := 62, pos := "ref.go:118", after := #[{ on := 15, ground := Ground.data }], guard := none }) rfl (fun K hK => ?_) AllReadyH.nil)
          go_simp
          refine hK.out _ _ trivial (fun _ => ?_)
          clear hK K
          refine wpAnyH_ready (rs := [17]) (by kernel_rfl) (by simp) ?_
          refine (AllReadyH.cons (o := { dst := some 79, op := Op.call { callee := Callee.builtin Builtin.append, args := #[Operand.tmp 62, Operand.tmp 78], argTypes := #[62, 62] }, type := 62, pos := "ref.go:118", after := #[{ on := 0, ground := Ground.data }, { on := 16, ground := Ground.data }], guard := none }) rfl (fun K hK => ?_) AllReadyH.nil)
          refine step_append_vals elem32 rfl (.tmp 62) (.tmp 78) rfl w.heap.size (wr.drew.alloc (.cells #[U32 v] 53)) (.slice (some ⟨g, 0, none⟩) k cap) L rfl HOW.out wr.heap.size 1 1 [U32 v] rfl rfl HLC.out (one_int _) HLM1.out HLM2.out HSZ.out ?_
          intro v2 w3 hown3 hg3 _
          simp only [Act.put, List.setIfInBounds_toArray, List.set_cons_zero, List.set_cons_succ]
          refine hK.out _ _ trivial (fun _ => ?_)
          clear hK K
          refine wpAnyH_take (i := 18) (oi := { dst := some 3, op := Op.assign (Operand.tmp 79), type := 62, pos := "ref.go:118", after := #[{ on := 17, ground := Ground.data }, { on := 17, ground := Ground.chain }, { on := 0, ground := Ground.phase }, { on := 1, ground := Ground.phase }, { on := 2, ground := Ground.phase }, { on := 3, ground := Ground.phase }, { on := 4, ground := Ground.phase }, { on := 5, ground := Ground.phase }, { on := 6, ground := Ground.phase }, { on := 7, ground := Ground.phase }, { on := 8, ground := Ground.phase }, { on := 9, ground := Ground.phase }, { on := 10, ground := Ground.phase }, { on := 11, ground := Ground.phase }, { on := 12, ground := Ground.phase }, { on := 13, ground := Ground.phase }, { on := 14, ground := Ground.phase }, { on := 15, ground := Ground.phase }, { on := 16, ground := Ground.phase }, { on := 17, ground := Ground.phase }], guard := none }) (v := ?vc19) rfl (by kernel_rfl) (by kernel_rfl) (by kernel_rfl) (fun _ _ _ h => h) (Or.inl ⟨by rfl, ?yc19⟩) trivial ?_
          case yc19 =>
            intro w hSw
            go_simp; all_goals (with_reducible rfl)
          simp only [Act.put, List.setIfInBounds_toArray, List.set_cons_zero, List.set_cons_succ]
          refine wpAnyH_done (by kernel_rfl) ?_ _
          go_wp2_with fail
          have hb3 := below_grown2 HBW.out hg3 HSZ.out (fun g e => (HOW.out.lt g e).1)
          go_roundw
          case rel => exact ⟨k + 1, by omega, by go_num, by rw [HS.out, HNX.out]; exact hown3, hb3⟩
          case measure => simp [intOf]; omega
    · obtain rfl : k = 64 := by omega
      go_wp2_with fail
      go_ret
      exact ⟨_, rfl, hown, hb⟩
end Go.Proofs.YtibkhajhmncgkaaDoor
