/- The walks over the decoder's Out, choose, Bit and Done. -/
import Derived.Test.YtkckjjchfccdjaaMg1
import Derived.Test.YtkckjjchfccdjaaRdShift
namespace Go.Proofs.Ytkckjjchfccdjaa
set_option maxRecDepth 100000
open Go.RowKit

theorem DecIs.below {w w' : World} {g o cap : Nat} {l : List UInt8} {s : Rd.St} (h : DecIs w g o cap l s) (hb : Below w.heap.size w w') : DecIs w' g o cap l s := by
  obtain ⟨x, y, h1, h2⟩ := h; exact ⟨x, y, h1, h2.below hb⟩

set_option maxHeartbeats 400000 in
theorem out_at (g o cap : Nat) (l : List UInt8) (x y pos : Nat) (out : Bool) (w : World) (hE : DecAt w g o cap l x y pos out) :
    Calls Try.prog 72 #[.pointer (some ⟨g, 0, none⟩)] w fun e w' => e = .returned (.bool out) ∧ w = w' := by
  have k4 := c54 hE.blk
  go_enter Try.func72, Try.ntmps72
  go_wp2_with fail
  go_ret
  exact ⟨rfl, rfl⟩
theorem out_any (g o cap : Nat) (l : List UInt8) (s : Rd.St) (w : World) (hE : DecIs w g o cap l s) :
    Calls Try.prog 72 #[.pointer (some ⟨g, 0, none⟩)] w fun e w' => e = .returned (.bool s.out) ∧ w = w' := by
  obtain ⟨x, y, _, hT⟩ := hE
  exact out_at g o cap l x y _ _ w hT
set_option maxHeartbeats 400000 in
theorem out_nil (w : World) : Calls Try.prog 72 #[.pointer none] w fun e w' => e = .returned (.bool true) ∧ w = w' := by
  go_enter Try.func72, Try.ntmps72
  go_wp2_with fail
  go_ret
  exact ⟨rfl, rfl⟩

/-- What choose comes to. -/
def Chose (w : World) (g o cap : Nat) (l : List UInt8) (b : Bool) (s : Rd.St) (e : Ending) (w' : World) : Prop := e = .returned (.int .i64 (bitI b)) ∧ Moved w g o cap l s w'

set_option maxRecDepth 100000 in
set_option maxHeartbeats 1000000 in
theorem choose_any (g o cap : Nat) (l : List UInt8) (s : Rd.St) (p : Nat) (w : World) (hE : DecIs w g o cap l s) (hs : s.ok l) (hl : l.length ≤ 140737488355328) (h1 : 1 ≤ p) (h2 : p ≤ 2047) :
    Calls Try.prog 138 #[.pointer (some ⟨g, 0, none⟩), .int .u16 (p : Nat)] w (Chose w g o cap l (s.bit l p).1 (s.bit l p).2) := by
  obtain ⟨x, y, hxy, hT⟩ := hE
  obtain ⟨pos, c, r, out⟩ := s
  have hO := Lib.hid (out_at g o cap l x y pos out w hT)
  cases out with
  | true =>
    have hb : (Rd.St.bit l ⟨pos, c, r, true⟩ p) = (false, ⟨pos, c, r, true⟩) := rfl
    rw [hb]
    have hT0 : DecAt w g o cap l x y pos true := hT
    clear hT hxy hb hs
    go_enter Try.func138, Try.ntmps138
    go_wp2_with fail
    refine hO.out.mono ?_
    rintro e w' ⟨rfl, rfl⟩
    go_wp2_with fail
    go_ret
    exact ⟨rfl, ⟨x, y, (fun h => by cases h), hT0⟩, Only.refl _ _⟩
  | false =>
    obtain rfl : c = x := (hxy rfl).1.symm
    obtain rfl : r = y := (hxy rfl).2.symm
    have hT0 : DecAt w g o cap l c r pos false := hT
    have hb : (Rd.St.bit l ⟨pos, c, r, false⟩ p) = (Rd.St.one ⟨pos, c, r, false⟩ p, Rd.scale l 2 (Rd.St.pick ⟨pos, c, r, false⟩ p)) := rfl
    obtain ⟨hpf, hpr⟩ := Rd.St.pick_fits hs rfl h1 h2
    have hr32 : r < 4294967296 := hs.1.2.2
    have hc32 : c < 4294967296 := hs.1.2.1
    have hbd := bound_u32 r p hr32 h2
    have hble : r / 2048 * p ≤ r / 2048 * 2047 := Nat.mul_le_mul_left _ h2
    have k0 := c50 hT0.blk
    have k1 := c51 hT0.blk
    have f0 := frozen_of_row w g 0 _ _ hT0.blk
    have f1 := frozen_of_row w g 1 _ _ hT0.blk
    rw [hb]
    clear hb hT hxy hs
    by_cases hlt : r / 2048 * p ≤ c
    · have hone : Rd.St.one ⟨pos, c, r, false⟩ p = true := decide_eq_true hlt
      have hpk : Rd.St.pick ⟨pos, c, r, false⟩ p = ⟨pos, c - r / 2048 * p, r - r / 2048 * p, false⟩ := if_pos hlt
      rw [hone]
      rw [hpk] at hpf hpr ⊢
      have hbr : r / 2048 * p ≤ r := by omega
      clear hone hpk
      generalize r / 2048 * p = bnd at *
      have hn : ¬ (c : Int) < (bnd : Int) := by omega
      have e1 : (c : Int) - (bnd : Int) = ((c - bnd : Nat) : Int) := by omega
      have e2 : (r : Int) - (bnd : Int) = ((r - bnd : Nat) : Int) := by omega
      have hT1 : DecAt ((w.setCell ⟨g, 0, none⟩ (.int .u32 ((c - bnd : Nat) : Int))).setCell ⟨g, 1, none⟩ (.int .u32 ((r - bnd : Nat) : Int))) g o cap l (c - bnd) (r - bnd) pos false :=
        ⟨s51 (s50 hT0.blk _) _, bytes_set (bytes_set hT0.own hT0.ne _) hT0.ne _, hT0.ne, by simpa using hT0.lt⟩
      have hsh := Lib.hid (dshift_any 2 g o cap l ⟨pos, c - bnd, r - bnd, false⟩ _ ⟨_, _, (fun _ => ⟨rfl, rfl⟩), hT1⟩ hpf hl (fun _ => by show 16777216 ≤ (r - bnd) * 256 ^ 2; have : 8192 ≤ r - bnd := hpr; omega))
      have k1' := c51 (s50 hT0.blk (.int .u32 ((c - bnd : Nat) : Int)))
      have f1' := frozen_of_row (w.setCell ⟨g, 0, none⟩ (.int .u32 ((c - bnd : Nat) : Int))) g 1 _ _ (s50 hT0.blk (.int .u32 ((c - bnd : Nat) : Int)))
      have hcb : c - bnd < 4294967296 := by omega
      have hrb : r - bnd < 4294967296 := by omega
      generalize c - bnd = cb at *
      generalize r - bnd = rb at *
      go_enter Try.func138, Try.ntmps138
      go_wp2_with fail
      refine hO.out.mono ?_
      rintro e w' ⟨rfl, rfl⟩
      go_wp2_with fail
      refine hsh.out.mono ?_
      rintro e w1 ⟨rfl, hE2, hon⟩
      go_wp2_with fail
      go_ret
      exact ⟨rfl, hE2, ((((Only.refl _ _).setCell (p := ⟨g, 0, none⟩) (.inl (by simp)) _).setCell (p := ⟨g, 1, none⟩) (.inl (by simp)) _).trans hon (by simp))⟩
    · have hone : Rd.St.one ⟨pos, c, r, false⟩ p = false := decide_eq_false hlt
      have hpk : Rd.St.pick ⟨pos, c, r, false⟩ p = ⟨pos, c, r / 2048 * p, false⟩ := if_neg hlt
      rw [hone]
      rw [hpk] at hpf hpr ⊢
      clear hone hpk
      generalize r / 2048 * p = bnd at *
      have hn : (c : Int) < (bnd : Int) := by omega
      have hT1 : DecAt (w.setCell ⟨g, 1, none⟩ (.int .u32 (bnd : Nat))) g o cap l c bnd pos false :=
        ⟨s51 hT0.blk _, bytes_set hT0.own hT0.ne _, hT0.ne, by simpa using hT0.lt⟩
      have hsh := Lib.hid (dshift_any 2 g o cap l ⟨pos, c, bnd, false⟩ _ ⟨_, _, (fun _ => ⟨rfl, rfl⟩), hT1⟩ hpf hl (fun _ => by show 16777216 ≤ bnd * 256 ^ 2; have : 8192 ≤ bnd := hpr; omega))
      go_enter Try.func138, Try.ntmps138
      go_wp2_with fail
      refine hO.out.mono ?_
      rintro e w' ⟨rfl, rfl⟩
      go_wp2_with fail
      refine hsh.out.mono ?_
      rintro e w1 ⟨rfl, hE2, hon⟩
      go_wp2_with fail
      go_ret
      exact ⟨rfl, hE2, ((Only.refl _ _).setCell (p := ⟨g, 1, none⟩) (.inl (by simp)) _).trans hon (by simp)⟩

/-- What Bit comes to. -/
def DBit (w : World) (g o cap : Nat) (l : List UInt8) (b : Bool) (p : Nat) (s : Rd.St) (e : Ending) (w' : World) : Prop :=
  e = .returned (.tuple #[.int .i64 (bitI b), .int .u16 (p : Nat)]) ∧ Moved w g o cap l s w'

theorem dbit_tail {b : Bool} {p : Nat} (h1 : 1 ≤ p) (h2 : p ≤ 2047) : ((Rc.next p b : Nat) : Int) = if b then (p : Int) - (p : Int) / 32 else (p : Int) + (2048 - (p : Int)) / 32 := by
  unfold Rc.next; cases b <;> simp <;> omega

set_option maxRecDepth 100000 in
set_option maxHeartbeats 1000000 in
theorem dbit_any (g o cap : Nat) (l : List UInt8) (s : Rd.St) (c : BitVec 16) (n : Int) (w : World) (hE : DecIs w g o cap l s) (hs : s.ok l) (hl : l.length ≤ 140737488355328) :
    Calls Try.prog 135 #[.pointer (some ⟨g, 0, none⟩), .int .u16 c.toNat, .int .i64 n] w
      (DBit w g o cap l (s.bit l (Rc.fair c.toNat)).1 (Rc.next (Rc.fair c.toNat) (s.bit l (Rc.fair c.toNat)).1) (s.bit l (Rc.fair c.toNat)).2) := by
  obtain ⟨hp1, hp2⟩ := Rc.fair_bounds c.toNat
  have hch := Lib.hid (choose_any g o cap l s (Rc.fair c.toNat) w hE hs hl hp1 hp2)
  have hc := c.isLt
  have hnx := dbit_tail (b := (s.bit l (Rc.fair c.toNat)).1) hp1 hp2
  generalize (s.bit l (Rc.fair c.toNat)).2 = s' at *
  generalize (s.bit l (Rc.fair c.toNat)).1 = b at *
  have hfair : ((Rc.fair c.toNat : Nat) : Int) = if (c.toNat : Int) < 1 ∨ 2048 ≤ (c.toNat : Int) then 1024 else c.toNat := by
    unfold Rc.fair; split <;> split <;> omega
  generalize Rc.fair c.toNat = p at *
  have HF := Lib.hid hfair
  generalize hN : Rc.next p b = nx at *
  have HN := Lib.hid hnx
  clear hE hs hfair hnx hN
  by_cases h1 : (c.toNat : Int) < 1
  · have hp0 : p = 1024 := by have := HF.out; rw [if_pos (.inl h1)] at this; omega
    subst hp0
    clear HF
    cases b with
    | false =>
      have hn : (nx : Int) = 1024 + (2048 - 1024) / 32 := HN.out
      have HN2 := Lib.hid hn
      clear hn HN
      go_enter Try.func135, Try.ntmps135
      go_wp2_with fail
      refine hch.out.mono ?_
      rintro e w' ⟨rfl, hmv⟩
      rw [show bitI false = 0 from rfl]
      go_wp2_with fail
      go_ret2
      exact ⟨congrArg (fun n : Int => Ending.returned (.tuple #[.int .i64 0, .int .u16 n])) HN2.out.symm, hmv⟩
    | true =>
      have hn : (nx : Int) = 1024 - 1024 / 32 := HN.out
      have HN2 := Lib.hid hn
      clear hn HN
      go_enter Try.func135, Try.ntmps135
      go_wp2_with fail
      refine hch.out.mono ?_
      rintro e w' ⟨rfl, hmv⟩
      rw [show bitI true = 1 from rfl]
      go_wp2_with fail
      go_ret2
      exact ⟨congrArg (fun n : Int => Ending.returned (.tuple #[.int .i64 1, .int .u16 n])) HN2.out.symm, hmv⟩
  by_cases h2 : 2048 ≤ (c.toNat : Int)
  · have hp0 : p = 1024 := by have := HF.out; rw [if_pos (.inr h2)] at this; omega
    subst hp0
    clear HF
    cases b with
    | false =>
      have hn : (nx : Int) = 1024 + (2048 - 1024) / 32 := HN.out
      have HN2 := Lib.hid hn
      clear hn HN
      go_enter Try.func135, Try.ntmps135
      go_wp2_with fail
      refine hch.out.mono ?_
      rintro e w' ⟨rfl, hmv⟩
      rw [show bitI false = 0 from rfl]
      go_wp2_with fail
      go_ret2
      exact ⟨congrArg (fun n : Int => Ending.returned (.tuple #[.int .i64 0, .int .u16 n])) HN2.out.symm, hmv⟩
    | true =>
      have hn : (nx : Int) = 1024 - 1024 / 32 := HN.out
      have HN2 := Lib.hid hn
      clear hn HN
      go_enter Try.func135, Try.ntmps135
      go_wp2_with fail
      refine hch.out.mono ?_
      rintro e w' ⟨rfl, hmv⟩
      rw [show bitI true = 1 from rfl]
      go_wp2_with fail
      go_ret2
      exact ⟨congrArg (fun n : Int => Ending.returned (.tuple #[.int .i64 1, .int .u16 n])) HN2.out.symm, hmv⟩
  have hp0 : p = c.toNat := by have := HF.out; rw [if_neg (by omega)] at this; omega
  subst hp0
  clear HF
  cases b with
  | false =>
    have hn : (nx : Int) = (c.toNat : Int) + (2048 - (c.toNat : Int)) / 32 := HN.out
    have HN2 := Lib.hid hn
    clear hn HN
    go_enter Try.func135, Try.ntmps135
    go_wp2_with fail
    refine hch.out.mono ?_
    rintro e w' ⟨rfl, hmv⟩
    rw [show bitI false = 0 from rfl]
    go_wp2_with fail
    go_ret2
    exact ⟨congrArg (fun n : Int => Ending.returned (.tuple #[.int .i64 0, .int .u16 n])) HN2.out.symm, hmv⟩
  | true =>
    have hn : (nx : Int) = (c.toNat : Int) - (c.toNat : Int) / 32 := HN.out
    have HN2 := Lib.hid hn
    clear hn HN
    go_enter Try.func135, Try.ntmps135
    go_wp2_with fail
    refine hch.out.mono ?_
    rintro e w' ⟨rfl, hmv⟩
    rw [show bitI true = 1 from rfl]
    go_wp2_with fail
    go_ret2
    exact ⟨congrArg (fun n : Int => Ending.returned (.tuple #[.int .i64 1, .int .u16 n])) HN2.out.symm, hmv⟩

/-- What a question comes to: memory is as it was. -/
def Says (w : World) (b : Bool) (e : Ending) (w' : World) : Prop := e = .returned (.bool b) ∧ Below w.heap.size w w'

set_option maxRecDepth 100000 in
set_option maxHeartbeats 1000000 in
theorem done_any (g o cap : Nat) (l : List UInt8) (s : Rd.St) (w : World) (hE : DecIs w g o cap l s) :
    Calls Try.prog 53 #[.pointer (some ⟨g, 0, none⟩)] w (Says w (s.done l)) := by
  obtain ⟨x, y, hxy, hT0⟩ := hE
  obtain ⟨pos, c, r, out⟩ := s
  have hT : DecAt w g o cap l x y pos out := hT0
  have hO := Lib.hid (fun w' (h : DecAt w' g o cap l x y pos out) => out_at g o cap l x y pos out w' h)
  have k0 : w.drew.cell? ⟨g, 0, none⟩ = some (.int .u32 (x : Nat)) := c50 hT.blk
  have k2 : w.drew.cell? ⟨g, 2, none⟩ = some (.slice (some ⟨o, 0, none⟩) l.length cap) := c52 hT.blk
  have k3 : w.drew.cell? ⟨g, 3, none⟩ = some (.int .i64 (pos : Nat)) := c53 hT.blk
  clear hT0
  cases out with
  | true =>
    rw [show Rd.St.done l ⟨pos, c, r, true⟩ = false from rfl]
    clear hxy
    generalize l.length = L at k2
    go_enter Try.func53, Try.ntmps53
    go_wp2_with fail
    refine wp_region_held_drew (S := fun w' => w'.cell? ⟨g, 0, none⟩ = some (.int .u32 (x : Nat)) ∧ w'.cell? ⟨g, 2, none⟩ = some (.slice (some ⟨o, 0, none⟩) L cap) ∧ w'.cell? ⟨g, 3, none⟩ = some (.int .i64 (pos : Nat))) (by kernel_rfl) ⟨k0, k2, k3⟩ (fun hS => ?_)
    refine tk 0 (v := ?va1) ?ya1 hS ?_
    case ya1 =>
      intro w hSw
      go_simp; all_goals (with_reducible rfl)
    simp only [Act.put, List.setIfInBounds_toArray, List.set_cons_zero, List.set_cons_succ]
    refine wpAnyH_ready (rs := [1]) (by kernel_rfl) (by simp) ?_
    refine (AllReadyH.cons (o := { dst := some 4, op := Op.call { callee := Callee.value (Operand.func 72), args := #[Operand.tmp 3], argTypes := #[134] }, type := 4, pos := "rcdec.go:76", after := #[{ on := 0, ground := Ground.data }], guard := none }) rfl (fun K hK => ?_) AllReadyH.nil)
    go_simp
    refine (hO.out _ (hT.below (drew_below _))).mono ?_
    rintro e w2 ⟨rfl, rfl⟩
    go_wp2_with fail
    refine hK.out _ _ hS (fun _ => ?_)
    clear hK K
    refine tk 2 (v := ?va2) ?ya2 hS ?_
    case ya2 =>
      intro w hSw
      go_simp; all_goals (with_reducible rfl)
    simp only [Act.put, List.setIfInBounds_toArray, List.set_cons_zero, List.set_cons_succ]
    refine tk 3 (v := ?va3) ?ya3 hS ?_
    case ya3 =>
      intro w hSw
      go_simp; all_goals (with_reducible rfl)
    simp only [Act.put, List.setIfInBounds_toArray, List.set_cons_zero, List.set_cons_succ]
    refine wpAnyH_take (i := 4) (oi := { dst := some 7, op := Op.move (Operand.tmp 0), type := 134, pos := "rcdec.go:76", after := #[{ on := 3, ground := Ground.guard }], guard := some (3, true) }) (v := undef) rfl (by kernel_rfl) (by kernel_rfl) (by kernel_rfl) (fun _ _ _ h => h) (Or.inr ⟨by rfl, rfl⟩) hS ?_
    simp only [Act.put, List.setIfInBounds_toArray, List.set_cons_zero, List.set_cons_succ]
    refine wpAnyH_take (i := 5) (oi := { dst := some 8, op := Op.nilCheck (Operand.tmp 7), type := 0, pos := "rcdec.go:76", after := #[{ on := 4, ground := Ground.data }, { on := 3, ground := Ground.guard }], guard := some (3, true) }) (v := undef) rfl (by kernel_rfl) (by kernel_rfl) (by kernel_rfl) (fun _ _ _ h => h) (Or.inr ⟨by rfl, rfl⟩) hS ?_
    simp only [Act.put, List.setIfInBounds_toArray, List.set_cons_zero, List.set_cons_succ]
    refine wpAnyH_take (i := 6) (oi := { dst := some 9, op := Op.fieldAddr 152 (Operand.tmp 8) 3, type := 0, pos := "rcdec.go:76", after := #[{ on := 5, ground := Ground.data }, { on := 3, ground := Ground.guard }], guard := some (3, true) }) (v := undef) rfl (by kernel_rfl) (by kernel_rfl) (by kernel_rfl) (fun _ _ _ h => h) (Or.inr ⟨by rfl, rfl⟩) hS ?_
    simp only [Act.put, List.setIfInBounds_toArray, List.set_cons_zero, List.set_cons_succ]
    refine wpAnyH_take (i := 7) (oi := { dst := some 10, op := Op.load 3 (Operand.tmp 9), type := 3, pos := "rcdec.go:76", after := #[{ on := 6, ground := Ground.data }, { on := 3, ground := Ground.guard }], guard := some (3, true) }) (v := undef) rfl (by kernel_rfl) (by kernel_rfl) (by kernel_rfl) (fun _ _ _ h => h) (Or.inr ⟨by rfl, rfl⟩) hS ?_
    simp only [Act.put, List.setIfInBounds_toArray, List.set_cons_zero, List.set_cons_succ]
    refine wpAnyH_take (i := 8) (oi := { dst := some 11, op := Op.move (Operand.tmp 0), type := 134, pos := "rcdec.go:76", after := #[{ on := 3, ground := Ground.guard }], guard := some (3, true) }) (v := undef) rfl (by kernel_rfl) (by kernel_rfl) (by kernel_rfl) (fun _ _ _ h => h) (Or.inr ⟨by rfl, rfl⟩) hS ?_
    simp only [Act.put, List.setIfInBounds_toArray, List.set_cons_zero, List.set_cons_succ]
    refine wpAnyH_take (i := 9) (oi := { dst := some 12, op := Op.nilCheck (Operand.tmp 11), type := 0, pos := "rcdec.go:76", after := #[{ on := 8, ground := Ground.data }, { on := 3, ground := Ground.guard }], guard := some (3, true) }) (v := undef) rfl (by kernel_rfl) (by kernel_rfl) (by kernel_rfl) (fun _ _ _ h => h) (Or.inr ⟨by rfl, rfl⟩) hS ?_
    simp only [Act.put, List.setIfInBounds_toArray, List.set_cons_zero, List.set_cons_succ]
    refine wpAnyH_take (i := 10) (oi := { dst := some 13, op := Op.fieldAddr 152 (Operand.tmp 12) 2, type := 0, pos := "rcdec.go:76", after := #[{ on := 9, ground := Ground.data }, { on := 3, ground := Ground.guard }], guard := some (3, true) }) (v := undef) rfl (by kernel_rfl) (by kernel_rfl) (by kernel_rfl) (fun _ _ _ h => h) (Or.inr ⟨by rfl, rfl⟩) hS ?_
    simp only [Act.put, List.setIfInBounds_toArray, List.set_cons_zero, List.set_cons_succ]
    refine wpAnyH_take (i := 11) (oi := { dst := some 14, op := Op.load 22 (Operand.tmp 13), type := 22, pos := "rcdec.go:76", after := #[{ on := 10, ground := Ground.data }, { on := 3, ground := Ground.guard }], guard := some (3, true) }) (v := undef) rfl (by kernel_rfl) (by kernel_rfl) (by kernel_rfl) (fun _ _ _ h => h) (Or.inr ⟨by rfl, rfl⟩) hS ?_
    simp only [Act.put, List.setIfInBounds_toArray, List.set_cons_zero, List.set_cons_succ]
    refine wpAnyH_take (i := 12) (oi := { dst := some 15, op := Op.call { callee := Callee.builtin Builtin.len, args := #[Operand.tmp 14], argTypes := #[22] }, type := 3, pos := "rcdec.go:76", after := #[{ on := 11, ground := Ground.data }, { on := 3, ground := Ground.guard }], guard := some (3, true) }) (v := undef) rfl (by kernel_rfl) (by kernel_rfl) (by kernel_rfl) (fun _ _ _ h => h) (Or.inr ⟨by rfl, rfl⟩) hS ?_
    simp only [Act.put, List.setIfInBounds_toArray, List.set_cons_zero, List.set_cons_succ]
    refine wpAnyH_take (i := 13) (oi := { dst := some 16, op := Op.binOp BinOp.eql 3 (Operand.tmp 10) (Operand.tmp 15) 3, type := 4, pos := "rcdec.go:76", after := #[{ on := 7, ground := Ground.data }, { on := 12, ground := Ground.data }, { on := 3, ground := Ground.guard }], guard := some (3, true) }) (v := undef) rfl (by kernel_rfl) (by kernel_rfl) (by kernel_rfl) (fun _ _ _ h => h) (Or.inr ⟨by rfl, rfl⟩) hS ?_
    simp only [Act.put, List.setIfInBounds_toArray, List.set_cons_zero, List.set_cons_succ]
    refine tk 14 (v := ?va14) ?ya14 hS ?_
    case ya14 =>
      intro w hSw
      go_simp; all_goals (with_reducible rfl)
    simp only [Act.put, List.setIfInBounds_toArray, List.set_cons_zero, List.set_cons_succ]
    refine tk 15 (v := ?va15) ?ya15 hS ?_
    case ya15 =>
      intro w hSw
      go_simp; all_goals (with_reducible rfl)
    simp only [Act.put, List.setIfInBounds_toArray, List.set_cons_zero, List.set_cons_succ]
    refine wpAnyH_take (i := 16) (oi := { dst := some 19, op := Op.move (Operand.tmp 0), type := 134, pos := "rcdec.go:76", after := #[{ on := 15, ground := Ground.guard }], guard := some (15, true) }) (v := undef) rfl (by kernel_rfl) (by kernel_rfl) (by kernel_rfl) (fun _ _ _ h => h) (Or.inr ⟨by rfl, rfl⟩) hS ?_
    simp only [Act.put, List.setIfInBounds_toArray, List.set_cons_zero, List.set_cons_succ]
    refine wpAnyH_take (i := 17) (oi := { dst := some 20, op := Op.nilCheck (Operand.tmp 19), type := 0, pos := "rcdec.go:76", after := #[{ on := 16, ground := Ground.data }, { on := 15, ground := Ground.guard }], guard := some (15, true) }) (v := undef) rfl (by kernel_rfl) (by kernel_rfl) (by kernel_rfl) (fun _ _ _ h => h) (Or.inr ⟨by rfl, rfl⟩) hS ?_
    simp only [Act.put, List.setIfInBounds_toArray, List.set_cons_zero, List.set_cons_succ]
    refine wpAnyH_take (i := 18) (oi := { dst := some 21, op := Op.fieldAddr 152 (Operand.tmp 20) 0, type := 0, pos := "rcdec.go:76", after := #[{ on := 17, ground := Ground.data }, { on := 15, ground := Ground.guard }], guard := some (15, true) }) (v := undef) rfl (by kernel_rfl) (by kernel_rfl) (by kernel_rfl) (fun _ _ _ h => h) (Or.inr ⟨by rfl, rfl⟩) hS ?_
    simp only [Act.put, List.setIfInBounds_toArray, List.set_cons_zero, List.set_cons_succ]
    refine wpAnyH_take (i := 19) (oi := { dst := some 22, op := Op.load 31 (Operand.tmp 21), type := 31, pos := "rcdec.go:76", after := #[{ on := 18, ground := Ground.data }, { on := 15, ground := Ground.guard }], guard := some (15, true) }) (v := undef) rfl (by kernel_rfl) (by kernel_rfl) (by kernel_rfl) (fun _ _ _ h => h) (Or.inr ⟨by rfl, rfl⟩) hS ?_
    simp only [Act.put, List.setIfInBounds_toArray, List.set_cons_zero, List.set_cons_succ]
    refine wpAnyH_take (i := 20) (oi := { dst := some 23, op := Op.binOp BinOp.eql 31 (Operand.tmp 22) (Operand.const (Value.int IntKind.u32 0)) 31, type := 4, pos := "rcdec.go:76", after := #[{ on := 19, ground := Ground.data }, { on := 15, ground := Ground.guard }], guard := some (15, true) }) (v := undef) rfl (by kernel_rfl) (by kernel_rfl) (by kernel_rfl) (fun _ _ _ h => h) (Or.inr ⟨by rfl, rfl⟩) hS ?_
    simp only [Act.put, List.setIfInBounds_toArray, List.set_cons_zero, List.set_cons_succ]
    refine tk 21 (v := ?va21) ?ya21 hS ?_
    case ya21 =>
      intro w hSw
      go_simp; all_goals (with_reducible rfl)
    simp only [Act.put, List.setIfInBounds_toArray, List.set_cons_zero, List.set_cons_succ]
    refine tk 22 (v := ?va22) ?ya22 hS ?_
    case ya22 =>
      intro w hSw
      go_simp; all_goals (with_reducible rfl)
    simp only [Act.put, List.setIfInBounds_toArray, List.set_cons_zero, List.set_cons_succ]
    refine wpAnyH_done (by kernel_rfl) ?_ _
    go_wp2_with fail
    go_ret
    exact ⟨rfl, (Below.refl _ _).drew⟩
  | false =>
    obtain rfl : c = x := (hxy rfl).1.symm
    have hd : Rd.St.done l ⟨pos, c, r, false⟩ = (pos == l.length && c == 0) := rfl
    rw [hd]
    clear hxy hd
    generalize l.length = L at k2 ⊢
    by_cases hp : pos = L
    · have hpi : ((pos : Int) == (L : Int)) = true := by simp [hp]
      by_cases hc : c = 0
      · have hci : ((c : Int) == 0) = true := by simp [hc]
        rw [show (pos == L && c == 0) = true by simp [hp, hc]]
        clear hp hc
        go_enter Try.func53, Try.ntmps53
        go_wp2_with fail
        refine wp_region_held_drew (S := fun w' => w'.cell? ⟨g, 0, none⟩ = some (.int .u32 (c : Nat)) ∧ w'.cell? ⟨g, 2, none⟩ = some (.slice (some ⟨o, 0, none⟩) L cap) ∧ w'.cell? ⟨g, 3, none⟩ = some (.int .i64 (pos : Nat))) (by kernel_rfl) ⟨k0, k2, k3⟩ (fun hS => ?_)
        refine tk 0 (v := ?vb23) ?yb23 hS ?_
        case yb23 =>
          intro w hSw
          go_simp; all_goals (with_reducible rfl)
        simp only [Act.put, List.setIfInBounds_toArray, List.set_cons_zero, List.set_cons_succ]
        refine wpAnyH_ready (rs := [1]) (by kernel_rfl) (by simp) ?_
        refine (AllReadyH.cons (o := { dst := some 4, op := Op.call { callee := Callee.value (Operand.func 72), args := #[Operand.tmp 3], argTypes := #[134] }, type := 4, pos := "rcdec.go:76", after := #[{ on := 0, ground := Ground.data }], guard := none }) rfl (fun K hK => ?_) AllReadyH.nil)
        go_simp
        refine (hO.out _ (hT.below (drew_below _))).mono ?_
        rintro e w2 ⟨rfl, rfl⟩
        go_wp2_with fail
        refine hK.out _ _ hS (fun _ => ?_)
        clear hK K
        refine tk 2 (v := ?vb24) ?yb24 hS ?_
        case yb24 =>
          intro w hSw
          go_simp; all_goals (with_reducible rfl)
        simp only [Act.put, List.setIfInBounds_toArray, List.set_cons_zero, List.set_cons_succ]
        refine tk 3 (v := ?vb25) ?yb25 hS ?_
        case yb25 =>
          intro w hSw
          go_simp; all_goals (with_reducible rfl)
        simp only [Act.put, List.setIfInBounds_toArray, List.set_cons_zero, List.set_cons_succ]
        refine tk 4 (v := ?vb26) ?yb26 hS ?_
        case yb26 =>
          intro w hSw
          go_simp; all_goals (with_reducible rfl)
        simp only [Act.put, List.setIfInBounds_toArray, List.set_cons_zero, List.set_cons_succ]
        refine tk 5 (v := ?vb27) ?yb27 hS ?_
        case yb27 =>
          intro w hSw
          go_simp; all_goals (with_reducible rfl)
        simp only [Act.put, List.setIfInBounds_toArray, List.set_cons_zero, List.set_cons_succ]
        refine tk 6 (v := ?vb28) ?yb28 hS ?_
        case yb28 =>
          intro w hSw
          go_simp; all_goals (with_reducible rfl)
        simp only [Act.put, List.setIfInBounds_toArray, List.set_cons_zero, List.set_cons_succ]
        refine tk 7 (v := ?vb29) ?yb29 hS ?_
        case yb29 =>
          intro w hSw
          obtain ⟨j0, j2, j3⟩ := hSw
          go_simp; all_goals (with_reducible rfl)
        simp only [Act.put, List.setIfInBounds_toArray, List.set_cons_zero, List.set_cons_succ]
        refine tk 8 (v := ?vb30) ?yb30 hS ?_
        case yb30 =>
          intro w hSw
          go_simp; all_goals (with_reducible rfl)
        simp only [Act.put, List.setIfInBounds_toArray, List.set_cons_zero, List.set_cons_succ]
        refine tk 9 (v := ?vb31) ?yb31 hS ?_
        case yb31 =>
          intro w hSw
          go_simp; all_goals (with_reducible rfl)
        simp only [Act.put, List.setIfInBounds_toArray, List.set_cons_zero, List.set_cons_succ]
        refine tk 10 (v := ?vb32) ?yb32 hS ?_
        case yb32 =>
          intro w hSw
          go_simp; all_goals (with_reducible rfl)
        simp only [Act.put, List.setIfInBounds_toArray, List.set_cons_zero, List.set_cons_succ]
        refine tk 11 (v := ?vb33) ?yb33 hS ?_
        case yb33 =>
          intro w hSw
          obtain ⟨j0, j2, j3⟩ := hSw
          go_simp; all_goals (with_reducible rfl)
        simp only [Act.put, List.setIfInBounds_toArray, List.set_cons_zero, List.set_cons_succ]
        refine tk 12 (v := ?vb34) ?yb34 hS ?_
        case yb34 =>
          intro w hSw
          go_simp; all_goals (with_reducible rfl)
        simp only [Act.put, List.setIfInBounds_toArray, List.set_cons_zero, List.set_cons_succ]
        refine tk 13 (v := ?vb35) ?yb35 hS ?_
        case yb35 =>
          intro w hSw
          go_simp; all_goals (with_reducible rfl)
        simp only [Act.put, List.setIfInBounds_toArray, List.set_cons_zero, List.set_cons_succ]
        refine tk 14 (v := ?vb36) ?yb36 hS ?_
        case yb36 =>
          intro w hSw
          go_simp; all_goals (with_reducible rfl)
        simp only [Act.put, List.setIfInBounds_toArray, List.set_cons_zero, List.set_cons_succ]
        refine tk 15 (v := ?vb37) ?yb37 hS ?_
        case yb37 =>
          intro w hSw
          go_simp; all_goals (with_reducible rfl)
        simp only [Act.put, List.setIfInBounds_toArray, List.set_cons_zero, List.set_cons_succ]
        refine tk 16 (v := ?vb38) ?yb38 hS ?_
        case yb38 =>
          intro w hSw
          go_simp; all_goals (with_reducible rfl)
        simp only [Act.put, List.setIfInBounds_toArray, List.set_cons_zero, List.set_cons_succ]
        refine tk 17 (v := ?vb39) ?yb39 hS ?_
        case yb39 =>
          intro w hSw
          go_simp; all_goals (with_reducible rfl)
        simp only [Act.put, List.setIfInBounds_toArray, List.set_cons_zero, List.set_cons_succ]
        refine tk 18 (v := ?vb40) ?yb40 hS ?_
        case yb40 =>
          intro w hSw
          go_simp; all_goals (with_reducible rfl)
        simp only [Act.put, List.setIfInBounds_toArray, List.set_cons_zero, List.set_cons_succ]
        refine tk 19 (v := ?vb41) ?yb41 hS ?_
        case yb41 =>
          intro w hSw
          obtain ⟨j0, j2, j3⟩ := hSw
          go_simp; all_goals (with_reducible rfl)
        simp only [Act.put, List.setIfInBounds_toArray, List.set_cons_zero, List.set_cons_succ]
        refine tk 20 (v := ?vb42) ?yb42 hS ?_
        case yb42 =>
          intro w hSw
          go_simp; all_goals (with_reducible rfl)
        simp only [Act.put, List.setIfInBounds_toArray, List.set_cons_zero, List.set_cons_succ]
        refine tk 21 (v := ?vb43) ?yb43 hS ?_
        case yb43 =>
          intro w hSw
          go_simp; all_goals (with_reducible rfl)
        simp only [Act.put, List.setIfInBounds_toArray, List.set_cons_zero, List.set_cons_succ]
        refine tk 22 (v := ?vb44) ?yb44 hS ?_
        case yb44 =>
          intro w hSw
          go_simp; all_goals (with_reducible rfl)
        simp only [Act.put, List.setIfInBounds_toArray, List.set_cons_zero, List.set_cons_succ]
        refine wpAnyH_done (by kernel_rfl) ?_ _
        go_wp2_with fail
        go_ret
        exact ⟨rfl, (Below.refl _ _).drew⟩
      · have hci : ((c : Int) == 0) = false := beq_eq_false_iff_ne.2 (by omega)
        rw [show (pos == L && c == 0) = false by simp [hc]]
        clear hp hc
        go_enter Try.func53, Try.ntmps53
        go_wp2_with fail
        refine wp_region_held_drew (S := fun w' => w'.cell? ⟨g, 0, none⟩ = some (.int .u32 (c : Nat)) ∧ w'.cell? ⟨g, 2, none⟩ = some (.slice (some ⟨o, 0, none⟩) L cap) ∧ w'.cell? ⟨g, 3, none⟩ = some (.int .i64 (pos : Nat))) (by kernel_rfl) ⟨k0, k2, k3⟩ (fun hS => ?_)
        refine tk 0 (v := ?vc45) ?yc45 hS ?_
        case yc45 =>
          intro w hSw
          go_simp; all_goals (with_reducible rfl)
        simp only [Act.put, List.setIfInBounds_toArray, List.set_cons_zero, List.set_cons_succ]
        refine wpAnyH_ready (rs := [1]) (by kernel_rfl) (by simp) ?_
        refine (AllReadyH.cons (o := { dst := some 4, op := Op.call { callee := Callee.value (Operand.func 72), args := #[Operand.tmp 3], argTypes := #[134] }, type := 4, pos := "rcdec.go:76", after := #[{ on := 0, ground := Ground.data }], guard := none }) rfl (fun K hK => ?_) AllReadyH.nil)
        go_simp
        refine (hO.out _ (hT.below (drew_below _))).mono ?_
        rintro e w2 ⟨rfl, rfl⟩
        go_wp2_with fail
        refine hK.out _ _ hS (fun _ => ?_)
        clear hK K
        refine tk 2 (v := ?vc46) ?yc46 hS ?_
        case yc46 =>
          intro w hSw
          go_simp; all_goals (with_reducible rfl)
        simp only [Act.put, List.setIfInBounds_toArray, List.set_cons_zero, List.set_cons_succ]
        refine tk 3 (v := ?vc47) ?yc47 hS ?_
        case yc47 =>
          intro w hSw
          go_simp; all_goals (with_reducible rfl)
        simp only [Act.put, List.setIfInBounds_toArray, List.set_cons_zero, List.set_cons_succ]
        refine tk 4 (v := ?vc48) ?yc48 hS ?_
        case yc48 =>
          intro w hSw
          go_simp; all_goals (with_reducible rfl)
        simp only [Act.put, List.setIfInBounds_toArray, List.set_cons_zero, List.set_cons_succ]
        refine tk 5 (v := ?vc49) ?yc49 hS ?_
        case yc49 =>
          intro w hSw
          go_simp; all_goals (with_reducible rfl)
        simp only [Act.put, List.setIfInBounds_toArray, List.set_cons_zero, List.set_cons_succ]
        refine tk 6 (v := ?vc50) ?yc50 hS ?_
        case yc50 =>
          intro w hSw
          go_simp; all_goals (with_reducible rfl)
        simp only [Act.put, List.setIfInBounds_toArray, List.set_cons_zero, List.set_cons_succ]
        refine tk 7 (v := ?vc51) ?yc51 hS ?_
        case yc51 =>
          intro w hSw
          obtain ⟨j0, j2, j3⟩ := hSw
          go_simp; all_goals (with_reducible rfl)
        simp only [Act.put, List.setIfInBounds_toArray, List.set_cons_zero, List.set_cons_succ]
        refine tk 8 (v := ?vc52) ?yc52 hS ?_
        case yc52 =>
          intro w hSw
          go_simp; all_goals (with_reducible rfl)
        simp only [Act.put, List.setIfInBounds_toArray, List.set_cons_zero, List.set_cons_succ]
        refine tk 9 (v := ?vc53) ?yc53 hS ?_
        case yc53 =>
          intro w hSw
          go_simp; all_goals (with_reducible rfl)
        simp only [Act.put, List.setIfInBounds_toArray, List.set_cons_zero, List.set_cons_succ]
        refine tk 10 (v := ?vc54) ?yc54 hS ?_
        case yc54 =>
          intro w hSw
          go_simp; all_goals (with_reducible rfl)
        simp only [Act.put, List.setIfInBounds_toArray, List.set_cons_zero, List.set_cons_succ]
        refine tk 11 (v := ?vc55) ?yc55 hS ?_
        case yc55 =>
          intro w hSw
          obtain ⟨j0, j2, j3⟩ := hSw
          go_simp; all_goals (with_reducible rfl)
        simp only [Act.put, List.setIfInBounds_toArray, List.set_cons_zero, List.set_cons_succ]
        refine tk 12 (v := ?vc56) ?yc56 hS ?_
        case yc56 =>
          intro w hSw
          go_simp; all_goals (with_reducible rfl)
        simp only [Act.put, List.setIfInBounds_toArray, List.set_cons_zero, List.set_cons_succ]
        refine tk 13 (v := ?vc57) ?yc57 hS ?_
        case yc57 =>
          intro w hSw
          go_simp; all_goals (with_reducible rfl)
        simp only [Act.put, List.setIfInBounds_toArray, List.set_cons_zero, List.set_cons_succ]
        refine tk 14 (v := ?vc58) ?yc58 hS ?_
        case yc58 =>
          intro w hSw
          go_simp; all_goals (with_reducible rfl)
        simp only [Act.put, List.setIfInBounds_toArray, List.set_cons_zero, List.set_cons_succ]
        refine tk 15 (v := ?vc59) ?yc59 hS ?_
        case yc59 =>
          intro w hSw
          go_simp; all_goals (with_reducible rfl)
        simp only [Act.put, List.setIfInBounds_toArray, List.set_cons_zero, List.set_cons_succ]
        refine tk 16 (v := ?vc60) ?yc60 hS ?_
        case yc60 =>
          intro w hSw
          go_simp; all_goals (with_reducible rfl)
        simp only [Act.put, List.setIfInBounds_toArray, List.set_cons_zero, List.set_cons_succ]
        refine tk 17 (v := ?vc61) ?yc61 hS ?_
        case yc61 =>
          intro w hSw
          go_simp; all_goals (with_reducible rfl)
        simp only [Act.put, List.setIfInBounds_toArray, List.set_cons_zero, List.set_cons_succ]
        refine tk 18 (v := ?vc62) ?yc62 hS ?_
        case yc62 =>
          intro w hSw
          go_simp; all_goals (with_reducible rfl)
        simp only [Act.put, List.setIfInBounds_toArray, List.set_cons_zero, List.set_cons_succ]
        refine tk 19 (v := ?vc63) ?yc63 hS ?_
        case yc63 =>
          intro w hSw
          obtain ⟨j0, j2, j3⟩ := hSw
          go_simp; all_goals (with_reducible rfl)
        simp only [Act.put, List.setIfInBounds_toArray, List.set_cons_zero, List.set_cons_succ]
        refine tk 20 (v := ?vc64) ?yc64 hS ?_
        case yc64 =>
          intro w hSw
          go_simp; all_goals (with_reducible rfl)
        simp only [Act.put, List.setIfInBounds_toArray, List.set_cons_zero, List.set_cons_succ]
        refine tk 21 (v := ?vc65) ?yc65 hS ?_
        case yc65 =>
          intro w hSw
          go_simp; all_goals (with_reducible rfl)
        simp only [Act.put, List.setIfInBounds_toArray, List.set_cons_zero, List.set_cons_succ]
        refine tk 22 (v := ?vc66) ?yc66 hS ?_
        case yc66 =>
          intro w hSw
          go_simp; all_goals (with_reducible rfl)
        simp only [Act.put, List.setIfInBounds_toArray, List.set_cons_zero, List.set_cons_succ]
        refine wpAnyH_done (by kernel_rfl) ?_ _
        go_wp2_with fail
        go_ret
        exact ⟨rfl, (Below.refl _ _).drew⟩
    · have hpi : ((pos : Int) == (L : Int)) = false := beq_eq_false_iff_ne.2 (by omega)
      rw [show (pos == L && c == 0) = false by simp [hp]]
      clear hp
      go_enter Try.func53, Try.ntmps53
      go_wp2_with fail
      refine wp_region_held_drew (S := fun w' => w'.cell? ⟨g, 0, none⟩ = some (.int .u32 (c : Nat)) ∧ w'.cell? ⟨g, 2, none⟩ = some (.slice (some ⟨o, 0, none⟩) L cap) ∧ w'.cell? ⟨g, 3, none⟩ = some (.int .i64 (pos : Nat))) (by kernel_rfl) ⟨k0, k2, k3⟩ (fun hS => ?_)
      refine tk 0 (v := ?vd67) ?yd67 hS ?_
      case yd67 =>
        intro w hSw
        go_simp; all_goals (with_reducible rfl)
      simp only [Act.put, List.setIfInBounds_toArray, List.set_cons_zero, List.set_cons_succ]
      refine wpAnyH_ready (rs := [1]) (by kernel_rfl) (by simp) ?_
      refine (AllReadyH.cons (o := { dst := some 4, op := Op.call { callee := Callee.value (Operand.func 72), args := #[Operand.tmp 3], argTypes := #[134] }, type := 4, pos := "rcdec.go:76", after := #[{ on := 0, ground := Ground.data }], guard := none }) rfl (fun K hK => ?_) AllReadyH.nil)
      go_simp
      refine (hO.out _ (hT.below (drew_below _))).mono ?_
      rintro e w2 ⟨rfl, rfl⟩
      go_wp2_with fail
      refine hK.out _ _ hS (fun _ => ?_)
      clear hK K
      refine tk 2 (v := ?vd68) ?yd68 hS ?_
      case yd68 =>
        intro w hSw
        go_simp; all_goals (with_reducible rfl)
      simp only [Act.put, List.setIfInBounds_toArray, List.set_cons_zero, List.set_cons_succ]
      refine tk 3 (v := ?vd69) ?yd69 hS ?_
      case yd69 =>
        intro w hSw
        go_simp; all_goals (with_reducible rfl)
      simp only [Act.put, List.setIfInBounds_toArray, List.set_cons_zero, List.set_cons_succ]
      refine tk 4 (v := ?vd70) ?yd70 hS ?_
      case yd70 =>
        intro w hSw
        go_simp; all_goals (with_reducible rfl)
      simp only [Act.put, List.setIfInBounds_toArray, List.set_cons_zero, List.set_cons_succ]
      refine tk 5 (v := ?vd71) ?yd71 hS ?_
      case yd71 =>
        intro w hSw
        go_simp; all_goals (with_reducible rfl)
      simp only [Act.put, List.setIfInBounds_toArray, List.set_cons_zero, List.set_cons_succ]
      refine tk 6 (v := ?vd72) ?yd72 hS ?_
      case yd72 =>
        intro w hSw
        go_simp; all_goals (with_reducible rfl)
      simp only [Act.put, List.setIfInBounds_toArray, List.set_cons_zero, List.set_cons_succ]
      refine tk 7 (v := ?vd73) ?yd73 hS ?_
      case yd73 =>
        intro w hSw
        obtain ⟨j0, j2, j3⟩ := hSw
        go_simp; all_goals (with_reducible rfl)
      simp only [Act.put, List.setIfInBounds_toArray, List.set_cons_zero, List.set_cons_succ]
      refine tk 8 (v := ?vd74) ?yd74 hS ?_
      case yd74 =>
        intro w hSw
        go_simp; all_goals (with_reducible rfl)
      simp only [Act.put, List.setIfInBounds_toArray, List.set_cons_zero, List.set_cons_succ]
      refine tk 9 (v := ?vd75) ?yd75 hS ?_
      case yd75 =>
        intro w hSw
        go_simp; all_goals (with_reducible rfl)
      simp only [Act.put, List.setIfInBounds_toArray, List.set_cons_zero, List.set_cons_succ]
      refine tk 10 (v := ?vd76) ?yd76 hS ?_
      case yd76 =>
        intro w hSw
        go_simp; all_goals (with_reducible rfl)
      simp only [Act.put, List.setIfInBounds_toArray, List.set_cons_zero, List.set_cons_succ]
      refine tk 11 (v := ?vd77) ?yd77 hS ?_
      case yd77 =>
        intro w hSw
        obtain ⟨j0, j2, j3⟩ := hSw
        go_simp; all_goals (with_reducible rfl)
      simp only [Act.put, List.setIfInBounds_toArray, List.set_cons_zero, List.set_cons_succ]
      refine tk 12 (v := ?vd78) ?yd78 hS ?_
      case yd78 =>
        intro w hSw
        go_simp; all_goals (with_reducible rfl)
      simp only [Act.put, List.setIfInBounds_toArray, List.set_cons_zero, List.set_cons_succ]
      refine tk 13 (v := ?vd79) ?yd79 hS ?_
      case yd79 =>
        intro w hSw
        go_simp; all_goals (with_reducible rfl)
      simp only [Act.put, List.setIfInBounds_toArray, List.set_cons_zero, List.set_cons_succ]
      refine tk 14 (v := ?vd80) ?yd80 hS ?_
      case yd80 =>
        intro w hSw
        go_simp; all_goals (with_reducible rfl)
      simp only [Act.put, List.setIfInBounds_toArray, List.set_cons_zero, List.set_cons_succ]
      refine tk 15 (v := ?vd81) ?yd81 hS ?_
      case yd81 =>
        intro w hSw
        go_simp; all_goals (with_reducible rfl)
      simp only [Act.put, List.setIfInBounds_toArray, List.set_cons_zero, List.set_cons_succ]
      refine wpAnyH_take (i := 16) (oi := { dst := some 19, op := Op.move (Operand.tmp 0), type := 134, pos := "rcdec.go:76", after := #[{ on := 15, ground := Ground.guard }], guard := some (15, true) }) (v := undef) rfl (by kernel_rfl) (by kernel_rfl) (by kernel_rfl) (fun _ _ _ h => h) (Or.inr ⟨by rfl, rfl⟩) hS ?_
      simp only [Act.put, List.setIfInBounds_toArray, List.set_cons_zero, List.set_cons_succ]
      refine wpAnyH_take (i := 17) (oi := { dst := some 20, op := Op.nilCheck (Operand.tmp 19), type := 0, pos := "rcdec.go:76", after := #[{ on := 16, ground := Ground.data }, { on := 15, ground := Ground.guard }], guard := some (15, true) }) (v := undef) rfl (by kernel_rfl) (by kernel_rfl) (by kernel_rfl) (fun _ _ _ h => h) (Or.inr ⟨by rfl, rfl⟩) hS ?_
      simp only [Act.put, List.setIfInBounds_toArray, List.set_cons_zero, List.set_cons_succ]
      refine wpAnyH_take (i := 18) (oi := { dst := some 21, op := Op.fieldAddr 152 (Operand.tmp 20) 0, type := 0, pos := "rcdec.go:76", after := #[{ on := 17, ground := Ground.data }, { on := 15, ground := Ground.guard }], guard := some (15, true) }) (v := undef) rfl (by kernel_rfl) (by kernel_rfl) (by kernel_rfl) (fun _ _ _ h => h) (Or.inr ⟨by rfl, rfl⟩) hS ?_
      simp only [Act.put, List.setIfInBounds_toArray, List.set_cons_zero, List.set_cons_succ]
      refine wpAnyH_take (i := 19) (oi := { dst := some 22, op := Op.load 31 (Operand.tmp 21), type := 31, pos := "rcdec.go:76", after := #[{ on := 18, ground := Ground.data }, { on := 15, ground := Ground.guard }], guard := some (15, true) }) (v := undef) rfl (by kernel_rfl) (by kernel_rfl) (by kernel_rfl) (fun _ _ _ h => h) (Or.inr ⟨by rfl, rfl⟩) hS ?_
      simp only [Act.put, List.setIfInBounds_toArray, List.set_cons_zero, List.set_cons_succ]
      refine wpAnyH_take (i := 20) (oi := { dst := some 23, op := Op.binOp BinOp.eql 31 (Operand.tmp 22) (Operand.const (Value.int IntKind.u32 0)) 31, type := 4, pos := "rcdec.go:76", after := #[{ on := 19, ground := Ground.data }, { on := 15, ground := Ground.guard }], guard := some (15, true) }) (v := undef) rfl (by kernel_rfl) (by kernel_rfl) (by kernel_rfl) (fun _ _ _ h => h) (Or.inr ⟨by rfl, rfl⟩) hS ?_
      simp only [Act.put, List.setIfInBounds_toArray, List.set_cons_zero, List.set_cons_succ]
      refine tk 21 (v := ?vd87) ?yd87 hS ?_
      case yd87 =>
        intro w hSw
        go_simp; all_goals (with_reducible rfl)
      simp only [Act.put, List.setIfInBounds_toArray, List.set_cons_zero, List.set_cons_succ]
      refine tk 22 (v := ?vd88) ?yd88 hS ?_
      case yd88 =>
        intro w hSw
        go_simp; all_goals (with_reducible rfl)
      simp only [Act.put, List.setIfInBounds_toArray, List.set_cons_zero, List.set_cons_succ]
      refine wpAnyH_done (by kernel_rfl) ?_ _
      go_wp2_with fail
      go_ret
      exact ⟨rfl, (Below.refl _ _).drew⟩

end Go.Proofs.Ytkckjjchfccdjaa
