/- The contract of the law RcencCodes. -/
import Derived.Test.YteiglcgkhcmkeaaRcSame
import Derived.Test.YteiglcgkhcmkeaaRcRefPlain
import Derived.Test.YteiglcgkhcmkeaaRcDeed
namespace Go.Proofs.Yteiglcgkhcmkeaa
open Go.RowKit

/-- The reference has coded, and then the coder has. -/
theorem Both.step2 {wr w1 w2 : World} {g h o cap o2 cap2 : Nat} {s s' : Rc.St} (hE : EncAt wr g o cap s) (hR : RefAt wr h o2 cap2 s) (h1 : g ≠ h) (h2 : g ≠ o2) (h3 : o ≠ h) (h4 : o ≠ o2)
    (hS : RefDone wr h o2 s' w1) : EncAt w1 g o cap s ∧ (Shifted w1 g o s' w2 → ∃ o' cap' o2' cap2', EncAt w2 g o' cap' s' ∧ RefAt w2 h o2' cap2' s' ∧ g ≠ o2' ∧ o' ≠ h ∧ o' ≠ o2' ∧ (o' = o ∨ wr.heap.size ≤ o') ∧ (o2' = o2 ∨ wr.heap.size ≤ o2')) := by
  obtain ⟨o2', cap2', hR1, hon, ho⟩ := hS
  have l1 := hE.lt
  have l2 := hR.lt
  have l3 := hR1.lt
  have hsz := hon.size
  refine ⟨hE.keep (hon.block g l1.1 (by simpa using h1)) (hon.block o l1.2 (by simpa using h3)), ?_⟩
  rintro ⟨o', cap', hE2, hon2, ho2⟩
  refine ⟨o', cap', o2', cap2', hE2, hR1.keep (hon2.block h l3.1 (by simp; omega)) (hon2.block o2' l3.2 (by simp; omega)), ?_, ?_, ?_, ?_, ho⟩ <;> omega

theorem Only.undrew {X : List Nat} {a b : World} (h : Only X a.drew b) : Only X a b := ⟨h.os, h.tape, h.output, h.size, h.block⟩
theorem Shifted.undrew {w w' : World} {g o : Nat} {s : Rc.St} (h : Shifted w.drew g o s w') : Shifted w g o s w' := by
  obtain ⟨o', cap', hE, hon, ho⟩ := h
  exact ⟨o', cap', hE, hon.undrew, ho⟩

/-- Where both coders are behind a deed. -/
def CodesAt (w wx : World) (g h k : Nat) : Prop := ∃ s' : Rc.St, s'.k ≤ k ∧ Both w wx g h s'

theorem rem_u64 (x t : Nat) (hx : x < 2 ^ 32) (ht : t ≤ 32) : (IntKind.u64.wrap (x : Int)).tmod (IntKind.u64.wrap (2 ^ t)) = ((x % 2 ^ t : Nat) : Int) ∧ ¬ IntKind.u64.wrap (2 ^ t) = 0 := by
  have h1 : 1 ≤ 2 ^ t := Nat.one_le_two_pow
  have h2 : 2 ^ t ≤ 2 ^ 32 := Nat.pow_le_pow_right (by omega) ht
  have e : IntKind.u64.wrap (2 ^ t) = ((2 ^ t : Nat) : Int) := by
    rw [show (2 : Int) ^ t = ((2 ^ t : Nat) : Int) by simp, IntKind.wrap_u64]
    omega
  have e2 : IntKind.u64.wrap (x : Int) = (x : Int) := by rw [IntKind.wrap_u64]; omega
  rw [e, e2]
  exact ⟨by rw [Int.tmod_eq_emod_of_nonneg (by omega)]; simp, by omega⟩

set_option maxRecDepth 100000 in
set_option maxHeartbeats 1000000 in
theorem codes_law (A : Option Addr) (len c : Nat) (D : Nat → Deed) (w : World) (hB : Deeds w A len D) (_hc : len ≤ c) (_hm : c ≤ 9223372036854775807) :
    Calls Try.prog 3 #[.slice A len c] w (Holds w) := by
  by_cases h : 200 < len
  · have h' : (200 : Int) < len := by omega
    go_enter Try.func3, Try.ntmps3
    go_wp2_with fail
    refine (new_any _).mono ?_
    rintro e w1 ⟨g, o, cap, rfl, hE, hb1, hg, ho⟩
    go_wp2_with fail
    refine (knows_any _).mono ?_
    rintro e w' ⟨rfl, hb⟩
    go_wp2_with fail
    go_ret
    exact ⟨rfl, hb1.trans (hb.mono hb1.size)⟩
  · have h' : (len : Int) ≤ 200 := by omega
    go_enter Try.func3, Try.ntmps3
    go_wp2_with fail
    refine (new_any _).mono ?_
    rintro e w1 ⟨g, o, cap, rfl, hE, hb1, hg, ho⟩
    go_wp2_with fail
    refine (rnew_any _).mono ?_
    rintro e w2 ⟨h, o2, cap2, rfl, hR, hb2, hh, ho2⟩
    have l1 := hE.lt
    have hE2 := hE.below hb2
    have hsz := hb1.size
    have hboth : Both w w2 g h st0 := ⟨⟨o, cap, o2, cap2, hE2, hR, by omega, by omega, by omega, by omega, by omega, by omega⟩, st0_ok, hb1.trans (hb2.mono hb1.size), by omega, by omega⟩
    clear hE hE2 hR hb1 hb2
    go_wp2_with fail
    go_loopw [5] (fun i wr => ∃ (t : Nat) (s : Rc.St), t ≤ len ∧ i = .int .i64 (t : Nat) ∧ s.k ≤ 32 * t ∧ Both w wr g h s) (fun i _ => len - (intOf i).toNat)
    case atStart => exact ⟨0, st0, by omega, rfl, by decide, hboth⟩
    case round =>
      obtain ⟨t, s, ht, rfl, hk, hbo⟩ := hrel
      obtain ⟨⟨o, cap, o2, cap2, hE, hR, d1, d2, d3, d4, go, go2⟩, hok, hbel, gg, gh⟩ := hbo
      by_cases hlt : t < len
      · obtain ⟨b, off, rfl, hab, hd⟩ := hB.resolve_left (by omega)
        have hdt := hd t hlt
        generalize D t = d at *
        obtain ⟨e0, e1, e2, e3, e4, bw, bb, bn⟩ := hdt
        replace e0 := (hbel.cell (p := ⟨b, _, none⟩) hab).trans e0
        replace e1 := (hbel.cell (p := ⟨b, _, none⟩) hab).trans e1
        replace e2 := (hbel.cell (p := ⟨b, _, none⟩) hab).trans e2
        replace e3 := (hbel.cell (p := ⟨b, _, none⟩) hab).trans e3
        replace e4 := (hbel.cell (p := ⟨b, _, none⟩) hab).trans e4
        clear hd hB
        have hlt' : (t : Int) < len := by omega
        go_upto_if 37 with (fail)
        have hba : Below wr.heap.size wr (wr.alloc (.cells #[.int .i64 d.what, .int .u16 d.chance.toNat, .int .i64 d.bit, .int .u32 d.v.toNat, .int .i64 d.n] 31)) := (Below.refl _ _).alloc (Nat.le_refl _) _
        have hblkX := heap_alloc_new wr (.cells #[.int .i64 d.what, .int .u16 d.chance.toNat, .int .i64 d.bit, .int .u32 d.v.toNat, .int .i64 d.n] 31)
        have hXl : wr.heap.size < (wr.alloc (.cells #[.int .i64 d.what, .int .u16 d.chance.toNat, .int .i64 d.bit, .int .u32 d.v.toNat, .int .i64 d.n] 31)).heap.size := by simp
        generalize wr.alloc (.cells #[.int .i64 d.what, .int .u16 d.chance.toNat, .int .i64 d.bit, .int .u32 d.v.toNat, .int .i64 d.n] 31) = wa at *
        clear e0 e1 e2 e3 e4
        have le := hE.lt
        have lr := hR.lt
        have hEa := hE.below hba
        have hRa := hR.below hba
        have hbela : Below w.heap.size w wa := hbel.trans (hba.mono hbel.size)
        have hbs0 := hbel.size
        generalize hX : wr.heap.size = X at *
        have c1 : wa.cell? ⟨X, 1, none⟩ = some (.int .u16 d.chance.toNat) := by rw [cell_of_row _ _ _ _ _ _ hblkX]; rfl
        have c2 : wa.cell? ⟨X, 2, none⟩ = some (.int .i64 d.bit) := by rw [cell_of_row _ _ _ _ _ _ hblkX]; rfl
        have c3 : wa.cell? ⟨X, 3, none⟩ = some (.int .u32 d.v.toNat) := by rw [cell_of_row _ _ _ _ _ _ hblkX]; rfl
        have c4 : wa.cell? ⟨X, 4, none⟩ = some (.int .i64 d.n) := by rw [cell_of_row _ _ _ _ _ _ hblkX]; rfl
        have HBX := Lib.hid hblkX
        clear hblkX hX
        go_cut [7] (fun _ wx => CodesAt w wx g h (s.k + 32))
        case first =>
          by_cases hw0 : d.what = 0
          · have hw0b : (d.what == 0) = true := by simp [hw0]
            have HW0 := Lib.hid hw0
            clear hw0
            by_cases hb0 : d.bit = 0
            · have hbn : (d.bit != 0) = false := by simp [hb0]
              have hbz : (d.bit == 0) = true := by simp [hb0]
              have HB0 := Lib.hid hb0
              clear hb0

              have hbit := Lib.hid (bit_any g o cap s d.chance d.bit wa hEa hok (by omega))
              rw [hbn] at hbit
              obtain ⟨y, hy⟩ : ∃ y : BitVec 16, Rc.next (Rc.fair d.chance.toNat) false = y.toNat := next_bv _ _
              have hs1 : (Rc.St.scale 2 (s.pick (Rc.fair d.chance.toNat) false)).ok := s.bit_ok d.chance.toNat false hok
              have hs2 : (Rc.St.scale 2 (s.pick (Rc.fair d.chance.toNat) false)).k ≤ s.k + 2 := s.bit_k d.chance.toNat false
              have hrb := fun (w1 : World) (hR1 : RefAt w1 h o2 cap2 s) => rbit_any h o2 cap2 s d.chance false w1 hR1 hok (by omega)
              rw [hy] at hbit hrb
              have HRB := Lib.hid hrb
              clear hrb hy hbn
              generalize Rc.St.scale 2 (s.pick (Rc.fair d.chance.toNat) false) = s' at *
              go_wp2_with fail
              refine hbit.out.mono ?_
              rintro e w3 ⟨rfl, hsh⟩
              have hst := fun w4 => Both.step (w2 := w4) hEa hRa d1 d2 d3 d4 hsh
              have HST := Lib.hid hst
              clear hst
              have k1 : w3.cell? ⟨X, 1, none⟩ = some (.int .u16 d.chance.toNat) := by
                obtain ⟨_, _, _, hon, _⟩ := hsh
                rw [cell_of_row _ _ _ _ _ _ ((hon.block X hXl (by simp; omega)).trans HBX.out)]; rfl
              go_wp2_with fail
              refine (HRB.out _ (HST.out w3).1).mono ?_
              rintro e w4 ⟨rfl, hrd⟩
              obtain ⟨o', cap', o2', cap2', hE', hR', n2, n3, n4, oo, oo2⟩ := (HST.out w4).2 hrd
              go_wp2_with fail
              go_meet
              have hbs := hbel.size
              obtain ⟨_, _, _, hon, _⟩ := hsh
              obtain ⟨_, _, _, hon2, _⟩ := hrd
              have b1 : Below w.heap.size w w3 := hbela.trans (hon.below hbela.size (by intro i hi; simp at hi; omega))
              have b2 : Below w.heap.size w w4 := b1.trans (hon2.below b1.size (by intro i hi; simp at hi; omega))
              exact ⟨s', by omega, ⟨o', cap', o2', cap2', hE', hR', d1, n2, n3, n4, by omega, by omega⟩, hs1, b2, gg, gh⟩

            · have hbn : (d.bit != 0) = true := by simp [hb0]
              have hbz : (d.bit == 0) = false := by simp [hb0]
              have HB0 := Lib.hid hb0
              clear hb0

              have hbit := Lib.hid (bit_any g o cap s d.chance d.bit wa hEa hok (by omega))
              rw [hbn] at hbit
              obtain ⟨y, hy⟩ : ∃ y : BitVec 16, Rc.next (Rc.fair d.chance.toNat) true = y.toNat := next_bv _ _
              have hs1 : (Rc.St.scale 2 (s.pick (Rc.fair d.chance.toNat) true)).ok := s.bit_ok d.chance.toNat true hok
              have hs2 : (Rc.St.scale 2 (s.pick (Rc.fair d.chance.toNat) true)).k ≤ s.k + 2 := s.bit_k d.chance.toNat true
              have hrb := fun (w1 : World) (hR1 : RefAt w1 h o2 cap2 s) => rbit_any h o2 cap2 s d.chance true w1 hR1 hok (by omega)
              rw [hy] at hbit hrb
              have HRB := Lib.hid hrb
              clear hrb hy hbn
              generalize Rc.St.scale 2 (s.pick (Rc.fair d.chance.toNat) true) = s' at *
              go_wp2_with fail
              refine hbit.out.mono ?_
              rintro e w3 ⟨rfl, hsh⟩
              have hst := fun w4 => Both.step (w2 := w4) hEa hRa d1 d2 d3 d4 hsh
              have HST := Lib.hid hst
              clear hst
              have k1 : w3.cell? ⟨X, 1, none⟩ = some (.int .u16 d.chance.toNat) := by
                obtain ⟨_, _, _, hon, _⟩ := hsh
                rw [cell_of_row _ _ _ _ _ _ ((hon.block X hXl (by simp; omega)).trans HBX.out)]; rfl
              go_wp2_with fail
              refine (HRB.out _ (HST.out w3).1).mono ?_
              rintro e w4 ⟨rfl, hrd⟩
              obtain ⟨o', cap', o2', cap2', hE', hR', n2, n3, n4, oo, oo2⟩ := (HST.out w4).2 hrd
              go_wp2_with fail
              go_meet
              have hbs := hbel.size
              obtain ⟨_, _, _, hon, _⟩ := hsh
              obtain ⟨_, _, _, hon2, _⟩ := hrd
              have b1 : Below w.heap.size w w3 := hbela.trans (hon.below hbela.size (by intro i hi; simp at hi; omega))
              have b2 : Below w.heap.size w w4 := b1.trans (hon2.below b1.size (by intro i hi; simp at hi; omega))
              exact ⟨s', by omega, ⟨o', cap', o2', cap2', hE', hR', d1, n2, n3, n4, by omega, by omega⟩, hs1, b2, gg, gh⟩

          · have hw0b : (d.what == 0) = false := by simp [hw0]
            have HW0 := Lib.hid hw0
            clear hw0
            have hm32 : many d.n ≤ 32 := by unfold many; omega
            have hmx : ((many d.n : Nat) : Int) = min (max d.n 0) 32 := by unfold many; omega
            have HMX := Lib.hid hmx
            clear hmx
            obtain ⟨hs1, hs2⟩ := s.plain_ok hok (many d.n) d.v.toNat
            have hrp := Lib.hid (rplain_any h (many d.n) d.v.toNat o2 cap2 s wa hRa hok d.v.isLt hm32 (by omega))
            have hpl := fun (w1 : World) (hE1 : EncAt w1 g o cap s) => plain_any g o cap s d.v d.n w1 hE1 hok (by omega)
            simp only [Rc.plain_mod] at hpl
            have hrem := rem_u64 d.v.toNat (many d.n) d.v.isLt hm32
            have hxb : d.v.toNat % 2 ^ many d.n < 4294967296 := Nat.lt_of_le_of_lt (Nat.mod_le _ _) d.v.isLt
            generalize many d.n = m at *
            generalize s.plain d.v.toNat m = s' at *
            generalize d.v.toNat % 2 ^ m = xm at *
            have hxw : IntKind.u64.wrap (xm : Int) = (xm : Int) := by rw [IntKind.wrap_u64]; omega
            have HPL := Lib.hid hpl
            have HREM := Lib.hid hrem
            clear hpl hrem
            go_upto_if 65 with (fail)
            go_cut [10] (fun s10 wx => wa = wx ∧ s10 = .int .i64 (max d.n 0))
            case first =>
              by_cases hn0 : d.n < 0
              · go_wp2_with fail
                go_meet
                exact ⟨rfl, congrArg (Value.int .i64) (by omega)⟩
              · go_wp2_with fail
                go_meet
                exact ⟨rfl, congrArg (Value.int .i64) (by omega)⟩
            case rest =>
              obtain ⟨rfl, rfl⟩ := hcut
              go_upto_if 67 with (fail)
              go_cut [10] (fun s10 wx => wa = wx ∧ s10 = .int .i64 (m : Nat))
              case first =>
                by_cases hn0 : 32 < max d.n 0
                · go_wp2_with fail
                  go_meet
                  exact ⟨rfl, congrArg (Value.int .i64) (by have := HMX.out; omega)⟩
                · go_wp2_with fail
                  go_meet
                  exact ⟨rfl, congrArg (Value.int .i64) (by have := HMX.out; omega)⟩
              case rest =>
                obtain ⟨rfl, rfl⟩ := hcut
                go_wp2_with fail
                refine hrp.out.mono ?_
                rintro e w3 ⟨rfl, hrd⟩
                have hst := fun w4 => Both.step2 (w2 := w4) hEa hRa d1 d2 d3 d4 hrd
                have HST := Lib.hid hst
                clear hst
                have hE3 := (HST.out w3).1
                obtain ⟨hsz3, hX3⟩ : wa.heap.size ≤ w3.heap.size ∧ w3.heap[X]? = some (.cells #[.int .i64 d.what, .int .u16 d.chance.toNat, .int .i64 d.bit, .int .u32 d.v.toNat, .int .i64 d.n] 31) := by
                  obtain ⟨_, _, _, hon, _⟩ := hrd
                  exact ⟨hon.size, (hon.block X hXl (by simp; omega)).trans HBX.out⟩
                have k3 : w3.drew.cell? ⟨X, 3, none⟩ = some (.int .u32 d.v.toNat) := by rw [cell_of_row w3.drew _ _ _ _ _ hX3]; rfl
                have k4 : w3.drew.cell? ⟨X, 4, none⟩ = some (.int .i64 d.n) := by rw [cell_of_row w3.drew _ _ _ _ _ hX3]; rfl
                have HX3 := Lib.hid hX3
                clear hX3
                go_wp2_with fail
                refine wp_region_held_drew (S := fun w' => w'.cell? ⟨X, 3, none⟩ = some (.int .u32 d.v.toNat) ∧ w'.cell? ⟨X, 4, none⟩ = some (.int .i64 d.n)) (by kernel_rfl) ⟨k3, k4⟩ (fun hS => ?_)
                refine wpAnyH_take (i := 0) (oi := { dst := some 73, op := Op.move (Operand.tmp 3), type := 23, pos := "law.go:56", after := #[], guard := none }) (v := ?vp1) rfl (by kernel_rfl) (by kernel_rfl) (by kernel_rfl) (fun _ _ _ h => h) (Or.inl ⟨by rfl, ?yp1⟩) hS ?_
                case yp1 =>
                  intro w hSw
                  go_simp; all_goals (with_reducible rfl)
                simp only [Act.put, List.setIfInBounds_toArray, List.set_cons_zero, List.set_cons_succ]
                refine wpAnyH_take (i := 1) (oi := { dst := some 74, op := Op.fieldAddr 31 (Operand.tmp 6) 3, type := 0, pos := "law.go:56", after := #[], guard := none }) (v := ?vp2) rfl (by kernel_rfl) (by kernel_rfl) (by kernel_rfl) (fun _ _ _ h => h) (Or.inl ⟨by rfl, ?yp2⟩) hS ?_
                case yp2 =>
                  intro w hSw
                  go_simp; all_goals (with_reducible rfl)
                simp only [Act.put, List.setIfInBounds_toArray, List.set_cons_zero, List.set_cons_succ]
                refine wpAnyH_take (i := 2) (oi := { dst := some 75, op := Op.load 29 (Operand.tmp 74), type := 29, pos := "law.go:56", after := #[{ on := 1, ground := Ground.data }], guard := none }) (v := ?vp3) rfl (by kernel_rfl) (by kernel_rfl) (by kernel_rfl) (fun _ _ _ h => h) (Or.inl ⟨by rfl, ?yp3⟩) hS ?_
                case yp3 =>
                  intro w hSw
                  obtain ⟨q3, q4⟩ := hSw
                  go_simp; all_goals (with_reducible rfl)
                simp only [Act.put, List.setIfInBounds_toArray, List.set_cons_zero, List.set_cons_succ]
                refine wpAnyH_take (i := 3) (oi := { dst := some 76, op := Op.fieldAddr 31 (Operand.tmp 6) 4, type := 0, pos := "law.go:56", after := #[], guard := none }) (v := ?vp4) rfl (by kernel_rfl) (by kernel_rfl) (by kernel_rfl) (fun _ _ _ h => h) (Or.inl ⟨by rfl, ?yp4⟩) hS ?_
                case yp4 =>
                  intro w hSw
                  go_simp; all_goals (with_reducible rfl)
                simp only [Act.put, List.setIfInBounds_toArray, List.set_cons_zero, List.set_cons_succ]
                refine wpAnyH_take (i := 4) (oi := { dst := some 77, op := Op.load 3 (Operand.tmp 76), type := 3, pos := "law.go:56", after := #[{ on := 3, ground := Ground.data }], guard := none }) (v := ?vp5) rfl (by kernel_rfl) (by kernel_rfl) (by kernel_rfl) (fun _ _ _ h => h) (Or.inl ⟨by rfl, ?yp5⟩) hS ?_
                case yp5 =>
                  intro w hSw
                  obtain ⟨q3, q4⟩ := hSw
                  go_simp; all_goals (with_reducible rfl)
                simp only [Act.put, List.setIfInBounds_toArray, List.set_cons_zero, List.set_cons_succ]
                refine wpAnyH_take (i := 7) (oi := { dst := some 80, op := Op.fieldAddr 31 (Operand.tmp 6) 3, type := 0, pos := "law.go:56", after := #[], guard := none }) (v := ?vp6) rfl (by kernel_rfl) (by kernel_rfl) (by kernel_rfl) (fun _ _ _ h => h) (Or.inl ⟨by rfl, ?yp6⟩) hS ?_
                case yp6 =>
                  intro w hSw
                  go_simp; all_goals (with_reducible rfl)
                simp only [Act.put, List.setIfInBounds_toArray, List.set_cons_zero, List.set_cons_succ]
                refine wpAnyH_take (i := 8) (oi := { dst := some 81, op := Op.load 29 (Operand.tmp 80), type := 29, pos := "law.go:56", after := #[{ on := 7, ground := Ground.data }], guard := none }) (v := ?vp7) rfl (by kernel_rfl) (by kernel_rfl) (by kernel_rfl) (fun _ _ _ h => h) (Or.inl ⟨by rfl, ?yp7⟩) hS ?_
                case yp7 =>
                  intro w hSw
                  obtain ⟨q3, q4⟩ := hSw
                  go_simp; all_goals (with_reducible rfl)
                simp only [Act.put, List.setIfInBounds_toArray, List.set_cons_zero, List.set_cons_succ]
                refine wpAnyH_take (i := 9) (oi := { dst := some 82, op := Op.convert 29 36 (Operand.tmp 81), type := 36, pos := "law.go:56", after := #[{ on := 8, ground := Ground.data }], guard := none }) (v := ?vp8) rfl (by kernel_rfl) (by kernel_rfl) (by kernel_rfl) (fun _ _ _ h => h) (Or.inl ⟨by rfl, ?yp8⟩) hS ?_
                case yp8 =>
                  intro w hSw
                  go_simp; all_goals (with_reducible rfl)
                simp only [Act.put, List.setIfInBounds_toArray, List.set_cons_zero, List.set_cons_succ]
                refine wpAnyH_take (i := 10) (oi := { dst := some 83, op := Op.move (Operand.tmp 10), type := 3, pos := "law.go:56", after := #[], guard := none }) (v := ?vp9) rfl (by kernel_rfl) (by kernel_rfl) (by kernel_rfl) (fun _ _ _ h => h) (Or.inl ⟨by rfl, ?yp9⟩) hS ?_
                case yp9 =>
                  intro w hSw
                  go_simp; all_goals (with_reducible rfl)
                simp only [Act.put, List.setIfInBounds_toArray, List.set_cons_zero, List.set_cons_succ]
                refine wpAnyH_take (i := 11) (oi := { dst := some 84, op := Op.binOp BinOp.shl 36 (Operand.const (Value.int IntKind.u64 1)) (Operand.tmp 83) 3, type := 36, pos := "law.go:56", after := #[{ on := 10, ground := Ground.data }], guard := none }) (v := ?vp10) rfl (by kernel_rfl) (by kernel_rfl) (by kernel_rfl) (fun _ _ _ h => h) (Or.inl ⟨by rfl, ?yp10⟩) hS ?_
                case yp10 =>
                  intro w hSw
                  go_simp; all_goals (with_reducible rfl)
                simp only [Act.put, List.setIfInBounds_toArray, List.set_cons_zero, List.set_cons_succ]
                refine wpAnyH_take (i := 12) (oi := { dst := some 85, op := Op.binOp BinOp.rem 36 (Operand.tmp 82) (Operand.tmp 84) 36, type := 36, pos := "law.go:56", after := #[{ on := 9, ground := Ground.data }, { on := 11, ground := Ground.data }], guard := none }) (v := .int .u64 (xm : Nat)) rfl (by kernel_rfl) (by kernel_rfl) (by kernel_rfl) (fun _ _ _ h => h) (Or.inl ⟨by rfl, ?yp11⟩) hS ?_
                case yp11 =>
                  intro w hSw
                  go_simp; rw [if_neg HREM.out.2, HREM.out.1]
                simp only [Act.put, List.setIfInBounds_toArray, List.set_cons_zero, List.set_cons_succ]
                refine wpAnyH_ready (rs := [5]) (by kernel_rfl) (by simp) ?_
                refine (AllReadyH.cons (o := { dst := some 78, op := Op.call { callee := Callee.value (Operand.func 11), args := #[Operand.tmp 73, Operand.tmp 75, Operand.tmp 77], argTypes := #[23, 29, 3] }, type := 29, pos := "law.go:56", after := #[{ on := 0, ground := Ground.data }, { on := 2, ground := Ground.data }, { on := 4, ground := Ground.data }], guard := none }) rfl (fun K hK => ?_) AllReadyH.nil)
                go_simp
                refine (HPL.out _ (hE3.below (Below.refl _ _).drew)).mono ?_
                rintro e w4 ⟨rfl, hsh⟩
                have k34 : w4.cell? ⟨X, 3, none⟩ = some (.int .u32 d.v.toNat) ∧ w4.cell? ⟨X, 4, none⟩ = some (.int .i64 d.n) := by
                  obtain ⟨_, _, _, hon, _⟩ := hsh
                  have hx := (hon.block X (by show X < w3.heap.size; omega) (by simp; omega)).trans HX3.out
                  exact ⟨by rw [cell_of_row _ _ _ _ _ _ hx]; rfl, by rw [cell_of_row _ _ _ _ _ _ hx]; rfl⟩
                go_wp2_with fail
                refine hK.out _ _ k34 (fun _ => ?_)
                clear hK K
                refine wpAnyH_ready (rs := [6]) (by kernel_rfl) (by simp) ?_
                refine (AllReadyH.cons (o := { dst := some 79, op := Op.convert 29 36 (Operand.tmp 78), type := 36, pos := "law.go:56", after := #[{ on := 5, ground := Ground.data }], guard := none }) rfl (fun K hK => ?_) AllReadyH.nil)
                go_simp
                refine hK.out _ _ k34 (fun _ => ?_)
                clear hK K
                refine wpAnyH_ready (rs := [13]) (by kernel_rfl) (by simp) ?_
                refine (AllReadyH.cons (o := { dst := some 86, op := Op.binOp BinOp.neq 36 (Operand.tmp 79) (Operand.tmp 85) 36, type := 4, pos := "law.go:56", after := #[{ on := 6, ground := Ground.data }, { on := 12, ground := Ground.data }], guard := none }) rfl (fun K hK => ?_) AllReadyH.nil)
                go_simp
                refine hK.out _ _ k34 (fun _ => ?_)
                clear hK K
                refine wpAnyH_done (by kernel_rfl) ?_ _
                go_wp2_with fail
                go_meet
                obtain ⟨o', cap', o2', cap2', hE', hR', n2, n3, n4, oo, oo2⟩ := (HST.out w4).2 hsh.undrew
                obtain ⟨_, _, _, hon, _⟩ := hsh
                obtain ⟨_, _, _, hon2, _⟩ := hrd
                have b1 : Below w.heap.size w w3 := hbela.trans (hon2.below hbela.size (by intro i hi; simp at hi; omega))
                have b2 : Below w.heap.size w w4 := b1.trans (hon.undrew.below b1.size (by intro i hi; simp at hi; omega))
                exact ⟨s', by omega, ⟨o', cap', o2', cap2', hE', hR', d1, n2, n3, n4, by omega, by omega⟩, hs1, b2, gg, gh⟩

        case rest =>
          clear hE hR hEa hRa c1 c2 c3 c4 HBX hba hXl hok hbela
          obtain ⟨s, hk1, hbo⟩ := hcut
          have hk2 : s.k ≤ 32 * (t + 1) := by omega
          clear hk hk1
          obtain ⟨⟨o, cap, o2, cap2, hE, hR, d1, d2, d3, d4, go, go2⟩, hok, hbel, gg, gh⟩ := hbo
          have hdr : Below wc.heap.size wc wc.drew := (Below.refl _ _).drew
          by_cases h20 : len ≤ 20
          · have h20' : (len : Int) ≤ 20 := by omega
            have h20b : decide ((len : Int) ≤ 20) = true := decide_eq_true h20'
            go_wp2_with fail
            refine wp_region_held_drew (S := fun w' => Below wc.heap.size wc w') (by kernel_rfl) hdr (fun hS => ?_)
            refine wpAnyH_take (i := 0) (oi := { dst := some 87, op := Op.move (Operand.tmp 0), type := 22, pos := "law.go:60", after := #[], guard := none }) (v := ?vx12) rfl (by kernel_rfl) (by kernel_rfl) (by kernel_rfl) (fun _ _ _ h => h) (Or.inl ⟨by rfl, ?yx12⟩) hS ?_
            case yx12 =>
              intro w hSw
              go_simp; all_goals (with_reducible rfl)
            simp only [Act.put, List.setIfInBounds_toArray, List.set_cons_zero, List.set_cons_succ]
            refine wpAnyH_take (i := 1) (oi := { dst := some 88, op := Op.call { callee := Callee.builtin Builtin.len, args := #[Operand.tmp 87], argTypes := #[22] }, type := 3, pos := "law.go:60", after := #[{ on := 0, ground := Ground.data }], guard := none }) (v := ?vx13) rfl (by kernel_rfl) (by kernel_rfl) (by kernel_rfl) (fun _ _ _ h => h) (Or.inl ⟨by rfl, ?yx13⟩) hS ?_
            case yx13 =>
              intro w hSw
              go_simp; all_goals (with_reducible rfl)
            simp only [Act.put, List.setIfInBounds_toArray, List.set_cons_zero, List.set_cons_succ]
            refine wpAnyH_take (i := 2) (oi := { dst := some 89, op := Op.binOp BinOp.leq 3 (Operand.tmp 88) (Operand.const (Value.int IntKind.i64 20)) 3, type := 4, pos := "law.go:60", after := #[{ on := 1, ground := Ground.data }], guard := none }) (v := ?vx14) rfl (by kernel_rfl) (by kernel_rfl) (by kernel_rfl) (fun _ _ _ h => h) (Or.inl ⟨by rfl, ?yx14⟩) hS ?_
            case yx14 =>
              intro w hSw
              go_simp; all_goals (with_reducible rfl)
            simp only [Act.put, List.setIfInBounds_toArray, List.set_cons_zero, List.set_cons_succ]
            refine wpAnyH_take (i := 3) (oi := { dst := some 90, op := Op.move (Operand.tmp 89), type := 4, pos := "law.go:60", after := #[{ on := 2, ground := Ground.data }], guard := none }) (v := ?vx15) rfl (by kernel_rfl) (by kernel_rfl) (by kernel_rfl) (fun _ _ _ h => h) (Or.inl ⟨by rfl, ?yx15⟩) hS ?_
            case yx15 =>
              intro w hSw
              go_simp; all_goals (with_reducible rfl)
            simp only [Act.put, List.setIfInBounds_toArray, List.set_cons_zero, List.set_cons_succ]
            refine wpAnyH_take (i := 4) (oi := { dst := some 91, op := Op.move (Operand.tmp 3), type := 23, pos := "law.go:60", after := #[{ on := 3, ground := Ground.guard }], guard := some (3, true) }) (v := ?vx16) rfl (by kernel_rfl) (by kernel_rfl) (by kernel_rfl) (fun _ _ _ h => h) (Or.inl ⟨by rfl, ?yx16⟩) hS ?_
            case yx16 =>
              intro w hSw
              go_simp; all_goals (with_reducible rfl)
            simp only [Act.put, List.setIfInBounds_toArray, List.set_cons_zero, List.set_cons_succ]
            refine wpAnyH_take (i := 7) (oi := { dst := some 94, op := Op.move (Operand.tmp 4), type := 26, pos := "law.go:60", after := #[{ on := 3, ground := Ground.guard }], guard := some (3, true) }) (v := ?vx17) rfl (by kernel_rfl) (by kernel_rfl) (by kernel_rfl) (fun _ _ _ h => h) (Or.inl ⟨by rfl, ?yx17⟩) hS ?_
            case yx17 =>
              intro w hSw
              go_simp; all_goals (with_reducible rfl)
            simp only [Act.put, List.setIfInBounds_toArray, List.set_cons_zero, List.set_cons_succ]
            refine wpAnyH_ready (rs := [5]) (by kernel_rfl) (by simp) ?_
            refine (AllReadyH.cons (o := { dst := some 92, op := Op.call { callee := Callee.value (Operand.func 12), args := #[Operand.tmp 91], argTypes := #[23] }, type := 38, pos := "law.go:60", after := #[{ on := 4, ground := Ground.data }, { on := 3, ground := Ground.chain }, { on := 3, ground := Ground.guard }], guard := some (3, true) }) rfl (fun K hK => ?_) AllReadyH.nil)
            go_simp
            refine (bytes_any g o cap s _ (hE.below hdr) (by omega)).mono ?_
            rintro e w5 ⟨v5, rfl, hO5, hb5⟩
            obtain ⟨A5, c5, rfl, _, _, hB5⟩ := hO5.read
            have g5 := below_after hdr hb5
            have k5 := run_str hB5 c5
            go_wp2_with fail
            refine hK.out _ _ g5 (fun _ => ?_)
            clear hK K
            refine wpAnyH_ready (rs := [6, 8]) (by kernel_rfl) (by simp) ?_
            refine (AllReadyH.cons (o := { dst := some 93, op := Op.convert 38 9 (Operand.tmp 92), type := 9, pos := "law.go:60", after := #[{ on := 5, ground := Ground.data }, { on := 3, ground := Ground.guard }], guard := some (3, true) }) rfl (fun K hK => ?_) (AllReadyH.cons (o := { dst := some 95, op := Op.call { callee := Callee.value (Operand.func 13), args := #[Operand.tmp 94], argTypes := #[26] }, type := 38, pos := "law.go:60", after := #[{ on := 7, ground := Ground.data }, { on := 5, ground := Ground.chain }, { on := 3, ground := Ground.guard }], guard := some (3, true) }) rfl (fun K hK => ?_) AllReadyH.nil))
            · skip
              go_simp
              refine hK.out _ _ g5 (fun _ => ?_)
              clear hK K
              refine wpAnyH_ready (rs := [8]) (by kernel_rfl) (by simp) ?_
              refine (AllReadyH.cons (o := { dst := some 95, op := Op.call { callee := Callee.value (Operand.func 13), args := #[Operand.tmp 94], argTypes := #[26] }, type := 38, pos := "law.go:60", after := #[{ on := 7, ground := Ground.data }, { on := 5, ground := Ground.chain }, { on := 3, ground := Ground.guard }], guard := some (3, true) }) rfl (fun K hK => ?_) AllReadyH.nil)
              go_simp
              refine (rbytes_any h o2 cap2 s _ (hR.below g5) (s.ok_small hok) (by omega)).mono ?_
              rintro e w6 ⟨v6, rfl, hO6, hb6⟩
              obtain ⟨A6, c6, rfl, _, _, hB6⟩ := hO6.read
              have g6 := below_after g5 hb6
              have k6 := run_str hB6 c6
              have k5 := run_str (hB5.below hb6) c5
              go_wp2_with fail
              refine hK.out _ _ g6 (fun _ => ?_)
              clear hK K
              refine wpAnyH_ready (rs := [9]) (by kernel_rfl) (by simp) ?_
              refine (AllReadyH.cons (o := { dst := some 96, op := Op.convert 38 9 (Operand.tmp 95), type := 9, pos := "law.go:60", after := #[{ on := 8, ground := Ground.data }, { on := 3, ground := Ground.guard }], guard := some (3, true) }) rfl (fun K hK => ?_) AllReadyH.nil)
              go_simp
              refine hK.out _ _ g6 (fun _ => ?_)
              clear hK K
              refine wpAnyH_ready (rs := [10]) (by kernel_rfl) (by simp) ?_
              refine (AllReadyH.cons (o := { dst := some 97, op := Op.binOp BinOp.neq 9 (Operand.tmp 93) (Operand.tmp 96) 9, type := 4, pos := "law.go:60", after := #[{ on := 6, ground := Ground.data }, { on := 9, ground := Ground.data }, { on := 3, ground := Ground.guard }], guard := some (3, true) }) rfl (fun K hK => ?_) AllReadyH.nil)
              go_simp
              refine hK.out _ _ g6 (fun _ => ?_)
              clear hK K
              refine wpAnyH_ready (rs := [11]) (by kernel_rfl) (by simp) ?_
              refine (AllReadyH.cons (o := { dst := some 98, op := Op.pick (Operand.tmp 90) (Operand.tmp 97) (Operand.const (Value.bool false)), type := 4, pos := "law.go:60", after := #[{ on := 3, ground := Ground.data }, { on := 10, ground := Ground.data }], guard := none }) rfl (fun K hK => ?_) AllReadyH.nil)
              go_simp
              refine hK.out _ _ g6 (fun _ => ?_)
              clear hK K
              refine wpAnyH_done (by kernel_rfl) ?_ _
              go_wp2_with fail
              go_roundw
              case rel =>
                exact ⟨t + 1, s, by omega, congrArg (Value.int .i64) (by omega), by omega, ⟨o, cap, o2, cap2, hE.below g6, hR.below g6, d1, d2, d3, d4, go, go2⟩, hok, hbel.trans (Below.mono g6 hbel.size), gg, gh⟩
              case measure => simp [intOf] <;> omega
            · skip
              go_simp
              refine (rbytes_any h o2 cap2 s _ (hR.below g5) (s.ok_small hok) (by omega)).mono ?_
              rintro e w6 ⟨v6, rfl, hO6, hb6⟩
              obtain ⟨A6, c6, rfl, _, _, hB6⟩ := hO6.read
              have g6 := below_after g5 hb6
              have k6 := run_str hB6 c6
              have k5 := run_str (hB5.below hb6) c5
              go_wp2_with fail
              refine hK.out _ _ g6 (fun _ => ?_)
              clear hK K
              refine wpAnyH_ready (rs := [6, 9]) (by kernel_rfl) (by simp) ?_
              refine (AllReadyH.cons (o := { dst := some 93, op := Op.convert 38 9 (Operand.tmp 92), type := 9, pos := "law.go:60", after := #[{ on := 5, ground := Ground.data }, { on := 3, ground := Ground.guard }], guard := some (3, true) }) rfl (fun K hK => ?_) (AllReadyH.cons (o := { dst := some 96, op := Op.convert 38 9 (Operand.tmp 95), type := 9, pos := "law.go:60", after := #[{ on := 8, ground := Ground.data }, { on := 3, ground := Ground.guard }], guard := some (3, true) }) rfl (fun K hK => ?_) AllReadyH.nil))
              · skip
                go_simp
                refine hK.out _ _ g6 (fun _ => ?_)
                clear hK K
                refine wpAnyH_ready (rs := [9]) (by kernel_rfl) (by simp) ?_
                refine (AllReadyH.cons (o := { dst := some 96, op := Op.convert 38 9 (Operand.tmp 95), type := 9, pos := "law.go:60", after := #[{ on := 8, ground := Ground.data }, { on := 3, ground := Ground.guard }], guard := some (3, true) }) rfl (fun K hK => ?_) AllReadyH.nil)
                go_simp
                refine hK.out _ _ g6 (fun _ => ?_)
                clear hK K
                refine wpAnyH_ready (rs := [10]) (by kernel_rfl) (by simp) ?_
                refine (AllReadyH.cons (o := { dst := some 97, op := Op.binOp BinOp.neq 9 (Operand.tmp 93) (Operand.tmp 96) 9, type := 4, pos := "law.go:60", after := #[{ on := 6, ground := Ground.data }, { on := 9, ground := Ground.data }, { on := 3, ground := Ground.guard }], guard := some (3, true) }) rfl (fun K hK => ?_) AllReadyH.nil)
                go_simp
                refine hK.out _ _ g6 (fun _ => ?_)
                clear hK K
                refine wpAnyH_ready (rs := [11]) (by kernel_rfl) (by simp) ?_
                refine (AllReadyH.cons (o := { dst := some 98, op := Op.pick (Operand.tmp 90) (Operand.tmp 97) (Operand.const (Value.bool false)), type := 4, pos := "law.go:60", after := #[{ on := 3, ground := Ground.data }, { on := 10, ground := Ground.data }], guard := none }) rfl (fun K hK => ?_) AllReadyH.nil)
                go_simp
                refine hK.out _ _ g6 (fun _ => ?_)
                clear hK K
                refine wpAnyH_done (by kernel_rfl) ?_ _
                go_wp2_with fail
                go_roundw
                case rel =>
                  exact ⟨t + 1, s, by omega, congrArg (Value.int .i64) (by omega), by omega, ⟨o, cap, o2, cap2, hE.below g6, hR.below g6, d1, d2, d3, d4, go, go2⟩, hok, hbel.trans (Below.mono g6 hbel.size), gg, gh⟩
                case measure => simp [intOf] <;> omega
              · skip
                go_simp
                refine hK.out _ _ g6 (fun _ => ?_)
                clear hK K
                refine wpAnyH_ready (rs := [6]) (by kernel_rfl) (by simp) ?_
                refine (AllReadyH.cons (o := { dst := some 93, op := Op.convert 38 9 (Operand.tmp 92), type := 9, pos := "law.go:60", after := #[{ on := 5, ground := Ground.data }, { on := 3, ground := Ground.guard }], guard := some (3, true) }) rfl (fun K hK => ?_) AllReadyH.nil)
                go_simp
                refine hK.out _ _ g6 (fun _ => ?_)
                clear hK K
                refine wpAnyH_ready (rs := [10]) (by kernel_rfl) (by simp) ?_
                refine (AllReadyH.cons (o := { dst := some 97, op := Op.binOp BinOp.neq 9 (Operand.tmp 93) (Operand.tmp 96) 9, type := 4, pos := "law.go:60", after := #[{ on := 6, ground := Ground.data }, { on := 9, ground := Ground.data }, { on := 3, ground := Ground.guard }], guard := some (3, true) }) rfl (fun K hK => ?_) AllReadyH.nil)
                go_simp
                refine hK.out _ _ g6 (fun _ => ?_)
                clear hK K
                refine wpAnyH_ready (rs := [11]) (by kernel_rfl) (by simp) ?_
                refine (AllReadyH.cons (o := { dst := some 98, op := Op.pick (Operand.tmp 90) (Operand.tmp 97) (Operand.const (Value.bool false)), type := 4, pos := "law.go:60", after := #[{ on := 3, ground := Ground.data }, { on := 10, ground := Ground.data }], guard := none }) rfl (fun K hK => ?_) AllReadyH.nil)
                go_simp
                refine hK.out _ _ g6 (fun _ => ?_)
                clear hK K
                refine wpAnyH_done (by kernel_rfl) ?_ _
                go_wp2_with fail
                go_roundw
                case rel =>
                  exact ⟨t + 1, s, by omega, congrArg (Value.int .i64) (by omega), by omega, ⟨o, cap, o2, cap2, hE.below g6, hR.below g6, d1, d2, d3, d4, go, go2⟩, hok, hbel.trans (Below.mono g6 hbel.size), gg, gh⟩
                case measure => simp [intOf] <;> omega

          · have h20' : ¬ (len : Int) ≤ 20 := by omega
            have h20b : decide ((len : Int) ≤ 20) = false := decide_eq_false h20'
            go_wp2_with fail
            refine wp_region_held_drew (S := fun w' => Below wc.heap.size wc w') (by kernel_rfl) hdr (fun hS => ?_)
            refine wpAnyH_take (i := 0) (oi := { dst := some 87, op := Op.move (Operand.tmp 0), type := 22, pos := "law.go:60", after := #[], guard := none }) (v := ?vz18) rfl (by kernel_rfl) (by kernel_rfl) (by kernel_rfl) (fun _ _ _ h => h) (Or.inl ⟨by rfl, ?yz18⟩) hS ?_
            case yz18 =>
              intro w hSw
              go_simp; all_goals (with_reducible rfl)
            simp only [Act.put, List.setIfInBounds_toArray, List.set_cons_zero, List.set_cons_succ]
            refine wpAnyH_take (i := 1) (oi := { dst := some 88, op := Op.call { callee := Callee.builtin Builtin.len, args := #[Operand.tmp 87], argTypes := #[22] }, type := 3, pos := "law.go:60", after := #[{ on := 0, ground := Ground.data }], guard := none }) (v := ?vz19) rfl (by kernel_rfl) (by kernel_rfl) (by kernel_rfl) (fun _ _ _ h => h) (Or.inl ⟨by rfl, ?yz19⟩) hS ?_
            case yz19 =>
              intro w hSw
              go_simp; all_goals (with_reducible rfl)
            simp only [Act.put, List.setIfInBounds_toArray, List.set_cons_zero, List.set_cons_succ]
            refine wpAnyH_take (i := 2) (oi := { dst := some 89, op := Op.binOp BinOp.leq 3 (Operand.tmp 88) (Operand.const (Value.int IntKind.i64 20)) 3, type := 4, pos := "law.go:60", after := #[{ on := 1, ground := Ground.data }], guard := none }) (v := ?vz20) rfl (by kernel_rfl) (by kernel_rfl) (by kernel_rfl) (fun _ _ _ h => h) (Or.inl ⟨by rfl, ?yz20⟩) hS ?_
            case yz20 =>
              intro w hSw
              go_simp; all_goals (with_reducible rfl)
            simp only [Act.put, List.setIfInBounds_toArray, List.set_cons_zero, List.set_cons_succ]
            refine wpAnyH_take (i := 3) (oi := { dst := some 90, op := Op.move (Operand.tmp 89), type := 4, pos := "law.go:60", after := #[{ on := 2, ground := Ground.data }], guard := none }) (v := ?vz21) rfl (by kernel_rfl) (by kernel_rfl) (by kernel_rfl) (fun _ _ _ h => h) (Or.inl ⟨by rfl, ?yz21⟩) hS ?_
            case yz21 =>
              intro w hSw
              go_simp; all_goals (with_reducible rfl)
            simp only [Act.put, List.setIfInBounds_toArray, List.set_cons_zero, List.set_cons_succ]
            refine wpAnyH_take (i := 4) (oi := { dst := some 91, op := Op.move (Operand.tmp 3), type := 23, pos := "law.go:60", after := #[{ on := 3, ground := Ground.guard }], guard := some (3, true) }) (v := undef) rfl (by kernel_rfl) (by kernel_rfl) (by kernel_rfl) (fun _ _ _ h => h) (Or.inr ⟨by rfl, rfl⟩) hS ?_
            simp only [Act.put, List.setIfInBounds_toArray, List.set_cons_zero, List.set_cons_succ]
            refine wpAnyH_take (i := 5) (oi := { dst := some 92, op := Op.call { callee := Callee.value (Operand.func 12), args := #[Operand.tmp 91], argTypes := #[23] }, type := 38, pos := "law.go:60", after := #[{ on := 4, ground := Ground.data }, { on := 3, ground := Ground.chain }, { on := 3, ground := Ground.guard }], guard := some (3, true) }) (v := undef) rfl (by kernel_rfl) (by kernel_rfl) (by kernel_rfl) (fun _ _ _ h => h) (Or.inr ⟨by rfl, rfl⟩) hS ?_
            simp only [Act.put, List.setIfInBounds_toArray, List.set_cons_zero, List.set_cons_succ]
            refine wpAnyH_take (i := 6) (oi := { dst := some 93, op := Op.convert 38 9 (Operand.tmp 92), type := 9, pos := "law.go:60", after := #[{ on := 5, ground := Ground.data }, { on := 3, ground := Ground.guard }], guard := some (3, true) }) (v := undef) rfl (by kernel_rfl) (by kernel_rfl) (by kernel_rfl) (fun _ _ _ h => h) (Or.inr ⟨by rfl, rfl⟩) hS ?_
            simp only [Act.put, List.setIfInBounds_toArray, List.set_cons_zero, List.set_cons_succ]
            refine wpAnyH_take (i := 7) (oi := { dst := some 94, op := Op.move (Operand.tmp 4), type := 26, pos := "law.go:60", after := #[{ on := 3, ground := Ground.guard }], guard := some (3, true) }) (v := undef) rfl (by kernel_rfl) (by kernel_rfl) (by kernel_rfl) (fun _ _ _ h => h) (Or.inr ⟨by rfl, rfl⟩) hS ?_
            simp only [Act.put, List.setIfInBounds_toArray, List.set_cons_zero, List.set_cons_succ]
            refine wpAnyH_take (i := 8) (oi := { dst := some 95, op := Op.call { callee := Callee.value (Operand.func 13), args := #[Operand.tmp 94], argTypes := #[26] }, type := 38, pos := "law.go:60", after := #[{ on := 7, ground := Ground.data }, { on := 5, ground := Ground.chain }, { on := 3, ground := Ground.guard }], guard := some (3, true) }) (v := undef) rfl (by kernel_rfl) (by kernel_rfl) (by kernel_rfl) (fun _ _ _ h => h) (Or.inr ⟨by rfl, rfl⟩) hS ?_
            simp only [Act.put, List.setIfInBounds_toArray, List.set_cons_zero, List.set_cons_succ]
            refine wpAnyH_take (i := 9) (oi := { dst := some 96, op := Op.convert 38 9 (Operand.tmp 95), type := 9, pos := "law.go:60", after := #[{ on := 8, ground := Ground.data }, { on := 3, ground := Ground.guard }], guard := some (3, true) }) (v := undef) rfl (by kernel_rfl) (by kernel_rfl) (by kernel_rfl) (fun _ _ _ h => h) (Or.inr ⟨by rfl, rfl⟩) hS ?_
            simp only [Act.put, List.setIfInBounds_toArray, List.set_cons_zero, List.set_cons_succ]
            refine wpAnyH_take (i := 10) (oi := { dst := some 97, op := Op.binOp BinOp.neq 9 (Operand.tmp 93) (Operand.tmp 96) 9, type := 4, pos := "law.go:60", after := #[{ on := 6, ground := Ground.data }, { on := 9, ground := Ground.data }, { on := 3, ground := Ground.guard }], guard := some (3, true) }) (v := undef) rfl (by kernel_rfl) (by kernel_rfl) (by kernel_rfl) (fun _ _ _ h => h) (Or.inr ⟨by rfl, rfl⟩) hS ?_
            simp only [Act.put, List.setIfInBounds_toArray, List.set_cons_zero, List.set_cons_succ]
            refine wpAnyH_take (i := 11) (oi := { dst := some 98, op := Op.pick (Operand.tmp 90) (Operand.tmp 97) (Operand.const (Value.bool false)), type := 4, pos := "law.go:60", after := #[{ on := 3, ground := Ground.data }, { on := 10, ground := Ground.data }], guard := none }) (v := ?vz29) rfl (by kernel_rfl) (by kernel_rfl) (by kernel_rfl) (fun _ _ _ h => h) (Or.inl ⟨by rfl, ?yz29⟩) hS ?_
            case yz29 =>
              intro w hSw
              go_simp; all_goals (with_reducible rfl)
            simp only [Act.put, List.setIfInBounds_toArray, List.set_cons_zero, List.set_cons_succ]
            refine wpAnyH_done (by kernel_rfl) ?_ _
            go_wp2_with fail
            go_roundw
            case rel =>
              exact ⟨t + 1, s, by omega, congrArg (Value.int .i64) (by omega), by omega, ⟨o, cap, o2, cap2, hE.below hdr, hR.below hdr, d1, d2, d3, d4, go, go2⟩, hok, hbel.trans (Below.mono hdr hbel.size), gg, gh⟩
            case measure => simp [intOf] <;> omega

      · have htm : ¬ (t : Int) < len := by omega
        clear hB
        have hdr : Below wr.heap.size wr wr.drew := (Below.refl _ _).drew
        go_wp2_with fail
        refine wp_region_held_drew (S := fun w' => Below wr.heap.size wr w') (by kernel_rfl) hdr (fun hS => ?_)
        refine wpAnyH_take (i := 0) (oi := { dst := some 99, op := Op.move (Operand.tmp 3), type := 23, pos := "law.go:64", after := #[], guard := none }) (v := ?vq30) rfl (by kernel_rfl) (by kernel_rfl) (by kernel_rfl) (fun _ _ _ h => h) (Or.inl ⟨by rfl, ?yq30⟩) hS ?_
        case yq30 =>
          intro w hSw
          go_simp; all_goals (with_reducible rfl)
        simp only [Act.put, List.setIfInBounds_toArray, List.set_cons_zero, List.set_cons_succ]
        refine wpAnyH_take (i := 3) (oi := { dst := some 102, op := Op.move (Operand.tmp 4), type := 26, pos := "law.go:64", after := #[], guard := none }) (v := ?vq31) rfl (by kernel_rfl) (by kernel_rfl) (by kernel_rfl) (fun _ _ _ h => h) (Or.inl ⟨by rfl, ?yq31⟩) hS ?_
        case yq31 =>
          intro w hSw
          go_simp; all_goals (with_reducible rfl)
        simp only [Act.put, List.setIfInBounds_toArray, List.set_cons_zero, List.set_cons_succ]
        refine wpAnyH_ready (rs := [1]) (by kernel_rfl) (by simp) ?_
        refine (AllReadyH.cons (o := { dst := some 100, op := Op.call { callee := Callee.value (Operand.func 12), args := #[Operand.tmp 99], argTypes := #[23] }, type := 38, pos := "law.go:64", after := #[{ on := 0, ground := Ground.data }], guard := none }) rfl (fun K hK => ?_) AllReadyH.nil)
        go_simp
        refine (bytes_any g o cap s _ (hE.below hdr) (by omega)).mono ?_
        rintro e w5 ⟨v5, rfl, hO5, hb5⟩
        obtain ⟨A5, c5, rfl, _, _, hB5⟩ := hO5.read
        have g5 := below_after hdr hb5
        have k5 := run_str hB5 c5
        go_wp2_with fail
        refine hK.out _ _ g5 (fun _ => ?_)
        clear hK K
        refine wpAnyH_ready (rs := [2, 4]) (by kernel_rfl) (by simp) ?_
        refine (AllReadyH.cons (o := { dst := some 101, op := Op.convert 38 9 (Operand.tmp 100), type := 9, pos := "law.go:64", after := #[{ on := 1, ground := Ground.data }], guard := none }) rfl (fun K hK => ?_) (AllReadyH.cons (o := { dst := some 103, op := Op.call { callee := Callee.value (Operand.func 13), args := #[Operand.tmp 102], argTypes := #[26] }, type := 38, pos := "law.go:64", after := #[{ on := 3, ground := Ground.data }, { on := 1, ground := Ground.chain }], guard := none }) rfl (fun K hK => ?_) AllReadyH.nil))
        · skip
          go_simp
          refine hK.out _ _ g5 (fun _ => ?_)
          clear hK K
          refine wpAnyH_ready (rs := [4]) (by kernel_rfl) (by simp) ?_
          refine (AllReadyH.cons (o := { dst := some 103, op := Op.call { callee := Callee.value (Operand.func 13), args := #[Operand.tmp 102], argTypes := #[26] }, type := 38, pos := "law.go:64", after := #[{ on := 3, ground := Ground.data }, { on := 1, ground := Ground.chain }], guard := none }) rfl (fun K hK => ?_) AllReadyH.nil)
          go_simp
          refine (rbytes_any h o2 cap2 s _ (hR.below g5) (s.ok_small hok) (by omega)).mono ?_
          rintro e w6 ⟨v6, rfl, hO6, hb6⟩
          obtain ⟨A6, c6, rfl, _, _, hB6⟩ := hO6.read
          have g6 := below_after g5 hb6
          have k6 := run_str hB6 c6
          have k5 := run_str (hB5.below hb6) c5
          go_wp2_with fail
          refine hK.out _ _ g6 (fun _ => ?_)
          clear hK K
          refine wpAnyH_ready (rs := [5]) (by kernel_rfl) (by simp) ?_
          refine (AllReadyH.cons (o := { dst := some 104, op := Op.convert 38 9 (Operand.tmp 103), type := 9, pos := "law.go:64", after := #[{ on := 4, ground := Ground.data }], guard := none }) rfl (fun K hK => ?_) AllReadyH.nil)
          go_simp
          refine hK.out _ _ g6 (fun _ => ?_)
          clear hK K
          refine wpAnyH_ready (rs := [6]) (by kernel_rfl) (by simp) ?_
          refine (AllReadyH.cons (o := { dst := some 105, op := Op.binOp BinOp.eql 9 (Operand.tmp 101) (Operand.tmp 104) 9, type := 4, pos := "law.go:64", after := #[{ on := 2, ground := Ground.data }, { on := 5, ground := Ground.data }], guard := none }) rfl (fun K hK => ?_) AllReadyH.nil)
          go_simp
          refine hK.out _ _ g6 (fun _ => ?_)
          clear hK K
          refine wpAnyH_ready (rs := [7]) (by kernel_rfl) (by simp) ?_
          refine (AllReadyH.cons (o := { dst := some 106, op := Op.move (Operand.tmp 105), type := 4, pos := "law.go:64", after := #[{ on := 6, ground := Ground.data }, { on := 4, ground := Ground.chain }], guard := none }) rfl (fun K hK => ?_) AllReadyH.nil)
          go_simp
          refine hK.out _ _ g6 (fun _ => ?_)
          clear hK K
          refine wpAnyH_ready (rs := [8]) (by kernel_rfl) (by simp) ?_
          refine (AllReadyH.cons (o := { dst := some 107, op := Op.call { callee := Callee.value (Operand.func 6), args := #[], argTypes := #[] }, type := 4, pos := "law.go:64", after := #[{ on := 7, ground := Ground.chain }, { on := 7, ground := Ground.guard }], guard := some (7, true) }) rfl (fun K hK => ?_) AllReadyH.nil)
          go_simp
          refine (knows_any _).mono ?_
          rintro e w7 ⟨rfl, hb7⟩
          have g7 := below_after g6 hb7
          go_wp2_with fail
          refine hK.out _ _ g7 (fun _ => ?_)
          clear hK K
          refine wpAnyH_ready (rs := [9]) (by kernel_rfl) (by simp) ?_
          refine (AllReadyH.cons (o := { dst := some 108, op := Op.pick (Operand.tmp 106) (Operand.tmp 107) (Operand.const (Value.bool false)), type := 4, pos := "law.go:64", after := #[{ on := 7, ground := Ground.data }, { on := 8, ground := Ground.data }], guard := none }) rfl (fun K hK => ?_) AllReadyH.nil)
          go_simp
          refine hK.out _ _ g7 (fun _ => ?_)
          clear hK K
          refine wpAnyH_ready (rs := [10]) (by kernel_rfl) (by simp) ?_
          refine (AllReadyH.cons (o := { dst := some 2, op := Op.assign (Operand.tmp 108), type := 4, pos := "law.go:64", after := #[{ on := 9, ground := Ground.data }, { on := 8, ground := Ground.chain }, { on := 0, ground := Ground.phase }, { on := 1, ground := Ground.phase }, { on := 2, ground := Ground.phase }, { on := 3, ground := Ground.phase }, { on := 4, ground := Ground.phase }, { on := 5, ground := Ground.phase }, { on := 6, ground := Ground.phase }, { on := 7, ground := Ground.phase }, { on := 8, ground := Ground.phase }, { on := 9, ground := Ground.phase }], guard := none }) rfl (fun K hK => ?_) AllReadyH.nil)
          go_simp
          refine hK.out _ _ g7 (fun _ => ?_)
          clear hK K
          refine wpAnyH_done (by kernel_rfl) ?_ _
          go_wp2_with fail
          go_ret
          exact ⟨rfl, hbel.trans (g7.mono hbel.size)⟩
        · skip
          go_simp
          refine (rbytes_any h o2 cap2 s _ (hR.below g5) (s.ok_small hok) (by omega)).mono ?_
          rintro e w6 ⟨v6, rfl, hO6, hb6⟩
          obtain ⟨A6, c6, rfl, _, _, hB6⟩ := hO6.read
          have g6 := below_after g5 hb6
          have k6 := run_str hB6 c6
          have k5 := run_str (hB5.below hb6) c5
          go_wp2_with fail
          refine hK.out _ _ g6 (fun _ => ?_)
          clear hK K
          refine wpAnyH_ready (rs := [2, 5]) (by kernel_rfl) (by simp) ?_
          refine (AllReadyH.cons (o := { dst := some 101, op := Op.convert 38 9 (Operand.tmp 100), type := 9, pos := "law.go:64", after := #[{ on := 1, ground := Ground.data }], guard := none }) rfl (fun K hK => ?_) (AllReadyH.cons (o := { dst := some 104, op := Op.convert 38 9 (Operand.tmp 103), type := 9, pos := "law.go:64", after := #[{ on := 4, ground := Ground.data }], guard := none }) rfl (fun K hK => ?_) AllReadyH.nil))
          · skip
            go_simp
            refine hK.out _ _ g6 (fun _ => ?_)
            clear hK K
            refine wpAnyH_ready (rs := [5]) (by kernel_rfl) (by simp) ?_
            refine (AllReadyH.cons (o := { dst := some 104, op := Op.convert 38 9 (Operand.tmp 103), type := 9, pos := "law.go:64", after := #[{ on := 4, ground := Ground.data }], guard := none }) rfl (fun K hK => ?_) AllReadyH.nil)
            go_simp
            refine hK.out _ _ g6 (fun _ => ?_)
            clear hK K
            refine wpAnyH_ready (rs := [6]) (by kernel_rfl) (by simp) ?_
            refine (AllReadyH.cons (o := { dst := some 105, op := Op.binOp BinOp.eql 9 (Operand.tmp 101) (Operand.tmp 104) 9, type := 4, pos := "law.go:64", after := #[{ on := 2, ground := Ground.data }, { on := 5, ground := Ground.data }], guard := none }) rfl (fun K hK => ?_) AllReadyH.nil)
            go_simp
            refine hK.out _ _ g6 (fun _ => ?_)
            clear hK K
            refine wpAnyH_ready (rs := [7]) (by kernel_rfl) (by simp) ?_
            refine (AllReadyH.cons (o := { dst := some 106, op := Op.move (Operand.tmp 105), type := 4, pos := "law.go:64", after := #[{ on := 6, ground := Ground.data }, { on := 4, ground := Ground.chain }], guard := none }) rfl (fun K hK => ?_) AllReadyH.nil)
            go_simp
            refine hK.out _ _ g6 (fun _ => ?_)
            clear hK K
            refine wpAnyH_ready (rs := [8]) (by kernel_rfl) (by simp) ?_
            refine (AllReadyH.cons (o := { dst := some 107, op := Op.call { callee := Callee.value (Operand.func 6), args := #[], argTypes := #[] }, type := 4, pos := "law.go:64", after := #[{ on := 7, ground := Ground.chain }, { on := 7, ground := Ground.guard }], guard := some (7, true) }) rfl (fun K hK => ?_) AllReadyH.nil)
            go_simp
            refine (knows_any _).mono ?_
            rintro e w7 ⟨rfl, hb7⟩
            have g7 := below_after g6 hb7
            go_wp2_with fail
            refine hK.out _ _ g7 (fun _ => ?_)
            clear hK K
            refine wpAnyH_ready (rs := [9]) (by kernel_rfl) (by simp) ?_
            refine (AllReadyH.cons (o := { dst := some 108, op := Op.pick (Operand.tmp 106) (Operand.tmp 107) (Operand.const (Value.bool false)), type := 4, pos := "law.go:64", after := #[{ on := 7, ground := Ground.data }, { on := 8, ground := Ground.data }], guard := none }) rfl (fun K hK => ?_) AllReadyH.nil)
            go_simp
            refine hK.out _ _ g7 (fun _ => ?_)
            clear hK K
            refine wpAnyH_ready (rs := [10]) (by kernel_rfl) (by simp) ?_
            refine (AllReadyH.cons (o := { dst := some 2, op := Op.assign (Operand.tmp 108), type := 4, pos := "law.go:64", after := #[{ on := 9, ground := Ground.data }, { on := 8, ground := Ground.chain }, { on := 0, ground := Ground.phase }, { on := 1, ground := Ground.phase }, { on := 2, ground := Ground.phase }, { on := 3, ground := Ground.phase }, { on := 4, ground := Ground.phase }, { on := 5, ground := Ground.phase }, { on := 6, ground := Ground.phase }, { on := 7, ground := Ground.phase }, { on := 8, ground := Ground.phase }, { on := 9, ground := Ground.phase }], guard := none }) rfl (fun K hK => ?_) AllReadyH.nil)
            go_simp
            refine hK.out _ _ g7 (fun _ => ?_)
            clear hK K
            refine wpAnyH_done (by kernel_rfl) ?_ _
            go_wp2_with fail
            go_ret
            exact ⟨rfl, hbel.trans (g7.mono hbel.size)⟩
          · skip
            go_simp
            refine hK.out _ _ g6 (fun _ => ?_)
            clear hK K
            refine wpAnyH_ready (rs := [2]) (by kernel_rfl) (by simp) ?_
            refine (AllReadyH.cons (o := { dst := some 101, op := Op.convert 38 9 (Operand.tmp 100), type := 9, pos := "law.go:64", after := #[{ on := 1, ground := Ground.data }], guard := none }) rfl (fun K hK => ?_) AllReadyH.nil)
            go_simp
            refine hK.out _ _ g6 (fun _ => ?_)
            clear hK K
            refine wpAnyH_ready (rs := [6]) (by kernel_rfl) (by simp) ?_
            refine (AllReadyH.cons (o := { dst := some 105, op := Op.binOp BinOp.eql 9 (Operand.tmp 101) (Operand.tmp 104) 9, type := 4, pos := "law.go:64", after := #[{ on := 2, ground := Ground.data }, { on := 5, ground := Ground.data }], guard := none }) rfl (fun K hK => ?_) AllReadyH.nil)
            go_simp
            refine hK.out _ _ g6 (fun _ => ?_)
            clear hK K
            refine wpAnyH_ready (rs := [7]) (by kernel_rfl) (by simp) ?_
            refine (AllReadyH.cons (o := { dst := some 106, op := Op.move (Operand.tmp 105), type := 4, pos := "law.go:64", after := #[{ on := 6, ground := Ground.data }, { on := 4, ground := Ground.chain }], guard := none }) rfl (fun K hK => ?_) AllReadyH.nil)
            go_simp
            refine hK.out _ _ g6 (fun _ => ?_)
            clear hK K
            refine wpAnyH_ready (rs := [8]) (by kernel_rfl) (by simp) ?_
            refine (AllReadyH.cons (o := { dst := some 107, op := Op.call { callee := Callee.value (Operand.func 6), args := #[], argTypes := #[] }, type := 4, pos := "law.go:64", after := #[{ on := 7, ground := Ground.chain }, { on := 7, ground := Ground.guard }], guard := some (7, true) }) rfl (fun K hK => ?_) AllReadyH.nil)
            go_simp
            refine (knows_any _).mono ?_
            rintro e w7 ⟨rfl, hb7⟩
            have g7 := below_after g6 hb7
            go_wp2_with fail
            refine hK.out _ _ g7 (fun _ => ?_)
            clear hK K
            refine wpAnyH_ready (rs := [9]) (by kernel_rfl) (by simp) ?_
            refine (AllReadyH.cons (o := { dst := some 108, op := Op.pick (Operand.tmp 106) (Operand.tmp 107) (Operand.const (Value.bool false)), type := 4, pos := "law.go:64", after := #[{ on := 7, ground := Ground.data }, { on := 8, ground := Ground.data }], guard := none }) rfl (fun K hK => ?_) AllReadyH.nil)
            go_simp
            refine hK.out _ _ g7 (fun _ => ?_)
            clear hK K
            refine wpAnyH_ready (rs := [10]) (by kernel_rfl) (by simp) ?_
            refine (AllReadyH.cons (o := { dst := some 2, op := Op.assign (Operand.tmp 108), type := 4, pos := "law.go:64", after := #[{ on := 9, ground := Ground.data }, { on := 8, ground := Ground.chain }, { on := 0, ground := Ground.phase }, { on := 1, ground := Ground.phase }, { on := 2, ground := Ground.phase }, { on := 3, ground := Ground.phase }, { on := 4, ground := Ground.phase }, { on := 5, ground := Ground.phase }, { on := 6, ground := Ground.phase }, { on := 7, ground := Ground.phase }, { on := 8, ground := Ground.phase }, { on := 9, ground := Ground.phase }], guard := none }) rfl (fun K hK => ?_) AllReadyH.nil)
            go_simp
            refine hK.out _ _ g7 (fun _ => ?_)
            clear hK K
            refine wpAnyH_done (by kernel_rfl) ?_ _
            go_wp2_with fail
            go_ret
            exact ⟨rfl, hbel.trans (g7.mono hbel.size)⟩

end Go.Proofs.Yteiglcgkhcmkeaa
