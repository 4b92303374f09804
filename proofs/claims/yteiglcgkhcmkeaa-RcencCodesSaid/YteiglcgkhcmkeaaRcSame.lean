/- The contract of the law RcencSame. -/
import Derived.Test.YteiglcgkhcmkeaaRcKnows
import Derived.Test.YteiglcgkhcmkeaaRcRefBit
import Derived.Test.YteiglcgkhcmkeaaRcRefBytes
namespace Go.Proofs.Yteiglcgkhcmkeaa
open Go.RowKit

theorem RefAt.keep {w w' : World} {h o cap : Nat} {s : Rc.St} (e : RefAt w h o cap s) (hg : w'.heap[h]? = w.heap[h]?) (ho : w'.heap[o]? = w.heap[o]?) : RefAt w' h o cap s :=
  ⟨hg.trans e.blk, own_keep e.own ho, e.ne⟩
theorem RefAt.lt {w : World} {h o cap : Nat} {s : Rc.St} (e : RefAt w h o cap s) : h < w.heap.size ∧ o < w.heap.size :=
  ⟨block_lt_of_cell (cell20_of e.blk), (e.own.lt o rfl).2⟩
theorem RefAt.below {w w' : World} {h o cap : Nat} {s : Rc.St} (e : RefAt w h o cap s) (hb : Below w.heap.size w w') : RefAt w' h o cap s :=
  e.keep (hb.block h e.lt.1) (hb.block o e.lt.2)

theorem below_after {a b c : World} (h : Below a.heap.size a b) (k : Below b.heap.size b c) : Below a.heap.size a c := h.trans (k.mono h.size)
theorem next_bv (c : Nat) (one : Bool) : ∃ y : BitVec 16, Rc.next (Rc.fair c) one = y.toNat := by
  obtain ⟨h1, h2⟩ := Rc.fair_bounds c
  have h : Rc.next (Rc.fair c) one < 65536 := by unfold Rc.next; cases one <;> simp <;> omega
  exact ⟨BitVec.ofNat 16 (Rc.next (Rc.fair c) one), by rw [BitVec.toNat_ofNat, Nat.mod_eq_of_lt (by omega)]⟩

/-- Both coders hold the same state, in blocks of their own. -/
structure Both (w wr : World) (g h : Nat) (s : Rc.St) : Prop where
  at_ : ∃ o cap o2 cap2, EncAt wr g o cap s ∧ RefAt wr h o2 cap2 s ∧ g ≠ h ∧ g ≠ o2 ∧ o ≠ h ∧ o ≠ o2 ∧ w.heap.size ≤ o ∧ w.heap.size ≤ o2
  ok : s.ok
  below : Below w.heap.size w wr
  g : w.heap.size ≤ g
  h : w.heap.size ≤ h

/-- The coder has coded a bit, and then the reference has. -/
theorem Both.step {wr w1 w2 : World} {g h o cap o2 cap2 : Nat} {s s' : Rc.St} (hE : EncAt wr g o cap s) (hR : RefAt wr h o2 cap2 s) (h1 : g ≠ h) (h2 : g ≠ o2) (h3 : o ≠ h) (h4 : o ≠ o2)
    (hS : Shifted wr g o s' w1) : RefAt w1 h o2 cap2 s ∧ (RefDone w1 h o2 s' w2 → ∃ o' cap' o2' cap2', EncAt w2 g o' cap' s' ∧ RefAt w2 h o2' cap2' s' ∧ g ≠ o2' ∧ o' ≠ h ∧ o' ≠ o2' ∧ (o' = o ∨ wr.heap.size ≤ o') ∧ (o2' = o2 ∨ wr.heap.size ≤ o2')) := by
  obtain ⟨o', cap', hE1, hon, ho⟩ := hS
  have l1 := hE.lt
  have l2 := hR.lt
  have l3 := hE1.lt
  have hsz := hon.size
  refine ⟨hR.keep (hon.block h l2.1 (by simp; omega)) (hon.block o2 l2.2 (by simp; omega)), ?_⟩
  rintro ⟨o2', cap2', hR2, hon2, ho2⟩
  refine ⟨o', cap', o2', cap2', hE1.keep (hon2.block g l3.1 (by simpa using h1)) (hon2.block o' l3.2 (by simp; omega)), hR2, ?_, ?_, ?_, ho, ?_⟩ <;> omega

set_option maxRecDepth 100000 in
set_option maxHeartbeats 1000000 in
theorem same_law (A : Option Addr) (len c : Nat) (B : Nat → Bool) (chance : BitVec 16) (w : World) (hB : len = 0 ∨ ∃ a : Addr, A = some a ∧ a.block < w.heap.size ∧ ∀ i, i < len → w.cell? (a.add i) = some (.bool (B i))) (_hc : len ≤ c) (_hm : c ≤ 9223372036854775807) :
    Calls Try.prog 4 #[.slice A len c, .int .u16 chance.toNat] w (Holds w) := by
  by_cases h : 500 < len
  · have h' : (500 : Int) < len := by omega
    go_enter Try.func4, Try.ntmps4
    go_wp2_with fail
    refine (new_any _).mono ?_
    rintro e w1 ⟨g, o, cap, rfl, hE, hb1, hg, ho⟩
    go_wp2_with fail
    refine (knows_any _).mono ?_
    rintro e w' ⟨rfl, hb⟩
    go_wp2_with fail
    go_ret
    exact ⟨rfl, hb1.trans (hb.mono hb1.size)⟩
  · have h' : (len : Int) ≤ 500 := by omega
    go_enter Try.func4, Try.ntmps4
    go_wp2_with fail
    refine (new_any _).mono ?_
    rintro e w1 ⟨g, o, cap, rfl, hE, hb1, hg, ho⟩
    go_wp2_with fail
    refine (rnew_any _).mono ?_
    rintro e w2 ⟨h, o2, cap2, rfl, hR, hb2, hh, ho2⟩
    have l1 := hE.lt
    have hE2 := hE.below hb2
    have hsz := hb1.size
    have hboth : Both w w2 g h st0 := ⟨⟨o, cap, o2, cap2, hE2, hR, by omega, by omega, by omega, by omega, by omega, by omega⟩, st0_ok, hb1.trans (hb2.mono hb1.size), by omega, by omega⟩
    clear hE hE2 hR hb1 hb2
    go_wp2_with fail
    go_loopw [7, 8, 9] (fun p q i wr => ∃ (t : Nat) (s : Rc.St) (x : BitVec 16), t ≤ len ∧ p = .int .u16 x.toNat ∧ q = .int .u16 x.toNat ∧ i = .int .i64 (t : Nat) ∧ s.k ≤ 2 * t ∧ Both w wr g h s) (fun _ _ i _ => len - (intOf i).toNat)
    case atStart => exact ⟨0, st0, chance, by omega, rfl, rfl, rfl, by decide, hboth⟩
    case round =>
      obtain ⟨t, s, x, ht, rfl, rfl, rfl, hk, hbo⟩ := hrel
      obtain ⟨⟨o, cap, o2, cap2, hE, hR, d1, d2, d3, d4, go, go2⟩, hok, hbel, gg, gh⟩ := hbo
      by_cases hlt : t < len
      · obtain ⟨a, rfl, hab, hcell⟩ := hB.resolve_left (by omega)
        have hct : wr.cell? (a.add t) = some (.bool (B t)) := by
          rw [← hcell t hlt]; exact hbel.cell (by unfold Addr.add; split <;> exact hab)
        clear hcell hB
        have hlt' : (t : Int) < len := by omega
        generalize B t = b at *
        cases b with
        | false =>
          have hbit := Lib.hid (bit_any g o cap s x 0 wr hE hok (by omega))
          rw [show ((0 : Int) != 0) = false from rfl] at hbit
          obtain ⟨y, hy⟩ : ∃ y : BitVec 16, Rc.next (Rc.fair x.toNat) false = y.toNat := next_bv _ _
          have hs1 : (Rc.St.scale 2 (s.pick (Rc.fair x.toNat) false)).ok := s.bit_ok x.toNat false hok
          have hs2 : (Rc.St.scale 2 (s.pick (Rc.fair x.toNat) false)).k ≤ s.k + 2 := s.bit_k x.toNat false
          have hrb := fun (w1 : World) (hR1 : RefAt w1 h o2 cap2 s) => rbit_any h o2 cap2 s x false w1 hR1 hok (by omega)
          rw [hy] at hbit hrb
          have HRB := Lib.hid hrb
          clear hrb hy
          generalize Rc.St.scale 2 (s.pick (Rc.fair x.toNat) false) = s' at *
          go_wp2_with fail
          refine hbit.out.mono ?_
          rintro e w3 ⟨rfl, hsh⟩
          have hst := fun w4 => Both.step (w2 := w4) hE hR d1 d2 d3 d4 hsh
          have HST := Lib.hid hst
          clear hst
          go_wp2_with fail
          refine (HRB.out _ (HST.out w3).1).mono ?_
          rintro e w4 ⟨rfl, hrd⟩
          obtain ⟨o', cap', o2', cap2', hE', hR', n2, n3, n4, oo, oo2⟩ := (HST.out w4).2 hrd
          go_wp2_with fail
          go_roundw
          case rel =>
            have hbs := hbel.size
            obtain ⟨_, _, _, hon, _⟩ := hsh
            obtain ⟨_, _, _, hon2, _⟩ := hrd
            have b1 : Below w.heap.size w w3 := hbel.trans (hon.below hbs (by intro i hi; simp at hi; omega))
            have b2 : Below w.heap.size w w4 := b1.trans (hon2.below b1.size (by intro i hi; simp at hi; omega))
            exact ⟨t + 1, s', y, by omega, rfl, rfl, congrArg (Value.int .i64) (by omega), by omega, ⟨o', cap', o2', cap2', hE', hR', d1, n2, n3, n4, by omega, by omega⟩, hs1, b2, gg, gh⟩
          case measure => simp [intOf] <;> omega
        | true =>
          have hbit := Lib.hid (bit_any g o cap s x 1 wr hE hok (by omega))
          rw [show ((1 : Int) != 0) = true from rfl] at hbit
          obtain ⟨y, hy⟩ : ∃ y : BitVec 16, Rc.next (Rc.fair x.toNat) true = y.toNat := next_bv _ _
          have hs1 : (Rc.St.scale 2 (s.pick (Rc.fair x.toNat) true)).ok := s.bit_ok x.toNat true hok
          have hs2 : (Rc.St.scale 2 (s.pick (Rc.fair x.toNat) true)).k ≤ s.k + 2 := s.bit_k x.toNat true
          have hrb := fun (w1 : World) (hR1 : RefAt w1 h o2 cap2 s) => rbit_any h o2 cap2 s x true w1 hR1 hok (by omega)
          rw [hy] at hbit hrb
          have HRB := Lib.hid hrb
          clear hrb hy
          generalize Rc.St.scale 2 (s.pick (Rc.fair x.toNat) true) = s' at *
          go_wp2_with fail
          refine hbit.out.mono ?_
          rintro e w3 ⟨rfl, hsh⟩
          have hst := fun w4 => Both.step (w2 := w4) hE hR d1 d2 d3 d4 hsh
          have HST := Lib.hid hst
          clear hst
          go_wp2_with fail
          refine (HRB.out _ (HST.out w3).1).mono ?_
          rintro e w4 ⟨rfl, hrd⟩
          obtain ⟨o', cap', o2', cap2', hE', hR', n2, n3, n4, oo, oo2⟩ := (HST.out w4).2 hrd
          go_wp2_with fail
          go_roundw
          case rel =>
            have hbs := hbel.size
            obtain ⟨_, _, _, hon, _⟩ := hsh
            obtain ⟨_, _, _, hon2, _⟩ := hrd
            have b1 : Below w.heap.size w w3 := hbel.trans (hon.below hbs (by intro i hi; simp at hi; omega))
            have b2 : Below w.heap.size w w4 := b1.trans (hon2.below b1.size (by intro i hi; simp at hi; omega))
            exact ⟨t + 1, s', y, by omega, rfl, rfl, congrArg (Value.int .i64) (by omega), by omega, ⟨o', cap', o2', cap2', hE', hR', d1, n2, n3, n4, by omega, by omega⟩, hs1, b2, gg, gh⟩
          case measure => simp [intOf] <;> omega
      · have htm : ¬ (t : Int) < len := by omega
        clear hB
        have hdr : Below wr.heap.size wr wr.drew := (Below.refl _ _).drew
        go_wp2_with fail
        refine wp_region_held_drew (S := fun w' => Below wr.heap.size wr w') (by kernel_rfl) hdr (fun hS => ?_)
        refine wpAnyH_take (i := 0) (oi := { dst := some 51, op := Op.move (Operand.tmp 5), type := 23, pos := "law.go:87", after := #[], guard := none }) (v := ?vt0) rfl (by kernel_rfl) (by kernel_rfl) (by kernel_rfl) (fun _ _ _ h => h) (Or.inl ⟨by rfl, ?yt0⟩) hS ?_
        case yt0 => intro w hSw; go_simp; all_goals (with_reducible rfl)
        simp only [Act.put, List.setIfInBounds_toArray, List.set_cons_zero, List.set_cons_succ]
        refine wpAnyH_take (i := 3) (oi := { dst := some 54, op := Op.move (Operand.tmp 6), type := 26, pos := "law.go:87", after := #[], guard := none }) (v := ?vt3) rfl (by kernel_rfl) (by kernel_rfl) (by kernel_rfl) (fun _ _ _ h => h) (Or.inl ⟨by rfl, ?yt3⟩) hS ?_
        case yt3 => intro w hSw; go_simp; all_goals (with_reducible rfl)
        simp only [Act.put, List.setIfInBounds_toArray, List.set_cons_zero, List.set_cons_succ]
        refine wpAnyH_ready (rs := [1]) (by kernel_rfl) (by simp) ?_
        refine (AllReadyH.cons (o := { dst := some 52, op := Op.call { callee := Callee.value (Operand.func 12), args := #[Operand.tmp 51], argTypes := #[23] }, type := 38, pos := "law.go:87", after := #[{ on := 0, ground := Ground.data }], guard := none }) rfl (fun K hK => ?_) AllReadyH.nil)
        go_simp
        refine (bytes_any g o cap s _ (hE.below hdr) (by omega)).mono ?_; rintro e w5 ⟨v5, rfl, hO5, hb5⟩; obtain ⟨A5, c5, rfl, _, _, hB5⟩ := hO5.read; have g5 := below_after hdr hb5; have k5 := run_str hB5 c5; go_wp2_with fail
        refine hK.out _ _ g5 (fun _ => ?_)
        clear hK K
        refine wpAnyH_ready (rs := [2, 4]) (by kernel_rfl) (by simp) ?_
        refine (AllReadyH.cons (o := { dst := some 53, op := Op.convert 38 9 (Operand.tmp 52), type := 9, pos := "law.go:87", after := #[{ on := 1, ground := Ground.data }], guard := none }) rfl (fun K hK => ?_) (AllReadyH.cons (o := { dst := some 55, op := Op.call { callee := Callee.value (Operand.func 13), args := #[Operand.tmp 54], argTypes := #[26] }, type := 38, pos := "law.go:87", after := #[{ on := 3, ground := Ground.data }, { on := 1, ground := Ground.chain }], guard := none }) rfl (fun K hK => ?_) AllReadyH.nil))
        · skip
          go_simp
          refine hK.out _ _ g5 (fun _ => ?_)
          clear hK K
          refine wpAnyH_ready (rs := [4]) (by kernel_rfl) (by simp) ?_
          refine (AllReadyH.cons (o := { dst := some 55, op := Op.call { callee := Callee.value (Operand.func 13), args := #[Operand.tmp 54], argTypes := #[26] }, type := 38, pos := "law.go:87", after := #[{ on := 3, ground := Ground.data }, { on := 1, ground := Ground.chain }], guard := none }) rfl (fun K hK => ?_) AllReadyH.nil)
          go_simp
          refine (rbytes_any h o2 cap2 s _ (hR.below g5) (s.ok_small hok) (by omega)).mono ?_; rintro e w6 ⟨v6, rfl, hO6, hb6⟩; obtain ⟨A6, c6, rfl, _, _, hB6⟩ := hO6.read; have g6 := below_after g5 hb6; have k6 := run_str hB6 c6; have k5 := run_str (hB5.below hb6) c5; go_wp2_with fail
          refine hK.out _ _ g6 (fun _ => ?_)
          clear hK K
          refine wpAnyH_ready (rs := [5]) (by kernel_rfl) (by simp) ?_
          refine (AllReadyH.cons (o := { dst := some 56, op := Op.convert 38 9 (Operand.tmp 55), type := 9, pos := "law.go:87", after := #[{ on := 4, ground := Ground.data }], guard := none }) rfl (fun K hK => ?_) AllReadyH.nil)
          go_simp
          refine hK.out _ _ g6 (fun _ => ?_)
          clear hK K
          refine wpAnyH_ready (rs := [6]) (by kernel_rfl) (by simp) ?_
          refine (AllReadyH.cons (o := { dst := some 57, op := Op.binOp BinOp.eql 9 (Operand.tmp 53) (Operand.tmp 56) 9, type := 4, pos := "law.go:87", after := #[{ on := 2, ground := Ground.data }, { on := 5, ground := Ground.data }], guard := none }) rfl (fun K hK => ?_) AllReadyH.nil)
          go_simp
          refine hK.out _ _ g6 (fun _ => ?_)
          clear hK K
          refine wpAnyH_ready (rs := [7]) (by kernel_rfl) (by simp) ?_
          refine (AllReadyH.cons (o := { dst := some 58, op := Op.move (Operand.tmp 57), type := 4, pos := "law.go:87", after := #[{ on := 6, ground := Ground.data }, { on := 4, ground := Ground.chain }], guard := none }) rfl (fun K hK => ?_) AllReadyH.nil)
          go_simp
          refine hK.out _ _ g6 (fun _ => ?_)
          clear hK K
          refine wpAnyH_ready (rs := [8]) (by kernel_rfl) (by simp) ?_
          refine (AllReadyH.cons (o := { dst := some 59, op := Op.call { callee := Callee.value (Operand.func 6), args := #[], argTypes := #[] }, type := 4, pos := "law.go:87", after := #[{ on := 7, ground := Ground.chain }, { on := 7, ground := Ground.guard }], guard := some (7, true) }) rfl (fun K hK => ?_) AllReadyH.nil)
          go_simp
          refine (knows_any _).mono ?_; rintro e w7 ⟨rfl, hb7⟩; have g7 := below_after g6 hb7; go_wp2_with fail
          refine hK.out _ _ g7 (fun _ => ?_)
          clear hK K
          refine wpAnyH_ready (rs := [9]) (by kernel_rfl) (by simp) ?_
          refine (AllReadyH.cons (o := { dst := some 60, op := Op.pick (Operand.tmp 58) (Operand.tmp 59) (Operand.const (Value.bool false)), type := 4, pos := "law.go:87", after := #[{ on := 7, ground := Ground.data }, { on := 8, ground := Ground.data }], guard := none }) rfl (fun K hK => ?_) AllReadyH.nil)
          go_simp
          refine hK.out _ _ g7 (fun _ => ?_)
          clear hK K
          refine wpAnyH_ready (rs := [10]) (by kernel_rfl) (by simp) ?_
          refine (AllReadyH.cons (o := { dst := some 4, op := Op.assign (Operand.tmp 60), type := 4, pos := "law.go:87", after := #[{ on := 9, ground := Ground.data }, { on := 8, ground := Ground.chain }, { on := 0, ground := Ground.phase }, { on := 1, ground := Ground.phase }, { on := 2, ground := Ground.phase }, { on := 3, ground := Ground.phase }, { on := 4, ground := Ground.phase }, { on := 5, ground := Ground.phase }, { on := 6, ground := Ground.phase }, { on := 7, ground := Ground.phase }, { on := 8, ground := Ground.phase }, { on := 9, ground := Ground.phase }], guard := none }) rfl (fun K hK => ?_) AllReadyH.nil)
          go_simp
          refine hK.out _ _ g7 (fun _ => ?_)
          clear hK K
          refine wpAnyH_done (by kernel_rfl) ?_ _
          go_wp2_with fail
          go_ret
          exact ⟨rfl, hbel.trans (g7.mono hbel.size)⟩
        · skip
          go_simp
          refine (rbytes_any h o2 cap2 s _ (hR.below g5) (s.ok_small hok) (by omega)).mono ?_; rintro e w6 ⟨v6, rfl, hO6, hb6⟩; obtain ⟨A6, c6, rfl, _, _, hB6⟩ := hO6.read; have g6 := below_after g5 hb6; have k6 := run_str hB6 c6; have k5 := run_str (hB5.below hb6) c5; go_wp2_with fail
          refine hK.out _ _ g6 (fun _ => ?_)
          clear hK K
          refine wpAnyH_ready (rs := [2, 5]) (by kernel_rfl) (by simp) ?_
          refine (AllReadyH.cons (o := { dst := some 53, op := Op.convert 38 9 (Operand.tmp 52), type := 9, pos := "law.go:87", after := #[{ on := 1, ground := Ground.data }], guard := none }) rfl (fun K hK => ?_) (AllReadyH.cons (o := { dst := some 56, op := Op.convert 38 9 (Operand.tmp 55), type := 9, pos := "law.go:87", after := #[{ on := 4, ground := Ground.data }], guard := none }) rfl (fun K hK => ?_) AllReadyH.nil))
          · skip
            go_simp
            refine hK.out _ _ g6 (fun _ => ?_)
            clear hK K
            refine wpAnyH_ready (rs := [5]) (by kernel_rfl) (by simp) ?_
            refine (AllReadyH.cons (o := { dst := some 56, op := Op.convert 38 9 (Operand.tmp 55), type := 9, pos := "law.go:87", after := #[{ on := 4, ground := Ground.data }], guard := none }) rfl (fun K hK => ?_) AllReadyH.nil)
            go_simp
            refine hK.out _ _ g6 (fun _ => ?_)
            clear hK K
            refine wpAnyH_ready (rs := [6]) (by kernel_rfl) (by simp) ?_
            refine (AllReadyH.cons (o := { dst := some 57, op := Op.binOp BinOp.eql 9 (Operand.tmp 53) (Operand.tmp 56) 9, type := 4, pos := "law.go:87", after := #[{ on := 2, ground := Ground.data }, { on := 5, ground := Ground.data }], guard := none }) rfl (fun K hK => ?_) AllReadyH.nil)
            go_simp
            refine hK.out _ _ g6 (fun _ => ?_)
            clear hK K
            refine wpAnyH_ready (rs := [7]) (by kernel_rfl) (by simp) ?_
            refine (AllReadyH.cons (o := { dst := some 58, op := Op.move (Operand.tmp 57), type := 4, pos := "law.go:87", after := #[{ on := 6, ground := Ground.data }, { on := 4, ground := Ground.chain }], guard := none }) rfl (fun K hK => ?_) AllReadyH.nil)
            go_simp
            refine hK.out _ _ g6 (fun _ => ?_)
            clear hK K
            refine wpAnyH_ready (rs := [8]) (by kernel_rfl) (by simp) ?_
            refine (AllReadyH.cons (o := { dst := some 59, op := Op.call { callee := Callee.value (Operand.func 6), args := #[], argTypes := #[] }, type := 4, pos := "law.go:87", after := #[{ on := 7, ground := Ground.chain }, { on := 7, ground := Ground.guard }], guard := some (7, true) }) rfl (fun K hK => ?_) AllReadyH.nil)
            go_simp
            refine (knows_any _).mono ?_; rintro e w7 ⟨rfl, hb7⟩; have g7 := below_after g6 hb7; go_wp2_with fail
            refine hK.out _ _ g7 (fun _ => ?_)
            clear hK K
            refine wpAnyH_ready (rs := [9]) (by kernel_rfl) (by simp) ?_
            refine (AllReadyH.cons (o := { dst := some 60, op := Op.pick (Operand.tmp 58) (Operand.tmp 59) (Operand.const (Value.bool false)), type := 4, pos := "law.go:87", after := #[{ on := 7, ground := Ground.data }, { on := 8, ground := Ground.data }], guard := none }) rfl (fun K hK => ?_) AllReadyH.nil)
            go_simp
            refine hK.out _ _ g7 (fun _ => ?_)
            clear hK K
            refine wpAnyH_ready (rs := [10]) (by kernel_rfl) (by simp) ?_
            refine (AllReadyH.cons (o := { dst := some 4, op := Op.assign (Operand.tmp 60), type := 4, pos := "law.go:87", after := #[{ on := 9, ground := Ground.data }, { on := 8, ground := Ground.chain }, { on := 0, ground := Ground.phase }, { on := 1, ground := Ground.phase }, { on := 2, ground := Ground.phase }, { on := 3, ground := Ground.phase }, { on := 4, ground := Ground.phase }, { on := 5, ground := Ground.phase }, { on := 6, ground := Ground.phase }, { on := 7, ground := Ground.phase }, { on := 8, ground := Ground.phase }, { on := 9, ground := Ground.phase }], guard := none }) rfl (fun K hK => ?_) AllReadyH.nil)
            go_simp
            refine hK.out _ _ g7 (fun _ => ?_)
            clear hK K
            refine wpAnyH_done (by kernel_rfl) ?_ _
            go_wp2_with fail
            go_ret
            exact ⟨rfl, hbel.trans (g7.mono hbel.size)⟩
          · skip
            go_simp
            refine hK.out _ _ g6 (fun _ => ?_)
            clear hK K
            refine wpAnyH_ready (rs := [2]) (by kernel_rfl) (by simp) ?_
            refine (AllReadyH.cons (o := { dst := some 53, op := Op.convert 38 9 (Operand.tmp 52), type := 9, pos := "law.go:87", after := #[{ on := 1, ground := Ground.data }], guard := none }) rfl (fun K hK => ?_) AllReadyH.nil)
            go_simp
            refine hK.out _ _ g6 (fun _ => ?_)
            clear hK K
            refine wpAnyH_ready (rs := [6]) (by kernel_rfl) (by simp) ?_
            refine (AllReadyH.cons (o := { dst := some 57, op := Op.binOp BinOp.eql 9 (Operand.tmp 53) (Operand.tmp 56) 9, type := 4, pos := "law.go:87", after := #[{ on := 2, ground := Ground.data }, { on := 5, ground := Ground.data }], guard := none }) rfl (fun K hK => ?_) AllReadyH.nil)
            go_simp
            refine hK.out _ _ g6 (fun _ => ?_)
            clear hK K
            refine wpAnyH_ready (rs := [7]) (by kernel_rfl) (by simp) ?_
            refine (AllReadyH.cons (o := { dst := some 58, op := Op.move (Operand.tmp 57), type := 4, pos := "law.go:87", after := #[{ on := 6, ground := Ground.data }, { on := 4, ground := Ground.chain }], guard := none }) rfl (fun K hK => ?_) AllReadyH.nil)
            go_simp
            refine hK.out _ _ g6 (fun _ => ?_)
            clear hK K
            refine wpAnyH_ready (rs := [8]) (by kernel_rfl) (by simp) ?_
            refine (AllReadyH.cons (o := { dst := some 59, op := Op.call { callee := Callee.value (Operand.func 6), args := #[], argTypes := #[] }, type := 4, pos := "law.go:87", after := #[{ on := 7, ground := Ground.chain }, { on := 7, ground := Ground.guard }], guard := some (7, true) }) rfl (fun K hK => ?_) AllReadyH.nil)
            go_simp
            refine (knows_any _).mono ?_; rintro e w7 ⟨rfl, hb7⟩; have g7 := below_after g6 hb7; go_wp2_with fail
            refine hK.out _ _ g7 (fun _ => ?_)
            clear hK K
            refine wpAnyH_ready (rs := [9]) (by kernel_rfl) (by simp) ?_
            refine (AllReadyH.cons (o := { dst := some 60, op := Op.pick (Operand.tmp 58) (Operand.tmp 59) (Operand.const (Value.bool false)), type := 4, pos := "law.go:87", after := #[{ on := 7, ground := Ground.data }, { on := 8, ground := Ground.data }], guard := none }) rfl (fun K hK => ?_) AllReadyH.nil)
            go_simp
            refine hK.out _ _ g7 (fun _ => ?_)
            clear hK K
            refine wpAnyH_ready (rs := [10]) (by kernel_rfl) (by simp) ?_
            refine (AllReadyH.cons (o := { dst := some 4, op := Op.assign (Operand.tmp 60), type := 4, pos := "law.go:87", after := #[{ on := 9, ground := Ground.data }, { on := 8, ground := Ground.chain }, { on := 0, ground := Ground.phase }, { on := 1, ground := Ground.phase }, { on := 2, ground := Ground.phase }, { on := 3, ground := Ground.phase }, { on := 4, ground := Ground.phase }, { on := 5, ground := Ground.phase }, { on := 6, ground := Ground.phase }, { on := 7, ground := Ground.phase }, { on := 8, ground := Ground.phase }, { on := 9, ground := Ground.phase }], guard := none }) rfl (fun K hK => ?_) AllReadyH.nil)
            go_simp
            refine hK.out _ _ g7 (fun _ => ?_)
            clear hK K
            refine wpAnyH_done (by kernel_rfl) ?_ _
            go_wp2_with fail
            go_ret
            exact ⟨rfl, hbel.trans (g7.mono hbel.size)⟩
end Go.Proofs.Yteiglcgkhcmkeaa
