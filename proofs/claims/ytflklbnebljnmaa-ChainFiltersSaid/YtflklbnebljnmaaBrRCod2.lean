/- The reference's Code of layer 14. -/
import Derived.Test.YtflklbnebljnmaaBrRCode
namespace Go.Proofs.Ytflklbnebljnmaa
open Go.RowKit

set_option maxRecDepth 100000 in
set_option maxHeartbeats 2000000 in
theorem rcode_any (id : Int) (hid : isId id) (back : Bool) (start : Nat) (hst : start < 4294967296) (A : Option Addr) (l : List UInt8) (c : Nat) (w : World) (hB : Bytes w A l) (hm : l.length ≤ 1000000) (hc : l.length ≤ c) (_hcm : c ≤ 9223372036854775807) :
    Calls Try.prog 28 #[.int .i64 id, .int .u32 (start : Nat), .slice A l.length c, .bool back] w (GivesB w (coded (lowOf id) (cvOf id back) start l)) := by
  have hhi : (id == 5 || id == 9) = !(lowOf id) := by rcases hid with rfl | rfl | rfl | rfl <;> rfl
  have HT := Lib.hid (turned_any id hid back)
  have HL := Lib.hid (cvOf_lt id back)
  have hcd : coded (lowOf id) (cvOf id back) start l = pre (lowOf id) (cvOf id back) start l (l.length / 4) ++ l.drop (4 * (l.length / 4)) := rfl
  have HCD := Lib.hid hcd
  clear hcd hid
  generalize coded (lowOf id) (cvOf id back) start l = X at *
  generalize lowOf id = low at *
  generalize cvOf id back = cv at *
  go_enter Try.func28, Try.ntmps28
  go_wp2_with fail
  go_loopw [9, 10] (fun v i wr => ∃ (k : Nat), 4 * k ≤ l.length ∧ i = .int .i64 (4 * k : Nat) ∧ Own w.heap.size wr v (pre low cv start l k) ∧ Below w.heap.size w wr) (fun _ i _ => l.length - (intOf i).toNat)
  case atStart => exact ⟨0, by omega, rfl, Own.nil _ _, Below.refl _ _⟩
  case round =>
    obtain ⟨k, hk, rfl, hown, hb⟩ := hrel
    have hpl := pre_length low cv start l k hk
    by_cases hlt : 4 * k < l.length
    · by_cases hle : 4 * k + 4 ≤ l.length
      · obtain ⟨b, off, rfl, hbl, hcell⟩ := (hB.below hb).addr (by omega)
        obtain ⟨x0, x1, x2, x3, t, e⟩ := drop_four l (4 * k) hle
        have hgrp : Hid (pre low cv start l (k + 1) = pre low cv start l k ++ bytesOf low (cv (word low x0 x1 x2 x3) ((start + 4 * k) % 4294967296))) := by
          apply Lib.hid
          simp only [pre, grp, e]
        have hg : ∀ j (hj : j < 4), wr.cell? ⟨b, off + 4 * k + j, none⟩ = some (B8 ([x0, x1, x2, x3][j])) := by
          intro j hj
          have h1 := hcell (4 * k + j) (by omega)
          have h2 : l[4 * k + j]? = some [x0, x1, x2, x3][j] := by
            have := congrArg (fun q : List UInt8 => q[j]?) e
            simp only [List.getElem?_drop] at this
            rw [this]
            match j, hj with
            | 0, _ => rfl
            | 1, _ => rfl
            | 2, _ => rfl
            | 3, _ => rfl
          rw [List.getElem?_eq_getElem (by omega)] at h2
          injection h2 with h2
          rw [Nat.add_assoc, h1, h2]
        have h0 := hg 0 (by omega)
        have h1 := hg 1 (by omega)
        have h2 := hg 2 (by omega)
        have h3 := hg 3 (by omega)
        rw [Nat.add_zero] at h0
        simp only [List.getElem_cons_zero, List.getElem_cons_succ] at h0 h1 h2 h3
        have HNB := Lib.hid (number_any low b (off + 4 * k) (c - 4 * k) x0 x1 x2 x3 wr h0 h1 h2 h3)
        have hwl := word_lt low x0 x1 x2 x3
        have hcl := HL.out (word low x0 x1 x2 x3) ((start + 4 * k) % 4294967296) hwl
        have HC := Lib.hid (HT.out (word low x0 x1 x2 x3) ((start + 4 * k) % 4294967296) wr hwl (by omega))
        generalize word low x0 x1 x2 x3 = W at *
        generalize cv W ((start + 4 * k) % 4294967296) = V at *
        have HF := Lib.hid (four_any V low wr hcl)
        have hbl4 := bytesOf_length low V
        generalize bytesOf low V = BV at *
        have k0 : ¬ c = 4 * k := by omega
        have hpp : ((start : Int) + 4 * (k : Int)) % 4294967296 = (((start + 4 * k) % 4294967296 : Nat) : Int) := by omega
        generalize (start + 4 * k) % 4294967296 = PL at *
        have hfit : (pre low cv start l k).length + BV.length ≤ 140737488355328 := by omega
        have HFIT := Lib.hid hfit
        clear hg h0 h1 h2 h3 e hcell hfit
        generalize pre low cv start l k = R at *
        generalize hnl : (!low) = nl at *
        have HNL := Lib.hid hnl
        have HB4 := Lib.hid hbl4
        have HPL := Lib.hid hpl
        clear hnl hbl4 hpl
        have h5 : ((id == 5) = true ∧ nl = true) ∨ ((id == 5) = false ∧ (id == 9) = nl) := by
          cases h : (id == 5) with
          | true => left; rw [h, Bool.true_or] at hhi; exact ⟨rfl, hhi.symm⟩
          | false => right; rw [h, Bool.false_or] at hhi; exact ⟨rfl, hhi⟩
        clear hhi
        have HPP := Lib.hid hpp
        clear hpp
        rcases h5 with ⟨h5, rfl⟩ | ⟨h5, h9⟩
        all_goals
          go_wp2_with fail
          refine HNB.out.mono ?_
          rintro e w' ⟨rfl, rfl⟩
          go_wp2_with fail
          rw [HPP.out]
          refine HC.out.mono ?_
          rintro e w' ⟨rfl, rfl⟩
          go_wp2_with fail
          refine HF.out.mono ?_
          rintro e w3 ⟨v3, rfl, ho3, hb3⟩
          obtain ⟨A3, c3, rfl, hc3, hm3, hB3⟩ := ho3.read
          have hown3 := hown.below hb3
          have hbw := hb.trans (hb3.mono hb.size)
          clear hown ho3
          go_wp2_with (at_builtin; refine wpList_append_bytes rfl (.tmp 40) (.tmp 53) rfl w.heap.size _ _ R rfl hown3 A3 BV c3 rfl hB3 HFIT.out hbw.size ?_; intro v4 w4 ho4 hg4; have hb4 := below_grown hbw hg4 hbw.size (fun g hg => (hown3.from_base g hg).1))
          go_roundw
          case rel => exact ⟨k + 1, by omega, by go_num, by rw [hgrp.out]; exact ho4, hb4⟩
          case measure => simp [intOf]; omega
      · obtain ⟨b, off, rfl, hbl, hcell⟩ := (hB.below hb).addr (by omega)
        have hBk : Bytes wr (some ⟨b, off + 4 * k, none⟩) (l.drop (4 * k)) := Bytes.drop (4 * k) (.inr ⟨b, off, rfl, hbl, hcell⟩)
        have hdl : (l.drop (4 * k)).length = l.length - 4 * k := List.length_drop ..
        have hkk : l.length / 4 = k := by omega
        have hx := HCD.out
        rw [hkk] at hx
        have HX := Lib.hid hx
        have hfit : (pre low cv start l k).length + (l.drop (4 * k)).length ≤ 140737488355328 := by omega
        have HFIT := Lib.hid hfit
        have HDL := Lib.hid hdl
        have k0 : ¬ c = 4 * k := by omega
        clear hx hkk hcell hdl hpl hfit
        generalize l.drop (4 * k) = D at *
        generalize pre low cv start l k = R at *
        go_wp2_with (at_builtin; refine wpList_append_bytes rfl (.tmp 24) (.tmp 27) rfl w.heap.size _ _ R rfl hown (some ⟨b, off + 4 * k, none⟩) D (c - 4 * k) (by rw [HDL.out]; rfl) hBk HFIT.out hb.size ?_; intro v4 w4 ho4 hg4; have hb4 := below_grown hb hg4 hb.size (fun g hg => (hown.from_base g hg).1))
        go_ret
        exact ⟨_, rfl, by rw [HX.out]; exact ho4, hb4⟩
    · have hkk : l.length / 4 = k := by omega
      have hx := HCD.out
      rw [hkk, List.drop_eq_nil_of_le (by omega), List.append_nil] at hx
      have HX := Lib.hid hx
      clear hx hkk hpl
      go_wp2_with fail
      go_ret
      exact ⟨_, rfl, by rw [HX.out]; exact hown, hb⟩
end Go.Proofs.Ytflklbnebljnmaa
