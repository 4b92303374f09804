/- The contract of the law Crc32Bursts. -/
import Derived.Test.YtkcimaebkjinfaaCrcBurst
import Derived.Test.YtkcimaebkjinfaaCrcLaws
import Derived.BigRegion
namespace Go.Proofs.Ytkcimaebkjinfaa
open Go.RowKit

theorem shifted (t s : Nat) (ht : t < 2 ^ 32) (hs : s < 8) : ∃ bs : Nat, IntKind.u64.wrap ((t : Int) * 2 ^ s) = (bs : Int) ∧ bs = t * 2 ^ s ∧ bs < 1099511627776 := by
  have h1 : 2 ^ s ≤ 2 ^ 7 := Nat.pow_le_pow_right (by omega) (by omega)
  have h2 : t * 2 ^ s ≤ t * 2 ^ 7 := Nat.mul_le_mul_left _ h1
  refine ⟨t * 2 ^ s, ?_, rfl, by omega⟩
  have e : (t : Int) * 2 ^ s = ((t * 2 ^ s : Nat) : Int) := by simp
  rw [e, IntWalk.u64_in _ ⟨by omega, by omega⟩]
theorem mixed_get (l : List UInt8) (f j bs i : Nat) (h : i < l.length) : (mixed l f j bs)[i]? = some (l[i] ^^^ (if f ≤ i ∧ i < f + j then nth bs (i - f) else 0)) := by
  unfold mixed
  rw [List.getElem?_zipWith, List.getElem?_eq_getElem h]
  simp [turns, h]
theorem mixed_zero (l : List UInt8) (f bs : Nat) : mixed l f 0 bs = l := by
  apply List.ext_getElem?
  intro i
  by_cases h : i < l.length
  · rw [mixed_get _ _ _ _ _ h, List.getElem?_eq_getElem h, if_neg (by omega)]; simp
  · rw [List.getElem?_eq_none (by rw [mixed_length]; omega), List.getElem?_eq_none (by omega)]
theorem mixed_at (l : List UInt8) (f j bs : Nat) (h : f + j < l.length) : (mixed l f j bs)[f + j]? = some l[f + j] := by
  rw [mixed_get _ _ _ _ _ h, if_neg (by omega)]; simp
theorem mixed_next (l : List UInt8) (f j bs : Nat) (h : f + j < l.length) : ((mixed l f j bs).map B8).set (f + j) (B8 (l[f + j] ^^^ nth bs j)) = (mixed l f (j + 1) bs).map B8 := by
  rw [← List.map_set]
  congr 1
  apply List.ext_getElem?
  intro i
  rw [List.getElem?_set]
  by_cases hi : i < l.length
  · rw [mixed_get _ _ _ _ _ hi, mixed_get _ _ _ _ _ hi]
    by_cases e : f + j = i
    · subst e
      rw [if_pos rfl, mixed_length, if_pos h, if_pos (by omega), Nat.add_sub_cancel_left]
    · rw [if_neg e]
      by_cases h2 : f ≤ i ∧ i < f + j
      · rw [if_pos h2, if_pos (by omega)]
      · rw [if_neg h2, if_neg (by omega)]
  · rw [if_neg (by omega), List.getElem?_eq_none (by rw [mixed_length]; omega), List.getElem?_eq_none (by rw [mixed_length]; omega)]

theorem xor_nth (v : UInt8) (bs j : Nat) : bits .xor .u8 (v.toNat : Int) ((bs : Int) / 2 ^ (8 * j) % 256) = ((v ^^^ nth bs j).toNat : Int) := by
  have hv := v.toNat_lt
  have e : (bs : Int) / 2 ^ (8 * j) % 256 = ((nth bs j).toNat : Int) := by rw [nth_nat]; simp
  have h2 := (nth bs j).toNat_lt
  rw [e, u8_xor_nat _ _ (by omega) (by omega), UInt8.toNat_xor]
theorem crc_ne (a b : List UInt8) (h : Crc.eats P32 (~~~ 0#32) a ≠ Crc.eats P32 (~~~ 0#32) b) : (((crcOf 0#32 a).toNat : Int) != ((crcOf 0#32 b).toNat : Int)) = true := by
  rw [bne_iff_ne]
  intro e
  apply h
  have e2 : crcOf 0#32 a = crcOf 0#32 b := BitVec.eq_of_toNat_eq (by omega)
  unfold crcOf at e2
  have := congrArg (~~~ ·) e2
  simpa using this
theorem own_read {w : World} {base g cap n : Nat} {l : List UInt8} (h : w.ownsRow base 5 1 (.slice (some ⟨g, 0, none⟩) n cap) n (l.map B8)) : n ≤ cap ∧ cap ≤ 9223372036854775807 ∧ Bytes w (some ⟨g, 0, none⟩) l := by
  have hn : n = l.length := by have := h.1; simp at this; omega
  subst hn
  obtain ⟨A, c, e, h1, h2, h3⟩ := Own.read (base := base) (l := l) h
  injection e with e1 e2 e3
  subst e1; subst e3
  exact ⟨h1, h2, h3⟩

set_option maxRecDepth 100000 in
set_option maxHeartbeats 1000000 in
theorem bursts_law (A : Option Addr) (l : List UInt8) (c : Nat) (a : BitVec 16) (t : BitVec 32) (w : World) (hB : Bytes w A l) (hc : l.length ≤ c) (hm : c ≤ 9223372036854775807) :
    Calls Try.prog 5 #[.slice A l.length c, .int .u16 a.toNat, .int .u32 t.toNat] w (Holds w) := by
  by_cases h1 : l.length < 5
  · have h1' : (l.length : Int) < 5 := by omega
    go_enter Try.func5, Try.ntmps5
    go_wp2_with fail
    refine (knows_any _).mono ?_
    rintro e w' ⟨rfl, hb⟩
    go_wp2_with fail
    go_ret
    exact ⟨rfl, hb⟩
  by_cases h2 : 600 < l.length
  · have h2' : (600 : Int) < l.length := by omega
    go_enter Try.func5, Try.ntmps5
    go_wp2_with fail
    refine (knows_any _).mono ?_
    rintro e w' ⟨rfl, hb⟩
    go_wp2_with fail
    go_ret
    exact ⟨rfl, hb⟩
  have h1' : (5 : Int) ≤ l.length := by omega
  have h2' : (l.length : Int) ≤ 600 := by omega
  by_cases h3 : t.toNat = 0
  · rw [h3]
    go_enter Try.func5, Try.ntmps5
    go_wp2_with fail
    refine (knows_any _).mono ?_
    rintro e w' ⟨rfl, hb⟩
    go_wp2_with fail
    go_ret
    exact ⟨rfl, hb⟩
  have h3' : ((t.toNat : Int) == 0) = false := beq_eq_false_iff_ne.2 (by omega)
  have ho : Own w.heap.size (w.alloc (.cells #[] 5)) (.slice (some ⟨w.heap.size, 0, none⟩) 0 0) [] := Own.lit w [] (Nat.le_refl _) (by simp)
  have hb0 : Below w.heap.size w (w.alloc (.cells #[] 5)) := (Below.refl _ _).alloc (Nat.le_refl _) _
  have hs0 : w.heap.size ≤ (w.alloc (.cells #[] 5)).heap.size := hb0.size
  have hlen : ([] : List UInt8).length + l.length ≤ 140737488355328 := by simp; omega
  have htl := t.isLt
  obtain ⟨F, hFlt, hF⟩ : ∃ F : Nat, F < 8 * l.length - 31 ∧ ((a.toNat : Int) % (8 * (l.length : Int) - 31)) = (F : Int) :=
    ⟨a.toNat % (8 * l.length - 31), Nat.mod_lt _ (by omega), by rw [Int.natCast_emod, Int.natCast_sub (by omega)]; simp⟩
  have g1 : decide ((l.length : Int) < 5) = false := by simp; omega
  have g2 : decide ((600 : Int) < l.length) = false := by simp; omega
  have ha := a.isLt
  go_enter Try.func5, Try.ntmps5
  go_wp2_with (at_builtin; refine wpList_append_bytes rfl (.tmp 31) (.tmp 32) rfl w.heap.size _ _ [] rfl ho A l c rfl (hB.below hb0) hlen hs0 ?_; intro v1 w1 ho1 hg1)
  obtain ⟨bs, hbs, hbe, hblt⟩ := shifted t.toNat (F % 8) htl (by omega)
  rw [hbs]
  have HBE := Lib.hid hbe
  have hb1 : Below w.heap.size w w1 := below_grown hb0 hg1 hs0 (fun g hg => (ho.from_base g hg).1)
  rw [List.nil_append] at ho1
  obtain ⟨g, cap, rfl, hgb, hglt⟩ := World.ownsRow.form ho1 (by omega)
  have hown : w1.ownsRow w.heap.size 5 1 (.slice (some ⟨g, 0, none⟩) l.length cap) l.length ((mixed l (F / 8) 0 bs).map B8) := by rw [mixed_zero]; exact ho1
  have ht0 : t.toNat ≠ 0 := h3
  clear hF ha g1 g2 hbs hbe ho ho1 hg1 hb0 hs0 hlen h3 h3'
  go_loopw [10] (fun i wr => ∃ j : Nat, j ≤ 5 ∧ F / 8 + j ≤ l.length ∧ i = .int .i64 j ∧ wr.ownsRow w.heap.size 5 1 (.slice (some ⟨g, 0, none⟩) l.length cap) l.length ((mixed l (F / 8) j bs).map B8) ∧ Below w.heap.size w wr) (fun i _ => 5 - (intOf i).toNat)
  case atStart => exact ⟨0, by omega, by omega, rfl, hown, hb1⟩
  case round =>
    clear hown hb1
    obtain ⟨j, hj5, hjl, rfl, hown, hb⟩ := hrel
    by_cases h5 : j < 5
    · by_cases hfl : F / 8 + j < l.length
      · have hcell := hown.cellAt (F / 8 + j) (by omega)
        rw [List.getElem?_map, mixed_at l (F / 8) j bs hfl] at hcell
        have hfz := hown.frozenAt (F / 8 + j)
        have hset := Lib.hid (mixed_next l (F / 8) j bs hfl)
        have hst := Lib.hid (hown.stored (F / 8 + j))
        generalize l[F / 8 + j] = v at *
        simp only [Option.map] at hcell
        have k1 : (0 : Int) ≤ (F : Int) / 8 + (j : Int) := by omega
        have k2 : (F : Int) / 8 + (j : Int) < l.length := by omega
        have k3 : ((F : Int) / 8 + (j : Int)).toNat = F / 8 + j := by omega
        go_wp2_with fail
        go_region
        all_goals
          rw [xor_nth v bs j]
          go_wp2_with fail
          go_roundw
          case rel =>
            obtain ⟨hs1, hs2⟩ := hst.out (B8 (v ^^^ nth bs j))
            rw [hset.out] at hs1
            exact ⟨j + 1, by omega, by omega, by go_num, hs1, hb.drew.setCell (by simp; omega) _⟩
          case measure => simp [intOf]; omega
      · have hjm : j = min 5 (l.length - F / 8) := by omega
        have hne := burst_ne l (~~~ 0#32) (F / 8) (F % 8) t.toNat (by omega) ht0 htl (by omega) (by omega) j hjm
        rw [← HBE.out] at hne
        have hk : ¬ (F : Int) / 8 + (j : Int) < l.length := by omega
        have k1 : (0 : Int) ≤ (F : Int) / 8 + (j : Int) := by omega
        have hread := own_read hown
        have hcne := crc_ne (mixed l (F / 8) j bs) l hne
        have hlen := mixed_length l (F / 8) j bs
        generalize mixed l (F / 8) j bs = o at *
        rw [← hlen] at hread
        have HL := Lib.hid hlen
        have HN := Lib.hid hne
        clear hlen hne hown
        go_wp2_with fail
        rw [← HL.out]
        refine (sum_any (some ⟨g, 0, none⟩) o cap _ hread.2.2 hread.1 hread.2.1).mono ?_
        rintro e w2 ⟨rfl, hb2⟩
        have g2 := hb.trans (hb2.mono hb.size)
        go_wp2_with fail
        rw [HL.out]
        refine (sum_any A l c _ (hB.below g2) hc hm).mono ?_
        rintro e w3 ⟨rfl, hb3⟩
        have g3 := g2.trans (hb3.mono g2.size)
        go_wp2_with fail
        refine (knows_any _).mono ?_
        rintro e w4 ⟨rfl, hb4⟩
        go_wp2_with fail
        go_ret
        exact ⟨rfl, g3.trans (hb4.mono g3.size)⟩
    · have hjm : j = min 5 (l.length - F / 8) := by omega
      have hne := burst_ne l (~~~ 0#32) (F / 8) (F % 8) t.toNat (by omega) ht0 htl (by omega) (by omega) j hjm
      rw [← HBE.out] at hne
      have hk : ¬ (j : Int) < 5 := by omega
      have hread := own_read hown
      have hcne := crc_ne (mixed l (F / 8) j bs) l hne
      have hlen := mixed_length l (F / 8) j bs
      generalize mixed l (F / 8) j bs = o at *
      rw [← hlen] at hread
      have HL := Lib.hid hlen
      have HN := Lib.hid hne
      clear hlen hne hown
      go_wp2_with fail
      rw [← HL.out]
      refine (sum_any (some ⟨g, 0, none⟩) o cap _ hread.2.2 hread.1 hread.2.1).mono ?_
      rintro e w2 ⟨rfl, hb2⟩
      have g2 := hb.trans (hb2.mono hb.size)
      go_wp2_with fail
      rw [HL.out]
      refine (sum_any A l c _ (hB.below g2) hc hm).mono ?_
      rintro e w3 ⟨rfl, hb3⟩
      have g3 := g2.trans (hb3.mono g2.size)
      go_wp2_with fail
      refine (knows_any _).mono ?_
      rintro e w4 ⟨rfl, hb4⟩
      go_wp2_with fail
      go_ret
      exact ⟨rfl, g3.trans (hb4.mono g3.size)⟩
end Go.Proofs.Ytkcimaebkjinfaa
