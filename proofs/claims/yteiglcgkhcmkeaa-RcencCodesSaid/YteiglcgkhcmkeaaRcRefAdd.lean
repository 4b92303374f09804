/- The walks over the reference's add and scale. -/
import Derived.Test.YteiglcgkhcmkeaaRcRef
namespace Go.Proofs.Yteiglcgkhcmkeaa
open Go.RowKit

theorem own_lower {w : World} {base base' e n : Nat} {v : Value} {xs : List Value} (h : w.ownsRow base e 1 v n xs) (hb : base' ≤ base) : w.ownsRow base' e 1 v n xs := by
  rcases h with ⟨h1, h2 | ⟨g, cap, cur, h2, h3, h4⟩⟩
  · exact ⟨h1, .inl h2⟩
  · exact ⟨h1, .inr ⟨g, cap, cur, h2, by omega, h4⟩⟩

set_option maxRecDepth 100000 in
set_option maxHeartbeats 1000000 in
theorem radd_any (h o cap : Nat) (s : Rc.St) (n : Nat) (w : World) (hE : RefAt w h o cap s) (hn : n < 4294967296) (hk : 4 + s.k ≤ 140737488355328) :
    Calls Try.prog 19 #[.pointer (some ⟨h, 0, none⟩), .int .u64 n] w (Did (RefDone w h o ⟨s.k, s.v + n, s.r⟩)) := by
  have c0 := cell20_of hE.blk
  have hhl : h < w.heap.size := block_lt_of_cell c0
  have hblk0 := hE.blk
  obtain ⟨hlen, hrB⟩ := own_read0 hE.own
  have hm0 : 0 < 4 + s.k := by omega
  generalize hlb : Rc.be (4 + s.k) s.v = lb at *
  have HLB := Lib.hid hlb
  generalize hmd : 4 + s.k = m at *
  have HM := Lib.hid hmd
  have hsrc : Value.slice (some ⟨o, 0, none⟩) m cap = .slice (some ⟨o, 0, none⟩) lb.length cap := by rw [hlen]
  have HSRC := Lib.hid hsrc
  have HLEN := Lib.hid hlen
  have hfit : ([] : List UInt8).length + lb.length ≤ 140737488355328 := by rw [← hlen]; simp; omega
  have ho : Own w.heap.size (w.alloc (.cells #[] 5)) (.slice (some ⟨w.heap.size, 0, none⟩) 0 0) [] := Own.lit w [] (Nat.le_refl _) (by simp)
  have hb0 : Below w.heap.size w (w.alloc (.cells #[] 5)) := (Below.refl _ _).alloc (Nat.le_refl _) _
  have hs0 : w.heap.size ≤ (w.alloc (.cells #[] 5)).heap.size := hb0.size
  clear hE hlb hmd hsrc hlen
  go_enter Try.func19, Try.ntmps19
  go_wp2_with (at_builtin; refine wpList_append_bytes rfl (.tmp 6) (.tmp 10) rfl w.heap.size _ _ [] rfl ho (some ⟨o, 0, none⟩) lb cap HSRC.out (hrB.below hb0) hfit hs0 ?_; intro v2 w4 ho4 hg4; have hb4 : Below w.heap.size w w4 := below_grown hb0 hg4 hs0 (fun g' hg' => (ho.from_base g' hg').1); rw [List.nil_append] at ho4; unfold Own at ho4; rw [← HLEN.out] at ho4; obtain ⟨gb, capb, rfl, hgb, hgblt⟩ := World.ownsRow.form ho4 hm0)
  have hblk4 := (hb4.block h hhl).trans hblk0
  have hne4 : h ≠ gb := by omega
  have hown4 : w4.ownsRow 0 5 1 (.slice (some ⟨gb, 0, none⟩) m capb) m ((summed m 0 s.v n).map B8) := by rw [summed_zero, HLB.out]; exact own_lower ho4 (Nat.zero_le _)
  have hon4 : Only [h] w w4 := ⟨hb4.os, hb4.tape, hb4.output, hb4.size, fun i hi _ => hb4.block i hi⟩
  have hc0 : carry s.v n 0 = n := carry_zero _ _
  have HC0 := Lib.hid hc0
  have HBLK := Lib.hid hblk4
  clear ho ho4 hg4 hb0 hs0 hfit c0 hblk0 hrB hc0 hblk4
  rw [← HC0.out]
  go_loopw [1, 5] (fun a i wr => ∃ t : Nat, t ≤ m ∧ i = .int .i64 ((m : Int) - 1 - (t : Int)) ∧ a = .int .u64 (carry s.v n t : Nat) ∧ Hid (wr.heap[h]? = w4.heap[h]?) ∧ wr.ownsRow 0 5 1 (.slice (some ⟨gb, 0, none⟩) m capb) m ((summed m t s.v n).map B8) ∧ Only [h] w wr) (fun _ i _ => (intOf i + 1).toNat)
  case atStart => exact ⟨0, by omega, by go_num, rfl, rfl, hown4, hon4⟩
  case round =>
    clear hown4 hon4
    obtain ⟨t, ht, rfl, rfl, hsame, hown, hon⟩ := hrel
    by_cases hlt : t < m
    · obtain ⟨j, hj⟩ : ∃ j : Nat, j = m - 1 - t := ⟨_, rfl⟩
      have hji : (m : Int) - 1 - (t : Int) = (j : Int) := by omega
      have hjm : j < m := by omega
      have co := hown.cellAt j (by omega)
      have fo := hown.frozenAt j
      rw [List.getElem?_map, hj, summed_get m t s.v n hlt, ← hj] at co
      simp only [Option.map] at co
      obtain ⟨hs1, hs2⟩ := hown.stored j (B8 (UInt8.ofNat ((s.v + n) / 256 ^ t % 256)))
      rw [← List.map_set, hj, summed_set m t s.v n hlt, ← hj] at hs1
      have hcl := carry_le s.v n t
      have hcb := carry_byte s.v n t
      have hcn := carry_next s.v n t
      have hby : (UInt8.ofNat (s.v / 256 ^ t % 256)).toNat = s.v / 256 ^ t % 256 := by rw [UInt8.toNat_ofNat']; omega
      have hby2 : (UInt8.ofNat ((s.v + n) / 256 ^ t % 256)).toNat = (s.v + n) / 256 ^ t % 256 := by rw [UInt8.toNat_ofNat']; omega
      have hbl : s.v / 256 ^ t % 256 < 256 := Nat.mod_lt _ (by omega)
      have co' : wr.cell? ⟨gb, j, none⟩ = some (.int .u8 ((s.v / 256 ^ t % 256 : Nat) : Int)) := by rw [co]; show some (Value.int .u8 _) = _; rw [hby]
      have hs1' : (wr.setCell ⟨gb, j, none⟩ (.int .u8 (((s.v + n) / 256 ^ t % 256 : Nat) : Int))).ownsRow 0 5 1 (.slice (some ⟨gb, 0, none⟩) m capb) m ((summed m (t + 1) s.v n).map B8) := by
        have e : B8 (UInt8.ofNat ((s.v + n) / 256 ^ t % 256)) = .int .u8 (((s.v + n) / 256 ^ t % 256 : Nat) : Int) := by show Value.int .u8 _ = _; rw [hby2]
        rw [e] at hs1; exact hs1
      generalize carry s.v n t = ct at *
      generalize hct1 : carry s.v n (t + 1) = ct1 at *
      have HCT := Lib.hid hct1
      generalize s.v / 256 ^ t % 256 = bb at *
      generalize (s.v + n) / 256 ^ t % 256 = sb at *
      have hcb' : ((ct : Int) + (bb : Int)) % 256 = (sb : Int) := by omega
      have hcn' : ((ct : Int) + (bb : Int)) / 256 = (ct1 : Int) := by omega
      have hsb : sb < 256 := by omega
      have hsame' : (wr.setCell ⟨gb, j, none⟩ (.int .u8 (sb : Int))).heap[h]? = w4.heap[h]? := (heap_setCell_other _ _ _ _ hne4).trans hsame.out
      have HS := Lib.hid hsame'
      have hon' : Only [h] w (wr.setCell ⟨gb, j, none⟩ (.int .u8 (sb : Int))) := hon.setCell (.inr hgb) _
      clear co hs1 hs2 hcb hcn hby hby2 hj hct1 hsame'
      rw [hji]
      go_wp2_with fail
      go_roundw
      case rel => exact ⟨t + 1, by omega, congrArg (Value.int .i64) (by omega), congrArg (Value.int .u64) (by rw [HCT.out]; exact hcn'), HS, hs1', hon'⟩
      case measure => simp [intOf] <;> omega
    · obtain rfl : t = m := by omega
      rw [summed_end] at hown
      have hblk := hsame.out.trans HBLK.out
      have d0 := cell20_of hblk
      have e0 := frozen_of_row wr h 0 _ _ hblk
      have hneg : (t : Int) - 1 - (t : Int) = -1 := by omega
      rw [hneg]
      generalize carry s.v n t = ct at *
      go_wp2_with fail
      go_end0
      refine ⟨rfl, gb, capb, ⟨?_, ?_, hne4⟩, hon.setCell (.inl (by simp)) _, .inr hgb⟩
      · show _ = some (Obj.cells #[.slice (some ⟨gb, 0, none⟩) (4 + s.k) capb, _] _ _)
        rw [HM.out]; exact blk2_set0 hblk _
      · show World.ownsRow _ 0 _ 1 (.slice (some ⟨gb, 0, none⟩) (4 + s.k) capb) (4 + s.k) ((Rc.be (4 + s.k) (s.v + n)).map B8)
        rw [HM.out]; exact own_other hown hne4 _
end Go.Proofs.Yteiglcgkhcmkeaa
