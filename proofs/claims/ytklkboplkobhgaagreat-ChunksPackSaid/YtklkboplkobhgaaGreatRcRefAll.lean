/- Several texts in one: RcRef, RcRefAdd, RcRefScale, RcRefBit. -/
import Derived.Test.YtklkboplkobhgaaGreatRcBytes
import Derived.Deep.DeepCutAuto
/- The walks over the reference's coder. -/
namespace Go.Proofs.YtklkboplkobhgaaGreat
set_option maxRecDepth 100000
open Go.RowKit

/-- The reference's coder in memory: its struct in block h, its bytes in block o. -/
structure RefAt (w : World) (h o cap : Nat) (s : Rc.St) : Prop where
  blk : w.heap[h]? = some (.cells #[.slice (some ⟨o, 0, none⟩) (4 + s.k) cap, .int .u64 ((s.r : Nat) : Int)] 114 (0, 0))
  own : w.ownsRow 0 5 1 (.slice (some ⟨o, 0, none⟩) (4 + s.k) cap) (4 + s.k) ((Rc.be (4 + s.k) s.v).map B8)
  ne : h ≠ o

set_option maxHeartbeats 400000 in
theorem fair_any (c : BitVec 16) (w : World) : Calls Tryz.prog 81 #[.int .u16 c.toNat] w fun e w' => e = .returned (.int .u64 (Rc.fair c.toNat : Nat)) ∧ w = w' := by
  have hc := c.isLt
  by_cases h1 : c.toNat = 0
  · have hf : Rc.fair c.toNat = 1024 := by unfold Rc.fair; rw [if_pos (.inl (by omega))]
    rw [hf, h1]
    go_enter Tryz.func81, Tryz.ntmps81
    go_wp2_with fail
    go_ret
    exact ⟨rfl, rfl⟩
  · have h1' : ((c.toNat : Int) == 0) = false := beq_eq_false_iff_ne.2 (by omega)
    by_cases h2 : 2048 ≤ c.toNat
    · have hf : Rc.fair c.toNat = 1024 := by unfold Rc.fair; rw [if_pos (.inr h2)]
      rw [hf]
      have h2' : (2047 : Int) < c.toNat := by omega
      go_enter Tryz.func81, Tryz.ntmps81
      go_wp2_with fail
      go_ret
      exact ⟨rfl, rfl⟩
    · have hf : Rc.fair c.toNat = c.toNat := by unfold Rc.fair; rw [if_neg (by omega)]
      rw [hf]
      have h2' : ¬ (2047 : Int) < c.toNat := by omega
      go_enter Tryz.func81, Tryz.ntmps81
      go_wp2_with fail
      go_ret
      exact ⟨rfl, rfl⟩

set_option maxHeartbeats 400000 in
theorem rnext_any (p : Nat) (one : Bool) (w : World) (h1 : 1 ≤ p) (h2 : p ≤ 2047) : Calls Tryz.prog 84 #[.int .u64 p, .int .i64 (bitI one)] w fun e w' => e = .returned (.int .u16 (Rc.next p one : Nat)) ∧ w = w' := by
  cases one
  · have hn : ((Rc.next p false : Nat) : Int) = (p : Int) + (2048 - (p : Int)) / 32 := by simp only [Rc.next, Bool.false_eq_true, if_false]; omega
    have HN := Lib.hid hn
    clear hn
    unfold bitI
    simp only [Bool.false_eq_true, if_false]
    go_enter Tryz.func84, Tryz.ntmps84
    go_wp2_with fail
    go_ret
    exact ⟨congrArg (fun n : Int => Ending.returned (Value.int .u16 n)) HN.out.symm, rfl⟩
  · have hn : ((Rc.next p true : Nat) : Int) = (p : Int) - (p : Int) / 32 := by simp only [Rc.next, if_true]; omega
    have HN := Lib.hid hn
    clear hn
    unfold bitI
    simp only [if_true]
    go_enter Tryz.func84, Tryz.ntmps84
    go_wp2_with fail
    go_ret
    exact ⟨congrArg (fun n : Int => Ending.returned (Value.int .u16 n)) HN.out.symm, rfl⟩

theorem blk2_set0 {w : World} {g : Nat} {a b : Value} {t : TypeId} (h : w.heap[g]? = some (.cells #[a, b] t (0, 0))) (u : Value) : (w.setCell ⟨g, 0, none⟩ u).heap[g]? = some (.cells #[u, b] t (0, 0)) := by
  rw [heap_setCell_same w g 0 _ t u h]; rfl
theorem blk2_set1 {w : World} {g : Nat} {a b : Value} {t : TypeId} (h : w.heap[g]? = some (.cells #[a, b] t (0, 0))) (u : Value) : (w.setCell ⟨g, 1, none⟩ u).heap[g]? = some (.cells #[a, u] t (0, 0)) := by
  rw [heap_setCell_same w g 1 _ t u h]; rfl
theorem cell20_of {w : World} {g : Nat} {a b : Value} {t : TypeId} {fr : Nat × Nat} (h : w.heap[g]? = some (.cells #[a, b] t fr)) : w.cell? ⟨g, 0, none⟩ = some a := by rw [cell_of_row _ _ _ _ _ _ h]; rfl
theorem cell21_of {w : World} {g : Nat} {a b : Value} {t : TypeId} {fr : Nat × Nat} (h : w.heap[g]? = some (.cells #[a, b] t fr)) : w.cell? ⟨g, 1, none⟩ = some b := by rw [cell_of_row _ _ _ _ _ _ h]; rfl

/-- What an operation of the reference's comes to: the state, its bytes in the old block or a new one. -/
def RefDone (w : World) (h o : Nat) (t : Rc.St) (w' : World) : Prop := ∃ o' cap', RefAt w' h o' cap' t ∧ Only [h] w w' ∧ (o' = o ∨ w.heap.size ≤ o')

/-- The carry behind t bytes. -/
def carry (v n t : Nat) : Nat := (v + n) / 256 ^ t - v / 256 ^ t
theorem carry_zero (v n : Nat) : carry v n 0 = n := by simp [carry]
theorem carry_le (v n t : Nat) : carry v n t ≤ n := by
  unfold carry
  have hp : 0 < 256 ^ t := Nat.pos_of_ne_zero (by simp)
  have h : (v + n) / 256 ^ t ≤ v / 256 ^ t + n := by
    rw [Nat.div_le_iff_le_mul hp]
    have := Nat.div_add_mod v (256 ^ t)
    have h2 := Nat.mod_lt v hp
    have h3 : n * 1 ≤ n * 256 ^ t := Nat.mul_le_mul_left _ hp
    rw [Nat.add_mul, Nat.mul_comm (v / 256 ^ t)]; omega
  omega
theorem carry_split (v n t : Nat) : v / 256 ^ t + carry v n t = (v + n) / 256 ^ t := by
  unfold carry
  have : v / 256 ^ t ≤ (v + n) / 256 ^ t := Nat.div_le_div_right (by omega)
  omega
theorem carry_byte (v n t : Nat) : (carry v n t + v / 256 ^ t % 256) % 256 = (v + n) / 256 ^ t % 256 := by
  rw [← carry_split v n t]; omega
theorem carry_next (v n t : Nat) : (carry v n t + v / 256 ^ t % 256) / 256 = carry v n (t + 1) := by
  have h1 := carry_split v n t
  have h2 : (v + n) / 256 ^ (t + 1) = (v + n) / 256 ^ t / 256 := by rw [Nat.pow_succ, ← Nat.div_div_eq_div_mul]
  have h3 : v / 256 ^ (t + 1) = v / 256 ^ t / 256 := by rw [Nat.pow_succ, ← Nat.div_div_eq_div_mul]
  unfold carry at *
  rw [h2, h3]; omega
/-- The bytes while n is added, t of them done. -/
def summed (m t v n : Nat) : List UInt8 := Rc.be (m - t) (v / 256 ^ t) ++ Rc.be t (v + n)
theorem summed_zero (m v n : Nat) : summed m 0 v n = Rc.be m v := by simp [summed, Rc.be]
theorem summed_end (m v n : Nat) : summed m m v n = Rc.be m (v + n) := by simp [summed, Rc.be]
theorem summed_get (m t v n : Nat) (h : t < m) : (summed m t v n)[m - 1 - t]? = some (UInt8.ofNat (v / 256 ^ t % 256)) := by
  unfold summed
  obtain ⟨j, hj⟩ : ∃ j, m - t = j + 1 := ⟨m - t - 1, by omega⟩
  rw [hj, Rc.be, List.append_assoc, List.getElem?_append_right (by rw [Rc.be_length]; omega), Rc.be_length, show m - 1 - t - j = 0 by omega]; rfl
theorem summed_set (m t v n : Nat) (h : t < m) : (summed m t v n).set (m - 1 - t) (UInt8.ofNat ((v + n) / 256 ^ t % 256)) = summed m (t + 1) v n := by
  unfold summed
  obtain ⟨j, hj⟩ : ∃ j, m - t = j + 1 := ⟨m - t - 1, by omega⟩
  rw [hj, Rc.be, List.append_assoc, List.set_append_right _ _ (by rw [Rc.be_length]; omega), Rc.be_length, show m - 1 - t - j = 0 by omega, show m - (t + 1) = j by omega, Nat.div_div_eq_div_mul, ← Nat.pow_succ]
  congr 1
  have e : Rc.be (t + 1) (v + n) = Rc.be (1 + t) (v + n) := by rw [Nat.add_comm]
  rw [e, Rc.be_add]
  rfl
end Go.Proofs.YtklkboplkobhgaaGreat

/- The walks over the reference's add and scale. -/
namespace Go.Proofs.YtklkboplkobhgaaGreat
set_option maxRecDepth 100000
open Go.RowKit

theorem own_lower {w : World} {base base' e n : Nat} {v : Value} {xs : List Value} (h : w.ownsRow base e 1 v n xs) (hb : base' ≤ base) : w.ownsRow base' e 1 v n xs := by
  rcases h with ⟨h1, h2 | ⟨g, cap, cur, h2, h3, h4⟩⟩
  · exact ⟨h1, .inl h2⟩
  · exact ⟨h1, .inr ⟨g, cap, cur, h2, by omega, h4⟩⟩

set_option maxRecDepth 100000 in
set_option maxHeartbeats 1000000 in
theorem radd_any (h o cap : Nat) (s : Rc.St) (n : Nat) (w : World) (hE : RefAt w h o cap s) (hn : n < 4294967296) (hk : 4 + s.k ≤ 140737488355328) :
    Calls Tryz.prog 82 #[.pointer (some ⟨h, 0, none⟩), .int .u64 n] w (Did (RefDone w h o ⟨s.k, s.v + n, s.r⟩)) := by
  have c0 := cell20_of hE.blk
  have hhl : h < w.heap.size := block_lt_of_cell c0
  have hblk0 := hE.blk
  obtain ⟨hlen, hrB⟩ := own_read0 hE.own
  have hm0 : 0 < 4 + s.k := by omega
  generalize hlb : Rc.be (4 + s.k) s.v = lb at *
  have HLB := Lib.hid hlb
  generalize hmd : 4 + s.k = m at *
  have HM := Lib.hid hmd
  have hsrc : Value.slice (some ⟨o, 0, none⟩) m cap = .slice (some ⟨o, 0, none⟩) lb.length cap := by rw [hlen]
  have HSRC := Lib.hid hsrc
  have HLEN := Lib.hid hlen
  have hfit : ([] : List UInt8).length + lb.length ≤ 140737488355328 := by rw [← hlen]; simp; omega
  have ho : Own w.heap.size (w.alloc (.cells #[] 5)) (.slice (some ⟨w.heap.size, 0, none⟩) 0 0) [] := Own.lit w [] (Nat.le_refl _) (by simp)
  have hb0 : Below w.heap.size w (w.alloc (.cells #[] 5)) := (Below.refl _ _).alloc (Nat.le_refl _) _
  have hs0 : w.heap.size ≤ (w.alloc (.cells #[] 5)).heap.size := hb0.size
  clear hE hlb hmd hsrc hlen
  go_enter Tryz.func82, Tryz.ntmps82
  go_wp2_with (at_builtin; refine wpList_append_bytes rfl (.tmp 6) (.tmp 10) rfl w.heap.size _ _ [] rfl ho (some ⟨o, 0, none⟩) lb cap HSRC.out (hrB.below hb0) hfit hs0 ?_; intro v2 w4 ho4 hg4; have hb4 : Below w.heap.size w w4 := below_grown hb0 hg4 hs0 (fun g' hg' => (ho.from_base g' hg').1); rw [List.nil_append] at ho4; unfold Own at ho4; rw [← HLEN.out] at ho4; obtain ⟨gb, capb, rfl, hgb, hgblt⟩ := World.ownsRow.form ho4 hm0)
  have hblk4 := (hb4.block h hhl).trans hblk0
  have hne4 : h ≠ gb := by omega
  have hown4 : w4.ownsRow 0 5 1 (.slice (some ⟨gb, 0, none⟩) m capb) m ((summed m 0 s.v n).map B8) := by rw [summed_zero, HLB.out]; exact own_lower ho4 (Nat.zero_le _)
  have hon4 : Only [h] w w4 := ⟨hb4.os, hb4.tape, hb4.output, hb4.size, fun i hi _ => hb4.block i hi⟩
  have hc0 : carry s.v n 0 = n := carry_zero _ _
  have HC0 := Lib.hid hc0
  have HBLK := Lib.hid hblk4
  clear ho ho4 hg4 hb0 hs0 hfit c0 hblk0 hrB hc0 hblk4
  rw [← HC0.out]
  go_loopw [1, 5] (fun a i wr => ∃ t : Nat, t ≤ m ∧ i = .int .i64 ((m : Int) - 1 - (t : Int)) ∧ a = .int .u64 (carry s.v n t : Nat) ∧ Hid (wr.heap[h]? = w4.heap[h]?) ∧ wr.ownsRow 0 5 1 (.slice (some ⟨gb, 0, none⟩) m capb) m ((summed m t s.v n).map B8) ∧ Only [h] w wr) (fun _ i _ => (intOf i + 1).toNat)
  case atStart => exact ⟨0, by omega, by go_num, rfl, rfl, hown4, hon4⟩
  case round =>
    clear hown4 hon4
    obtain ⟨t, ht, rfl, rfl, hsame, hown, hon⟩ := hrel
    by_cases hlt : t < m
    · obtain ⟨j, hj⟩ : ∃ j : Nat, j = m - 1 - t := ⟨_, rfl⟩
      have hji : (m : Int) - 1 - (t : Int) = (j : Int) := by omega
      have hjm : j < m := by omega
      have co := hown.cellAt j (by omega)
      have fo := hown.frozenAt j
      rw [List.getElem?_map, hj, summed_get m t s.v n hlt, ← hj] at co
      simp only [Option.map] at co
      obtain ⟨hs1, hs2⟩ := hown.stored j (B8 (UInt8.ofNat ((s.v + n) / 256 ^ t % 256)))
      rw [← List.map_set, hj, summed_set m t s.v n hlt, ← hj] at hs1
      have hcl := carry_le s.v n t
      have hcb := carry_byte s.v n t
      have hcn := carry_next s.v n t
      have hby : (UInt8.ofNat (s.v / 256 ^ t % 256)).toNat = s.v / 256 ^ t % 256 := by rw [UInt8.toNat_ofNat']; omega
      have hby2 : (UInt8.ofNat ((s.v + n) / 256 ^ t % 256)).toNat = (s.v + n) / 256 ^ t % 256 := by rw [UInt8.toNat_ofNat']; omega
      have hbl : s.v / 256 ^ t % 256 < 256 := Nat.mod_lt _ (by omega)
      have co' : wr.cell? ⟨gb, j, none⟩ = some (.int .u8 ((s.v / 256 ^ t % 256 : Nat) : Int)) := by rw [co]; show some (Value.int .u8 _) = _; rw [hby]
      have hs1' : (wr.setCell ⟨gb, j, none⟩ (.int .u8 (((s.v + n) / 256 ^ t % 256 : Nat) : Int))).ownsRow 0 5 1 (.slice (some ⟨gb, 0, none⟩) m capb) m ((summed m (t + 1) s.v n).map B8) := by
        have e : B8 (UInt8.ofNat ((s.v + n) / 256 ^ t % 256)) = .int .u8 (((s.v + n) / 256 ^ t % 256 : Nat) : Int) := by show Value.int .u8 _ = _; rw [hby2]
        rw [e] at hs1; exact hs1
      generalize carry s.v n t = ct at *
      generalize hct1 : carry s.v n (t + 1) = ct1 at *
      have HCT := Lib.hid hct1
      generalize s.v / 256 ^ t % 256 = bb at *
      generalize (s.v + n) / 256 ^ t % 256 = sb at *
      have hcb' : ((ct : Int) + (bb : Int)) % 256 = (sb : Int) := by omega
      have hcn' : ((ct : Int) + (bb : Int)) / 256 = (ct1 : Int) := by omega
      have hsb : sb < 256 := by omega
      have hsame' : (wr.setCell ⟨gb, j, none⟩ (.int .u8 (sb : Int))).heap[h]? = w4.heap[h]? := (heap_setCell_other _ _ _ _ hne4).trans hsame.out
      have HS := Lib.hid hsame'
      have hon' : Only [h] w (wr.setCell ⟨gb, j, none⟩ (.int .u8 (sb : Int))) := hon.setCell (.inr hgb) _
      clear co hs1 hs2 hcb hcn hby hby2 hj hct1 hsame'
      rw [hji]
      go_wp2_with fail
      go_roundw
      case rel => exact ⟨t + 1, by omega, congrArg (Value.int .i64) (by omega), congrArg (Value.int .u64) (by rw [HCT.out]; exact hcn'), HS, hs1', hon'⟩
      case measure => simp [intOf] <;> omega
    · obtain rfl : t = m := by omega
      rw [summed_end] at hown
      have hblk := hsame.out.trans HBLK.out
      have d0 := cell20_of hblk
      have e0 := frozen_of_row wr h 0 _ _ hblk
      have hneg : (t : Int) - 1 - (t : Int) = -1 := by omega
      rw [hneg]
      generalize carry s.v n t = ct at *
      go_wp2_with fail
      go_end0
      refine ⟨rfl, gb, capb, ⟨?_, ?_, hne4⟩, hon.setCell (.inl (by simp)) _, .inr hgb⟩
      · show _ = some (Obj.cells #[.slice (some ⟨gb, 0, none⟩) (4 + s.k) capb, _] _ _)
        rw [HM.out]; exact blk2_set0 hblk _
      · show World.ownsRow _ 0 _ 1 (.slice (some ⟨gb, 0, none⟩) (4 + s.k) capb) (4 + s.k) ((Rc.be (4 + s.k) (s.v + n)).map B8)
        rw [HM.out]; exact own_other hown hne4 _
end Go.Proofs.YtklkboplkobhgaaGreat

/- The walks over the reference's scale, Bit, New and Bytes. -/
namespace Go.Proofs.YtklkboplkobhgaaGreat
set_option maxRecDepth 100000
open Go.RowKit

theorem up_be (k v : Nat) : Rc.be (4 + k) v ++ [0] = Rc.be (4 + (k + 1)) (v * 256) := by
  rw [← Nat.add_assoc, Rc.be, Nat.mul_div_cancel _ (by omega), Nat.mul_mod_left]; rfl

set_option maxRecDepth 100000 in
set_option maxHeartbeats 2000000 in
theorem rscale_any (N h o cap : Nat) (s : Rc.St) (w : World) (hE : RefAt w h o cap s) (hf : s.fits) (hk : 4 + s.k + N ≤ 140737488355328) (hr : 16777216 ≤ s.r * 256 ^ N) :
    Calls Tryz.prog 83 #[.pointer (some ⟨h, 0, none⟩)] w (Did (RefDone w h o (Rc.St.scale N s))) := by
  go_enter Tryz.func83, Tryz.ntmps83
  go_wp2_with fail
  go_loopg [6] N (fun gk s6 wr => ∃ (o' cap' : Nat) (t : Rc.St), RefAt wr h o' cap' t ∧ t.fits ∧ 4 + t.k + gk ≤ 140737488355328 ∧ Hid (16777216 ≤ t.r * 256 ^ gk) ∧ Rc.St.scale N s = Rc.St.scale gk t ∧ Only [h] w wr ∧ (o' = o ∨ w.heap.size ≤ o'))
  case atStart => exact ⟨o, cap, s, hE, hf, hk, hr, rfl, Only.refl _ _, .inl rfl⟩
  case round =>
    obtain ⟨o', cap', t, hT, hft, hkt, hrt, hsc, hon, ho'⟩ := hrel
    have HSC := Lib.hid hsc
    have c0 := cell20_of hT.blk
    have c1 := cell21_of hT.blk
    have f0 := frozen_of_row wr h 0 _ _ hT.blk
    have f1 := frozen_of_row wr h 1 _ _ hT.blk
    clear hsc hE
    by_cases hlt : t.r < 16777216
    · have hlt' : (t.r : Int) < 16777216 := by omega
      cases gk with
      | zero => have := hrt.out; simp at this; omega
      | succ gk =>
        have hhl : h < wr.heap.size := block_lt_of_cell c0
        have hblk1 := blk2_set1 hT.blk (.int .u64 ((t.r : Int) * 256))
        have hown1 := own_other (p := ⟨h, 1, none⟩) hT.own hT.ne (.int .u64 ((t.r : Int) * 256))
        have hon1 := hon.setCell (p := ⟨h, 1, none⟩) (.inl (by simp)) (.int .u64 ((t.r : Int) * 256))
        have hsz1 : (wr.setCell ⟨h, 1, none⟩ (.int .u64 ((t.r : Int) * 256))).heap.size = wr.heap.size := by simp
        generalize hw1 : wr.setCell ⟨h, 1, none⟩ (.int .u64 ((t.r : Int) * 256)) = w1 at *
        have HW1 := Lib.hid hw1
        have c01 := cell20_of hblk1
        have f01 := frozen_of_row w1 h 0 _ _ hblk1
        obtain ⟨hlen, hrB⟩ := own_read0 hown1
        have hub := Lib.hid (up_be t.k t.v)
        generalize hlb : Rc.be (4 + t.k) t.v = lb at *
        have hm0 : 0 < 4 + t.k := by omega
        generalize hmd : 4 + t.k = m at *
        have HM := Lib.hid hmd
        have hsrc : Value.slice (some ⟨o', 0, none⟩) m cap' = .slice (some ⟨o', 0, none⟩) lb.length cap' := by rw [hlen]
        have HSRC := Lib.hid hsrc
        have HLEN := Lib.hid hlen
        have hfit : ([] : List UInt8).length + lb.length ≤ 140737488355328 := by rw [← hlen]; simp; omega
        have hfit2 : ([] ++ lb : List UInt8).length + [(0 : UInt8)].length ≤ 140737488355328 := by simp; rw [← hlen]; omega
        have hoe : Own w1.heap.size (w1.alloc (.cells #[] 5)) (.slice (some ⟨w1.heap.size, 0, none⟩) 0 0) [] := Own.lit w1 [] (Nat.le_refl _) (by simp)
        have hb0 : Below w1.heap.size w1 (w1.alloc (.cells #[] 5)) := (Below.refl _ _).alloc (Nat.le_refl _) _
        have hs0 : w1.heap.size ≤ (w1.alloc (.cells #[] 5)).heap.size := hb0.size
        have hhl1 : h < w1.heap.size := by omega
        have HB1 := Lib.hid hblk1
        clear hlb hmd hsrc hlen hw1 hsz1 hblk1
        go_upto_region 2 with (fail)
        rw [HW1.out]
        clear c0 c1 f0 f1
        go_wp2_with (first
          | (at_builtin; refine wpList_append_bytes rfl (.tmp 16) (.tmp 20) rfl w1.heap.size _ _ [] rfl hoe (some ⟨o', 0, none⟩) lb cap' HSRC.out (hrB.below hb0) hfit hs0 ?_; intro v2 w4 ho4 hg4; have hb4 : Below w1.heap.size w1 w4 := below_grown hb0 hg4 hs0 (fun g' hg' => (hoe.from_base g' hg').1); have hone : Bytes (w4.alloc (.cells #[.int .u8 0] 5)) (some ⟨w4.heap.size, 0, none⟩) [0] := Bytes.one w4 0; have hoa := ho4.alloc (.cells #[.int .u8 0] 5); have hba := hb4.alloc hb4.size (.cells #[.int .u8 0] 5); have c04 := (hb4.cell (p := ⟨h, 0, none⟩) hhl1).trans c01)
          | (at_builtin; refine wpList_append_bytes rfl (.tmp 21) (.tmp 22) rfl w1.heap.size _ _ _ rfl hoa (some ⟨w4.heap.size, 0, none⟩) [0] 1 rfl hone hfit2 hba.size ?_; intro v3 w5 ho5 hg5; have hb5 : Below w1.heap.size w1 w5 := below_grown hba hg5 hba.size (fun g' hg' => (hoa.from_base g' hg').1); have hblk5 := (hb5.block h hhl1).trans HB1.out; have c05 := cell20_of hblk5; have f05 := frozen_of_row w5 h 0 _ _ hblk5; rw [List.nil_append] at ho5; unfold Own at ho5; rw [List.length_append, ← HLEN.out] at ho5; obtain ⟨gb, capb, rfl, hgb, hgblt⟩ := World.ownsRow.form ho5 (by simp)))
        have hne5 : h ≠ gb := by omega
        have hlast := blk2_set0 hblk5 (.slice (some ⟨gb, 0, none⟩) (m + 1) capb)
        have hown6 := own_other (p := ⟨h, 0, none⟩) (own_lower ho5 (Nat.zero_le _)) hne5 (.slice (some ⟨gb, 0, none⟩) (m + 1) capb)
        have hon5 : Only [h] w w5 := hon1.trans (Y := []) ⟨hb5.os, hb5.tape, hb5.output, hb5.size, fun i hi _ => hb5.block i hi⟩ (by simp)
        have hon6 := hon5.setCell (p := ⟨h, 0, none⟩) (.inl (by simp)) (.slice (some ⟨gb, 0, none⟩) (m + 1) capb)
        have hsz := hon1.size
        go_roundg gk
        case measure => omega
        case rel =>
          refine ⟨gb, capb, t.up, ⟨?_, ?_, hne5⟩, t.up_fits hft hlt, by show 4 + (t.k + 1) + gk ≤ _; have := HM.out; omega, ?_, ?_, hon6, .inr (by omega)⟩
          · show _ = some (Obj.cells #[.slice (some ⟨gb, 0, none⟩) (4 + (t.k + 1)) capb, .int .u64 ((t.r * 256 : Nat) : Int)] _ _)
            rw [← Nat.add_assoc, HM.out, show ((t.r * 256 : Nat) : Int) = (t.r : Int) * 256 from by omega]; exact hlast
          · show World.ownsRow _ 0 _ 1 (.slice (some ⟨gb, 0, none⟩) (4 + (t.k + 1)) capb) (4 + (t.k + 1)) ((Rc.be (4 + (t.k + 1)) (t.v * 256)).map B8)
            rw [← hub.out, ← Nat.add_assoc, HM.out]; exact hown6
          · show 16777216 ≤ t.r * 256 * 256 ^ gk
            have := hrt.out
            rw [Nat.pow_succ, Nat.mul_comm (256 ^ gk), ← Nat.mul_assoc] at this; exact this
          · rw [HSC.out, Rc.St.scale, if_pos hlt]
    · have hge : ¬ (t.r : Int) < 16777216 := by omega
      go_wp2_with fail
      go_end0
      refine ⟨rfl, o', cap', ?_, hon, ho'⟩
      have hst : Rc.St.scale gk t = t := by
        cases gk with
        | zero => rfl
        | succ gk => rw [Rc.St.scale, if_neg hlt]
      rw [HSC.out, hst]; exact hT
end Go.Proofs.YtklkboplkobhgaaGreat

/- The walks over the reference's Bit, New and Bytes. -/
namespace Go.Proofs.YtklkboplkobhgaaGreat
set_option maxRecDepth 100000
open Go.RowKit

/-- What the reference's Bit comes to. -/
def RBitDone (w : World) (h o : Nat) (p : Nat) (t : Rc.St) (e : Ending) (w' : World) : Prop := e = .returned (.int .u16 (p : Nat)) ∧ RefDone w h o t w'

theorem bound_u64 (r p : Nat) (hr : r < 4294967296) (hp : p ≤ 2047) : IntKind.u64.wrap (((r : Int) / 2048) * (p : Int)) = ((r / 2048 * p : Nat) : Int) := by
  have h : r / 2048 * p ≤ r / 2048 * 2047 := Nat.mul_le_mul_left _ hp
  have e : ((r : Int) / 2048) * (p : Int) = ((r / 2048 * p : Nat) : Int) := by simp
  rw [e, IntWalk.u64_in _ ⟨by omega, by omega⟩]

set_option maxRecDepth 100000 in
set_option maxHeartbeats 1000000 in
theorem rbit_any (h o cap : Nat) (s : Rc.St) (c : BitVec 16) (one : Bool) (w : World) (hE : RefAt w h o cap s) (hs : s.ok) (hk : 4 + s.k + 2 ≤ 140737488355328) :
    Calls Tryz.prog 60 #[.pointer (some ⟨h, 0, none⟩), .int .u16 c.toNat, .int .i64 (bitI one)] w
      (RBitDone w h o (Rc.next (Rc.fair c.toNat) one) (Rc.St.scale 2 (s.pick (Rc.fair c.toNat) one))) := by
  obtain ⟨hp1, hp2⟩ := Rc.fair_bounds c.toNat
  have hv := Lib.hid (fun w => fair_any c w)
  generalize Rc.fair c.toNat = p at *
  have hsr := hs.1.2
  have hbd := bound_u64 s.r p hsr hp2
  have hble : s.r / 2048 * p ≤ s.r / 2048 * 2047 := Nat.mul_le_mul_left _ hp2
  generalize hbn : s.r / 2048 * p = bnd at *
  have hblt : bnd < 4294967296 := by omega
  have hbr : bnd ≤ s.r := by omega
  have HBN := Lib.hid hbn
  clear hbn
  have c1 := cell21_of hE.blk
  have f1 := frozen_of_row w h 1 _ _ hE.blk
  cases one with
  | false =>
    obtain ⟨hpf, hpr⟩ := s.pick_fits p false hs hp1 hp2
    have hmv := Lib.hid (fun w => rnext_any p false w hp1 hp2)
    rw [show bitI false = 0 from rfl]
    have hpk : s.pick p false = ⟨s.k, s.v, bnd⟩ := by rw [← HBN.out]; rfl
    rw [hpk] at hpf hpr ⊢
    have hE1 : RefAt (w.setCell ⟨h, 1, none⟩ (.int .u64 ((bnd : Nat) : Int))) h o cap ⟨s.k, s.v, bnd⟩ := ⟨blk2_set1 hE.blk _, own_other hE.own hE.ne _, hE.ne⟩
    have hsh := Lib.hid (rscale_any 2 h o cap ⟨s.k, s.v, bnd⟩ _ hE1 hpf (by show 4 + s.k + 2 ≤ _; exact hk) (by show 16777216 ≤ bnd * 256 ^ 2; have : 8192 ≤ bnd := hpr; omega))
    go_enter Tryz.func60, Tryz.ntmps60
    go_wp2_with fail
    refine (hv.out _).mono ?_
    rintro e w' ⟨rfl, rfl⟩
    go_wp2_with fail
    refine hsh.out.mono ?_
    rintro e w1 ⟨rfl, o', cap', hE2, hon, ho⟩
    go_wp2_with fail
    refine (hmv.out _).mono ?_
    rintro e w' ⟨rfl, rfl⟩
    go_wp2_with fail
    go_ret
    exact ⟨rfl, o', cap', hE2, ((Only.refl _ _).setCell (p := ⟨h, 1, none⟩) (.inl (by simp)) _).trans hon (by simp), by rcases ho with h | h; exact .inl h; exact .inr (by simpa using h)⟩
  | true =>
    obtain ⟨hpf, hpr⟩ := s.pick_fits p true hs hp1 hp2
    have hmv := Lib.hid (fun w => rnext_any p true w hp1 hp2)
    rw [show bitI true = 1 from rfl]
    have hpk : s.pick p true = ⟨s.k, s.v + bnd, s.r - bnd⟩ := by rw [← HBN.out]; rfl
    rw [hpk] at hpf hpr ⊢
    have hadd := Lib.hid (radd_any h o cap s bnd w hE hblt (by omega))
    have hsub : (s.r : Int) - (bnd : Int) = ((s.r - bnd : Nat) : Int) := by omega
    go_enter Tryz.func60, Tryz.ntmps60
    go_wp2_with fail
    refine (hv.out _).mono ?_
    rintro e w' ⟨rfl, rfl⟩
    go_wp2_with fail
    refine hadd.out.mono ?_
    rintro e w1 ⟨rfl, o1, cap1, hEa, hona, hoa⟩
    have d1 := cell21_of hEa.blk
    have e1 := frozen_of_row w1 h 1 _ _ hEa.blk
    have hE1 : RefAt (w1.setCell ⟨h, 1, none⟩ (.int .u64 ((s.r - bnd : Nat) : Int))) h o1 cap1 ⟨s.k, s.v + bnd, s.r - bnd⟩ := ⟨blk2_set1 hEa.blk _, own_other hEa.own hEa.ne _, hEa.ne⟩
    have hsh := Lib.hid (rscale_any 2 h o1 cap1 ⟨s.k, s.v + bnd, s.r - bnd⟩ _ hE1 hpf (by show 4 + s.k + 2 ≤ _; exact hk) (by show 16777216 ≤ (s.r - bnd) * 256 ^ 2; have : 8192 ≤ s.r - bnd := hpr; omega))
    simp only at d1
    go_wp2_with fail
    refine hsh.out.mono ?_
    rintro e w2 ⟨rfl, o', cap', hE2, hon, ho⟩
    go_wp2_with fail
    refine (hmv.out _).mono ?_
    rintro e w' ⟨rfl, rfl⟩
    go_wp2_with fail
    go_ret
    have hsz := hona.size
    refine ⟨rfl, o', cap', hE2, (hona.setCell (p := ⟨h, 1, none⟩) (.inl (by simp)) _).trans hon (by simp), ?_⟩
    rcases ho with h1 | h1
    · rw [h1]; exact hoa
    · exact .inr (by simp at h1; omega)

def RNewDone (w : World) (e : Ending) (w' : World) : Prop := ∃ h o cap, e = .returned (.pointer (some ⟨h, 0, none⟩)) ∧ RefAt w' h o cap st0 ∧ Below w.heap.size w w' ∧ w.heap.size ≤ h ∧ w.heap.size ≤ o

set_option maxRecDepth 100000 in
set_option maxHeartbeats 400000 in
theorem rnew_any (w : World) : Calls Tryz.prog 31 #[] w (RNewDone w) := by
  obtain ⟨i, hi, hz0, hz1, hz2⟩ := info_parts info8
  go_enter Tryz.func31, Tryz.ntmps31
  go_wp2_with (refine wpList_make_full _ rfl _ _ 22 rfl w.heap.size 5 i (.int .u8 0) 1 Tryz.underlying22 hi hz0 hz1 _ _ _ _ 4 rfl rfl rfl rfl (by rw [hz2]; omega) (by unfold maxLen; omega) (Nat.le_refl _) ?_; intro w1 hown1 hg1)
  have hb1 : Below w.heap.size w w1 := below_grown (Below.refl _ _) hg1 (Nat.le_refl _) (by simp)
  have hsz := hb1.size
  have hlt := (World.ownsRow.lt hown1 w.heap.size rfl).2
  go_ret
  refine ⟨w1.heap.size, w.heap.size, 4, rfl, ⟨heap_alloc_new w1 _, ?_, by omega⟩, hb1.alloc hsz _, hsz, Nat.le_refl _⟩
  refine World.ownsRow.alloc ?_ _
  show World.ownsRow _ 0 _ 1 (.slice (some ⟨w.heap.size, 0, none⟩) (4 + 0) 4) (4 + 0) ((Rc.be (4 + 0) 0).map B8)
  have e : (madeCells (Value.int .u8 0).cells (4 * 1)).toList = (Rc.be (4 + 0) 0).map B8 := by
    rw [Nat.mul_one, show (Value.int .u8 0).cells = #[Value.int .u8 0] from rfl, toList_madeCells_one]; rfl
  rw [← e]
  exact own_lower hown1 (Nat.zero_le _)
end Go.Proofs.YtklkboplkobhgaaGreat
