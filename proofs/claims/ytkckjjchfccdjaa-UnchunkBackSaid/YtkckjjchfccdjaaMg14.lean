/- Several texts in one: MdPut, MdPure. -/
import Derived.Test.YtkckjjchfccdjaaMdPerm
import Derived.Test.YtkckjjchfccdjaaMg12
import Derived.Test.YtkckjjchfccdjaaMdSym
import Derived.Test.YtkckjjchfccdjaaMg13
/- The model's Put. -/
namespace Go.Proofs.Ytkckjjchfccdjaa
set_option maxRecDepth 100000
open Go.RowKit

theorem fitsZ_lit {r : R4} {n l d q : Int} : fitsZ r n 0 l d q = true := by unfold fitsZ; simp
/-- What fits, told apart. -/
theorem fitsZ_cases {r : R4} {n k l d q : Int} (h : fitsZ r n k l d q = true) : k = 0 ∨ (k = 1 ∧ 2 ≤ l ∧ l ≤ 273 ∧ 1 ≤ d ∧ d ≤ n ∧ d ≤ 4294967295) ∨ (k = 2 ∧ 0 ≤ q ∧ q ≤ 3 ∧ rAt r q ≤ n ∧ ((2 ≤ l ∧ l ≤ 273) ∨ (l = 1 ∧ q = 0))) := by
  unfold fitsZ at h
  by_cases k1 : k = 1
  · rw [if_pos k1] at h
    exact .inr (.inl ⟨k1, of_decide_eq_true h⟩)
  · rw [if_neg k1] at h
    by_cases k2 : k = 2
    · rw [if_pos k2] at h
      exact .inr (.inr ⟨k2, of_decide_eq_true h⟩)
    · rw [if_neg k2] at h
      exact .inl (of_decide_eq_true h)
set_option maxRecDepth 100000 in
set_option maxHeartbeats 1000000 in
theorem put_no {C L lc lp pb st : Nat} {r : R4} {P : Nat → Nat} {w : World} (hM : ModAt w C L lc lp pb st r P) (v : Value) (A : Option Addr) (n c : Nat) (hn : n ≤ 1000000000) (k : Int) (b : UInt8) (l d q : Int) (hf : fitsZ r (n : Int) k l d q = false) :
    Calls Try.prog 49 #[PF C, v, .slice A n c, SyV k b l d q] w (Tells (.int .i64 1) w) := by
  obtain ⟨W1, hW1⟩ : ∃ W1, w.alloc (.cells #[.int .i64 k, .int .u8 (b.toNat : Nat), .int .i64 l, .int .i64 d, .int .i64 q] 99) = W1 := ⟨_, rfl⟩
  obtain ⟨y0, y1, y2, y3, y4, hbb⟩ := sy_box1 hW1
  have HP := Lib.hid (permits_any (hM.keep (hbb.block _ hM.clt) (hbb.block _ hM.llt)) A n c hn k b l d q)
  rw [hf] at HP
  have HB := Lib.hid hbb
  have HW1 := Lib.hid hW1
  clear hM hbb hW1 hf
  go_enter Try.func49, Try.ntmps49
  go_upto_region 1 with fail
  rw [HW1.out]
  go_wp2_with fail
  refine HP.out.mono ?_
  rintro e w2 ⟨rfl, hb2⟩
  go_wp2_with fail
  go_ret
  exact ⟨rfl, HB.out.trans (hb2.mono HB.out.size)⟩
set_option maxRecDepth 100000 in
set_option maxHeartbeats 1000000 in
theorem put_yes {g C L lc lp pb st : Nat} {r : R4} {x : (encIo g).S} {X : List Nat} {w : World} (hM : MS (encIo g) w C L lc lp pb st r x X) (hlc : lc ≤ 4) (hlp : lp ≤ 4) (hpb : pb ≤ 4) (hst : st < 12) (hr : rGood r) {k : Nat} (A : Option Addr) (H : List UInt8) (c : Nat) (hB : Bytes w A H) (hc : H.length ≤ c) (hH : H.length ≤ 1000000000) (hHX : ∀ a, A = some a → a.block ∉ C :: L :: X)
    (kk : Int) (b : UInt8) (l d q : Int) (hf : fitsZ r (H.length : Int) kk l d q = true) {s' : Sy} {st' : Nat} {r' : R4} {Z : (encIo g).S} (hR : Md.sym (encIo g) lc lp pb st r H kk b l d q x = (s', st', r', Z)) (hok : (encIo g).ok x.2 (k + 54)) :
    Calls Try.prog 49 #[PF C, PF g, .slice A H.length c, SyV kk b l d q] w (MAnd (s'.k ≤ 2 ∧ s'.r ≤ 3 ∧ s'.l ≤ 273 ∧ (s'.d : Int) ≤ 4294967296 ∧ st' < 12 ∧ rGood r' ∧ (encIo g).ok Z.2 k) (MDone (.int .i64 0) (encIo g) C L lc lp pb st' r' Z X w)) := by
  obtain ⟨Q, hQ⟩ : ∃ Q, (s'.k ≤ 2 ∧ s'.r ≤ 3 ∧ s'.l ≤ 273 ∧ (s'.d : Int) ≤ 4294967296 ∧ st' < 12 ∧ rGood r' ∧ (encIo g).ok Z.2 k) = Q := ⟨_, rfl⟩
  rw [hQ]
  have HQ := Lib.hid hQ
  clear hQ
  obtain ⟨W1, hW1⟩ : ∃ W1, w.alloc (.cells #[.int .i64 kk, .int .u8 (b.toNat : Nat), .int .i64 l, .int .i64 d, .int .i64 q] 99) = W1 := ⟨_, rfl⟩
  obtain ⟨y0, y1, y2, y3, y4, hbb⟩ := sy_box1 hW1
  have hM1 := hM.below hbb
  have HP := Lib.hid (permits_any hM1.mod A H.length c hH kk b l d q)
  rw [hf] at HP
  have hcase := fitsZ_cases hf
  have HC := Lib.hid (fun (w2 : World) (hb2 : Below W1.heap.size W1 w2) => sym_is (encIo g) (hM1.below hb2) hlc hlp hpb hst hr A H c ((hB.below hbb).below hb2) hc hH hHX kk b l d q (by
      intro h
      have hk : kk ≠ 0 := fun e => by subst e; simp [Io.bitAt, encIo] at h
      rcases hcase with e | ⟨e, h1⟩ | ⟨e, h1⟩
      · exact absurd e hk
      · omega
      · omega) (by
      intro h h2
      have hk : kk = 1 := by
        by_cases e : kk = 1
        · exact e
        · simp [Io.bitAt, encIo, e] at h2
      rcases hcase with e | ⟨e, h1⟩ | ⟨e, h1⟩
      · omega
      · omega
      · omega) hR hok)
  have HB := Lib.hid hbb
  have HW1 := Lib.hid hW1
  have HSY := Lib.hid (And.intro y0 (And.intro y1 (And.intro y2 (And.intro y3 y4))))
  have HLT : Hid (w.heap.size < W1.heap.size) := Lib.hid (by rw [← hW1]; simp)
  clear hM hbb hW1 hf hM1 hB hcase hR hok hHX hr y0 y1 y2 y3 y4
  have hqq := HSY.out
  obtain ⟨y0, y1, y2, y3, y4⟩ := hqq
  go_enter Try.func49, Try.ntmps49
  go_upto_region 1 with fail
  rw [HW1.out]
  go_wp2_with fail
  refine HP.out.mono ?_
  rintro e w2 ⟨rfl, hb2⟩
  have z0 := (hb2.cell (p := ⟨w.heap.size, 0, none⟩) HLT.out).trans y0
  have z1 := (hb2.cell (p := ⟨w.heap.size, 1, none⟩) HLT.out).trans y1
  have z2 := (hb2.cell (p := ⟨w.heap.size, 2, none⟩) HLT.out).trans y2
  have z3 := (hb2.cell (p := ⟨w.heap.size, 3, none⟩) HLT.out).trans y3
  have z4 := (hb2.cell (p := ⟨w.heap.size, 4, none⟩) HLT.out).trans y4
  have HB2 := Lib.hid hb2
  clear hb2 y0 y1 y2 y3 y4
  go_wp2_with fail
  refine (HC.out w2 HB2.out).mono ?_
  rintro e w3 ⟨⟨rfl, X3, hM3, hon3, hX3⟩, hq3⟩
  have HM3 := Lib.hid hM3
  have HO3 := Lib.hid (And.intro hon3 hX3)
  have HQ3 := Lib.hid hq3
  clear hM3 hon3 hX3 hq3
  go_wp2_with fail
  go_ret
  have hw2 := HB.out.trans (HB2.out.mono HB.out.size)
  refine ⟨⟨rfl, X3, HM3.out, (Only.of_below hw2).trans HO3.out.1 (fun i hi => .inl hi), fun i hi => ?_⟩, by rw [← HQ.out]; exact HQ3.out⟩
  rcases HO3.out.2 i hi with h | h
  · exact .inl h
  · exact .inr (Nat.le_trans hw2.size h)
end Go.Proofs.Ytkckjjchfccdjaa

/- A symbol that is coded comes back as it was asked: the mathematics. -/
namespace Go.Proofs.Ytkckjjchfccdjaa
set_option maxRecDepth 100000
open Go.RowKit

theorem bitI_of (v j : Nat) : ((v / 2 ^ j % 2 : Nat) : Int) = bitI (Md.bitOf (v : Nat) j) := by
  unfold Md.bitOf bitI
  have e : ((v : Nat) : Int) / 2 ^ j % 2 = ((v / 2 ^ j % 2 : Nat) : Int) := by simp
  rw [e]
  by_cases h : v / 2 ^ j % 2 = 1
  · rw [h]; rfl
  · have h0 : v / 2 ^ j % 2 = 0 := by omega
    rw [h0]; rfl
theorem bit_toNat (v j : Nat) : (Md.bitOf (v : Nat) j).toNat = v / 2 ^ j % 2 := by
  have h := bitI_of v j
  have h2 : bitI (Md.bitOf (v : Nat) j) = ((Md.bitOf (v : Nat) j).toNat : Int) := by cases Md.bitOf (v : Nat) j <;> rfl
  rw [h2] at h
  omega
theorem treeGo_enc (g at_ v : Nat) : ∀ n m (x : (encIo g).S), (Md.treeGo (encIo g) at_ (v : Nat) n m x).1 = m * 2 ^ n + v % 2 ^ n
  | 0, m, x => by unfold Md.treeGo; simp; omega
  | n + 1, m, x => by
    unfold Md.treeGo
    rw [treeGo_enc g at_ v n]
    have e : ((encIo g).bitAt (at_ + m) (Md.bitOf (v : Nat) n) x).1 = Md.bitOf (v : Nat) n := rfl
    rw [e, bit_toNat, Nat.mod_pow_succ, Nat.pow_succ, Nat.add_mul]
    generalize v / 2 ^ n % 2 = B
    rw [Nat.mul_comm 2 m, Nat.mul_assoc, Nat.mul_comm 2 (2 ^ n), Nat.mul_comm B]
    omega
theorem tree_enc (g at_ v n : Nat) (hv : v < 2 ^ n) (x : (encIo g).S) : (Md.tree (encIo g) at_ n (v : Nat) x).1 = v := by
  unfold Md.tree
  rw [treeGo_enc, Nat.mod_eq_of_lt hv]
  simp
theorem revGo_enc (g at_ v : Nat) : ∀ k i m q (x : (encIo g).S), (Md.revGo (encIo g) at_ (v : Nat) k i m q x).1 = q + v / 2 ^ i % 2 ^ k * 2 ^ i
  | 0, i, m, q, x => by unfold Md.revGo; simp [Nat.mod_one]
  | k + 1, i, m, q, x => by
    unfold Md.revGo
    rw [revGo_enc g at_ v k]
    have e : ((encIo g).bitAt (at_ + m) (Md.bitOf (v : Nat) i) x).1 = Md.bitOf (v : Nat) i := rfl
    rw [e, bit_toNat]
    have e2 : v / 2 ^ (i + 1) = v / 2 ^ i / 2 := by rw [Nat.div_div_eq_div_mul, ← Nat.pow_succ]
    rw [e2]
    generalize v / 2 ^ i = u
    have e3 : u % 2 ^ (k + 1) = u % 2 + 2 * (u / 2 % 2 ^ k) := by
      have h := Nat.div_add_mod (u % 2 ^ (k + 1)) 2
      rw [Nat.pow_succ, Nat.mul_comm (2 ^ k) 2] at h ⊢
      rw [Nat.mod_mul_right_div_self, Nat.mod_mul_right_mod] at h
      omega
    rw [e3, Nat.add_mul, Nat.pow_succ]
    generalize 2 ^ i = P
    generalize u / 2 % 2 ^ k = W
    generalize u % 2 = B
    rw [Nat.mul_comm P 2, ← Nat.mul_assoc W 2 P, Nat.mul_comm W 2]
    omega
theorem rev_enc (g at_ v n : Nat) (x : (encIo g).S) : (Md.rev (encIo g) at_ n (v : Nat) x).1 = v % 2 ^ n := by
  unfold Md.rev
  rw [revGo_enc]
  simp
theorem len_enc (g A p l : Nat) (h2 : 2 ≤ l) (h3 : l ≤ 273) (x : (encIo g).S) : (Md.len (encIo g) A p (l : Nat) x).1 = l := by
  obtain ⟨n, rfl⟩ : ∃ n, l = n + 2 := ⟨l - 2, by omega⟩
  have e0 : ((n + 2 : Nat) : Int) - 2 = (n : Int) := by omega
  unfold Md.len
  simp only [e0]
  have b1 : ((encIo g).bitAt A (decide ((8 : Int) ≤ (n : Int))) x).1 = decide ((8 : Int) ≤ (n : Int)) := rfl
  rw [b1]
  by_cases h8 : 8 ≤ n
  · rw [show decide ((8 : Int) ≤ (n : Int)) = true from decide_eq_true (by omega)]
    simp only [Bool.true_eq_false, if_false]
    by_cases h16 : 16 ≤ n
    · rw [show decide ((16 : Int) ≤ (n : Int)) = true from decide_eq_true (by omega)]
      have b2 : ((encIo g).bitAt (A + 1) true ((encIo g).bitAt A true x).2).1 = true := rfl
      rw [b2]
      simp only [Bool.true_eq_false, if_false]
      rw [show (n : Int) - 16 = ((n - 16 : Nat) : Int) by omega, tree_enc _ _ _ _ (by omega)]
      omega
    · rw [show decide ((16 : Int) ≤ (n : Int)) = false from decide_eq_false (by omega)]
      have b2 : ((encIo g).bitAt (A + 1) false ((encIo g).bitAt A true x).2).1 = false := rfl
      rw [b2]
      simp only [if_true]
      rw [show (n : Int) - 8 = ((n - 8 : Nat) : Int) by omega, tree_enc _ _ _ _ (by omega)]
      omega
  · rw [show decide ((8 : Int) ≤ (n : Int)) = false from decide_eq_false (by omega)]
    simp only [if_true]
    rw [tree_enc _ _ _ _ (by omega)]
    omega
theorem bitLen_small {x : Nat} (h1 : 2 ≤ x) (h2 : x ≤ 3) : Lib.bitLen x = 2 := by
  rcases (by omega : x = 2 ∨ x = 3) with rfl | rfl <;> decide
theorem slot_of {d n : Nat} (h2 : 2 ≤ d / 2 ^ n) (h3 : d / 2 ^ n ≤ 3) (hd : d < 4294967296) (hn : 1 ≤ n) : slotN d = 2 * n + d / 2 ^ n ∧ 4 ≤ d := by
  have hp : 2 ≤ 2 ^ n := by
    have : 2 ^ 1 ≤ 2 ^ n := Nat.pow_le_pow_right (by omega) hn
    omega
  have hle : 2 * 2 ^ n ≤ d := (Nat.le_div_iff_mul_le (by omega)).1 h2
  have h4 : 4 ≤ d := by omega
  have hb : Lib.bitLen d = n + 2 := by
    rw [Lib.bitLen_shift n d (by omega) (by omega), bitLen_small h2 h3]
  refine ⟨?_, h4⟩
  unfold slotN
  rw [if_neg (by omega), hb, Nat.add_sub_cancel]
  omega
theorem big_n : ∀ (d : Nat), 4 ≤ d → ∃ n, 1 ≤ n ∧ 2 ≤ d / 2 ^ n ∧ d / 2 ^ n ≤ 3 := by
  intro d
  induction d using Nat.strongRecOn with
  | ind d ih =>
    intro h
    by_cases h3 : d / 2 ≤ 3
    · exact ⟨1, by omega, by simp; omega, by simp; omega⟩
    · obtain ⟨n, h1, h2, h4⟩ := ih (d / 2) (by omega) (by omega)
      refine ⟨n + 1, by omega, ?_, ?_⟩
      · rw [Nat.pow_succ, Nat.mul_comm, ← Nat.div_div_eq_div_mul]; exact h2
      · rw [Nat.pow_succ, Nat.mul_comm, ← Nat.div_div_eq_div_mul]; exact h4
/-- A slot and the bits behind it. -/
theorem big_slot {d : Nat} (h4 : 4 ≤ d) (hd : d < 4294967296) : ∃ n q, slotN d / 2 - 1 = n ∧ d / 2 ^ n = q ∧ 1 ≤ n ∧ n ≤ 30 ∧ 2 ≤ q ∧ q ≤ 3 ∧ slotN d = 2 * n + q := by
  obtain ⟨n, h1, h2, h3⟩ := big_n d h4
  obtain ⟨hs, _⟩ := slot_of h2 h3 hd h1
  have hn : slotN d / 2 - 1 = n := by omega
  have := slotN_lt hd
  exact ⟨n, _, hn, rfl, h1, by omega, h2, h3, hs⟩
theorem dist_enc (g l dd : Nat) (h1 : 1 ≤ dd) (h2 : dd ≤ 4294967295) (x : (encIo g).S) : (Md.dist (encIo g) l (dd : Nat) x).1 = dd := by
  obtain ⟨d, rfl⟩ : ∃ d, dd = d + 1 := ⟨dd - 1, by omega⟩
  have e0 : ((((d + 1 : Nat) : Int) - 1) % 4294967296).toNat = d := by omega
  have hsl := slotN_lt (d := d) (by omega)
  unfold Md.dist
  rw [e0]
  simp only
  rw [tree_enc _ _ _ _ (by omega)]
  by_cases h4 : d < 4
  · rw [show slotN d = d by unfold slotN; rw [if_pos h4], if_pos h4]
  · obtain ⟨n, q, hn, hq, n1, n30, q2, q3, hs⟩ := big_slot (d := d) (by omega) (by omega)
    rw [if_neg (by omega), hn]
    have hm : 2 + slotN d % 2 = q := by omega
    rw [hm]
    have hdm := Nat.div_add_mod d (2 ^ n)
    rw [hq, Nat.mul_comm] at hdm
    by_cases h14 : slotN d < 14
    · rw [if_pos h14]
      simp only
      rw [rev_enc]
      omega
    · rw [if_neg h14]
      simp only
      have e1 : ∀ (s : (encIo g).σ) (v m : Nat), ((encIo g).plain s v m).1 = v := fun _ _ _ => rfl
      rw [e1, rev_enc]
      have hV : d / 16 % 2 ^ (n - 4) < 2 ^ (n - 4) := Nat.mod_lt _ (Nat.pow_pos (by decide))
      rw [Nat.mod_eq_of_lt hV]
      have e2 : d % 2 ^ n = d / 16 % 2 ^ (n - 4) * 16 + d % 2 ^ 4 := by
        have e3 : 2 ^ n = 16 * 2 ^ (n - 4) := by
          rw [show (16 : Nat) = 2 ^ 4 from rfl, ← Nat.pow_add, show 4 + (n - 4) = n by omega]
        have h := Nat.div_add_mod (d % 2 ^ n) 16
        rw [e3, Nat.mod_mul_right_div_self, Nat.mod_mul_right_mod] at h
        rw [e3]
        omega
      omega
theorem litGo_false (io : Io) (T like : Nat) (v : Int) : ∀ n m (x : io.S), Md.litGo io T like v n m false x = Md.treeGo io T v n m x
  | 0, m, x => rfl
  | n + 1, m, x => by
    unfold Md.litGo Md.treeGo
    simp only [Bool.false_eq_true, if_false, Bool.false_and]
    exact litGo_false io T like v n _ _
theorem litGo_enc (g T like v : Nat) : ∀ n m al (x : (encIo g).S), (Md.litGo (encIo g) T like (v : Nat) n m al x).1 = m * 2 ^ n + v % 2 ^ n
  | 0, m, al, x => by unfold Md.litGo; simp; omega
  | n + 1, m, al, x => by
    unfold Md.litGo
    rw [litGo_enc g T like v n]
    have e : ∀ i (x : (encIo g).S), ((encIo g).bitAt i (Md.bitOf (v : Nat) n) x).1 = Md.bitOf (v : Nat) n := fun _ _ => rfl
    rw [e, bit_toNat, Nat.mod_pow_succ, Nat.pow_succ, Nat.add_mul]
    generalize v / 2 ^ n % 2 = B
    rw [Nat.mul_comm 2 m, Nat.mul_assoc, Nat.mul_comm 2 (2 ^ n), Nat.mul_comm B]
    omega
theorem lit_enc (g lc lp st : Nat) (a : Int) (H : List UInt8) (b : UInt8) (x : (encIo g).S) : (Md.lit (encIo g) lc lp st a H (b.toNat : Nat) x).1 = b := by
  unfold Md.lit
  simp only
  rw [litGo_enc]
  have hb := b.toNat_lt
  apply UInt8.toNat_inj.1
  rw [UInt8.toNat_ofNat']
  omega
theorem which_enc (g st q : Nat) (hq : q ≤ 3) (x : (encIo g).S) : (Md.which (encIo g) st (q : Nat) x).1 = q := by
  have b0 : ∀ i b y, ((encIo g).bitAt i b y).1 = b := fun _ _ _ => rfl
  unfold Md.which
  simp only [b0]
  have h : q = 0 ∨ q = 1 ∨ q = 2 ∨ q = 3 := by omega
  rcases h with rfl | rfl | rfl | rfl <;> rfl
theorem rept_enc (g st p q l : Nat) (hq : q ≤ 3) (h1 : 1 ≤ l) (h2 : q ≠ 0 → 2 ≤ l) (h3 : l ≤ 273) (x : (encIo g).S) : (Md.rept (encIo g) st p (l : Nat) (q : Nat) x).1 = (q, l) := by
  have b0 : ∀ i b y, ((encIo g).bitAt i b y).1 = b := fun _ _ _ => rfl
  unfold Md.rept
  simp only [which_enc g st q hq, b0]
  by_cases h0 : q = 0
  · rw [if_pos h0]
    by_cases hl : l = 1
    · subst hl
      simp [h0]
    · have hb : ((l : Int) != 1) = true := by
        simp only [bne_iff_ne, ne_eq]
        omega
      rw [if_neg (by rw [hb]; decide)]
      simp only [len_enc g 946 p l (by omega) h3]
      rw [h0]
  · rw [if_neg h0]
    simp only [len_enc g 946 p l (h2 h0) h3]
theorem sym_lit_enc (g lc lp pb st : Nat) (r : R4) (H : List UInt8) (b : UInt8) (l d q : Int) (x : (encIo g).S) : ∃ z, Md.sym (encIo g) lc lp pb st r H 0 b l d q x = (⟨0, b, 0, 0, 0⟩, litState st, r, z) ∧ z = (Md.lit (encIo g) lc lp st r.1 H (b.toNat : Nat) ((encIo g).bitAt (16 * st + H.length % 2 ^ pb) false x).2).2 := by
  refine ⟨_, ?_, rfl⟩
  have b0 : ∀ i b y, ((encIo g).bitAt i b y).1 = b := fun _ _ _ => rfl
  unfold Md.sym
  simp only [b0, show ((0 : Int) != 0) = false from rfl, if_true]
  rw [lit_enc]
theorem sym_match_enc (g lc lp pb st : Nat) (r : R4) (H : List UInt8) (b : UInt8) (l d : Nat) (q : Int) (h2 : 2 ≤ l) (h3 : l ≤ 273) (h4 : 1 ≤ d) (h5 : d ≤ 4294967295) (x : (encIo g).S) : ∃ z, Md.sym (encIo g) lc lp pb st r H 1 b (l : Nat) (d : Nat) q x = (⟨1, 0, l, d, 0⟩, (if st < 7 then 7 else 10), frontR r 3 (d : Nat), z) ∧ z = (Md.dist (encIo g) l (d : Nat) (Md.len (encIo g) 432 (H.length % 2 ^ pb) (l : Nat) ((encIo g).bitAt (192 + st) false ((encIo g).bitAt (16 * st + H.length % 2 ^ pb) true x).2).2).2).2 := by
  refine ⟨_, ?_, rfl⟩
  have b0 : ∀ i b y, ((encIo g).bitAt i b y).1 = b := fun _ _ _ => rfl
  unfold Md.sym
  simp only [b0, show ((1 : Int) != 0) = true from rfl, show ((1 : Int) != 1) = false from rfl, Bool.true_eq_false, if_false, if_true]
  simp only [len_enc g 432 _ l h2 h3, dist_enc g l d h4 h5]
theorem sym_rept_enc (g lc lp pb st : Nat) (r : R4) (H : List UInt8) (b : UInt8) (l q : Nat) (d : Int) (hq : q ≤ 3) (h1 : 1 ≤ l) (h2 : q ≠ 0 → 2 ≤ l) (h3 : l ≤ 273) (x : (encIo g).S) : ∃ z, Md.sym (encIo g) lc lp pb st r H 2 b (l : Nat) d (q : Nat) x = (⟨2, 0, l, 0, q⟩, (if st < 7 then (if l = 1 then 9 else 8) else 11), frontR r q (r4 r.1 r.2.1 r.2.2.1 r.2.2.2 q), z) ∧ z = (Md.rept (encIo g) st (H.length % 2 ^ pb) (l : Nat) (q : Nat) ((encIo g).bitAt (192 + st) true ((encIo g).bitAt (16 * st + H.length % 2 ^ pb) true x).2).2).2 := by
  refine ⟨_, ?_, rfl⟩
  have b0 : ∀ i b y, ((encIo g).bitAt i b y).1 = b := fun _ _ _ => rfl
  unfold Md.sym
  simp only [b0, show ((2 : Int) != 0) = true from rfl, show ((2 : Int) != 1) = true from rfl, Bool.true_eq_false, if_false]
  simp only [rept_enc g st _ q l hq h1 h2 h3]
theorem lit_state (st : Nat) (l : Int) : ((litState st : Nat) : Int) = stateAfter (st : Nat) 0 l := by
  unfold litState stateAfter
  rw [if_pos (show (0 : Int) = 0 from rfl)]
  by_cases h1 : st < 4
  · rw [if_pos h1, if_pos (show ((st : Nat) : Int) < 4 by omega)]; rfl
  · rw [if_neg h1, if_neg (show ¬ ((st : Nat) : Int) < 4 by omega)]
    by_cases h2 : st < 10
    · rw [if_pos h2, if_pos (show ((st : Nat) : Int) < 10 by omega)]; omega
    · rw [if_neg h2, if_neg (show ¬ ((st : Nat) : Int) < 10 by omega)]; omega
theorem match_state (st : Nat) (l : Int) : (((if st < 7 then 7 else 10 : Nat)) : Int) = stateAfter (st : Nat) 1 l := by
  unfold stateAfter
  rw [if_neg (show ¬ (1 : Int) = 0 by decide), if_pos (show (1 : Int) = 1 from rfl)]
  by_cases h1 : st < 7
  · rw [if_pos h1, if_neg (show ¬ (7 : Int) ≤ ((st : Nat) : Int) by omega)]; rfl
  · rw [if_neg h1, if_pos (show (7 : Int) ≤ ((st : Nat) : Int) by omega)]; rfl
theorem rept_state (st l : Nat) : (((if st < 7 then (if l = 1 then 9 else 8) else 11 : Nat)) : Int) = stateAfter (st : Nat) 2 (l : Nat) := by
  unfold stateAfter
  rw [if_neg (show ¬ (2 : Int) = 0 by decide), if_neg (show ¬ (2 : Int) = 1 by decide)]
  by_cases h1 : st < 7
  · rw [if_pos h1, if_neg (show ¬ (7 : Int) ≤ ((st : Nat) : Int) by omega)]
    by_cases h : l = 1
    · rw [if_pos h, if_pos (show ((l : Nat) : Int) = 1 by omega)]; rfl
    · rw [if_neg h, if_neg (show ¬ ((l : Nat) : Int) = 1 by omega)]; rfl
  · rw [if_neg h1, if_pos (show (7 : Int) ≤ ((st : Nat) : Int) by omega)]; rfl
theorem rept_reps (r : R4) (q : Nat) (hq : q ≤ 3) (d : Int) : frontR r q (r4 r.1 r.2.1 r.2.2.1 r.2.2.2 q) = repsAfter r 2 d (q : Nat) := by
  obtain ⟨a, b, c, e⟩ := r
  have h : q = 0 ∨ q = 1 ∨ q = 2 ∨ q = 3 := by omega
  rcases h with rfl | rfl | rfl | rfl <;> rfl
end Go.Proofs.Ytkckjjchfccdjaa
