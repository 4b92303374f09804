/- The model's Code: a symbol. -/
import Derived.Test.YtkckjjchfccdjaaMg1
import Derived.Test.YtkckjjchfccdjaaMdRept2
import Derived.Test.YtkckjjchfccdjaaMdLit
namespace Go.Proofs.Ytkckjjchfccdjaa
set_option maxRecDepth 100000
open Go.RowKit

def rGood (r : R4) : Prop := (1 ≤ r.1 ∧ 1 ≤ r.2.1 ∧ 1 ≤ r.2.2.1 ∧ 1 ≤ r.2.2.2) ∧ (r.1 ≤ 4294967296 ∧ r.2.1 ≤ 4294967296 ∧ r.2.2.1 ≤ 4294967296 ∧ r.2.2.2 ≤ 4294967296)
theorem rGood.front {r : R4} (h : rGood r) {n : Nat} {d : Int} (h1 : 1 ≤ d) (h2 : d ≤ 4294967296) : rGood (frontR r n d) := by
  obtain ⟨⟨a1, a2, a3, a4⟩, b1, b2, b3, b4⟩ := h
  unfold frontR
  split
  · exact ⟨⟨h1, a2, a3, a4⟩, h2, b2, b3, b4⟩
  · exact ⟨⟨h1, a1, a3, a4⟩, h2, b1, b3, b4⟩
  · exact ⟨⟨h1, a1, a2, a4⟩, h2, b1, b2, b4⟩
  · exact ⟨⟨h1, a1, a2, a3⟩, h2, b1, b2, b3⟩
theorem rGood.at_ {r : R4} (h : rGood r) (n : Nat) : 1 ≤ r4 r.1 r.2.1 r.2.2.1 r.2.2.2 n ∧ r4 r.1 r.2.1 r.2.2.1 r.2.2.2 n ≤ 4294967296 := by
  obtain ⟨⟨a1, a2, a3, a4⟩, b1, b2, b3, b4⟩ := h
  unfold r4
  split
  · exact ⟨a1, b1⟩
  · exact ⟨a2, b2⟩
  · exact ⟨a3, b3⟩
  · exact ⟨a4, b4⟩
theorem Bytes.only {X : List Nat} {w w' : World} {A : Option Addr} {l : List UInt8} (h : Bytes w A l) (ho : Only X w w') (hX : ∀ a, A = some a → a.block ∉ X) : Bytes w' A l :=
  h.keep ho.size fun p hp hlt => by
    have hb : p.block ∉ X := by
      cases A with
      | none => simp at hp
      | some a => simp at hp; rw [← hp]; exact hX a rfl
    unfold World.cell?
    rw [ho.block _ hlt hb]
theorem litState_lt {st : Nat} (h : st < 12) : litState st < 12 := by unfold litState; split; omega; split <;> omega
namespace Md
/-- A symbol's bits: the symbol, the state and the repeats behind it. -/
def sym (io : Io) (lc lp pb st : Nat) (r : R4) (H : List UInt8) (k : Int) (b : UInt8) (l d q : Int) (x : io.S) : Sy × Nat × R4 × io.S :=
  let p := H.length % 2 ^ pb
  let a := io.bitAt (16 * st + p) (k != 0) x
  if a.1 = false then
    let z := lit io lc lp st r.1 H (b.toNat : Nat) a.2
    (⟨0, z.1, 0, 0, 0⟩, litState st, r, z.2)
  else
    let c := io.bitAt (192 + st) (k != 1) a.2
    if c.1 = false then
      let n := len io 432 p l c.2
      let z := dist io n.1 d n.2
      (⟨1, 0, n.1, z.1, 0⟩, (if st < 7 then 7 else 10), frontR r 3 (z.1 : Nat), z.2)
    else
      let z := rept io st p l q c.2
      (⟨2, 0, z.1.2, 0, z.1.1⟩, (if st < 7 then (if z.1.2 = 1 then 9 else 8) else 11), frontR r z.1.1 (r4 r.1 r.2.1 r.2.2.1 r.2.2.2 z.1.1), z.2)
end Md
theorem pos_num {n pb : Nat} (hpb : pb ≤ 4) : bits .and .i64 (n : Int) (wrap64 (wrap64 (2 ^ pb) - 1)) = ((n % 2 ^ pb : Nat) : Int) := by
  have h1 : 1 ≤ 2 ^ pb := Nat.one_le_two_pow
  have h2 : 2 ^ pb ≤ 2 ^ 4 := Nat.pow_le_pow_right (by omega) hpb
  have e1 : wrap64 ((2 : Int) ^ pb) = ((2 ^ pb : Nat) : Int) := by rw [show (2 : Int) ^ pb = ((2 ^ pb : Nat) : Int) by simp]; exact wrap64_of (by omega) (by omega)
  have e2 : wrap64 (((2 ^ pb : Nat) : Int) - 1) = ((2 ^ pb - 1 : Nat) : Int) := by rw [wrap64_of (by omega) (by omega)]; omega
  rw [e1, e2, i64_and_low _ _ (by omega)]
  omega
set_option maxRecDepth 100000 in
set_option maxHeartbeats 4000000 in
theorem sym_is (io : Io) {C L lc lp pb st : Nat} {r : R4} {x : io.S} {X : List Nat} {w : World} (hM : MS io w C L lc lp pb st r x X) (hlc : lc ≤ 4) (hlp : lp ≤ 4) (hpb : pb ≤ 4) (hst : st < 12) (hr : rGood r) {k : Nat} (A : Option Addr) (H : List UInt8) (c : Nat) (hB : Bytes w A H) (hc : H.length ≤ c) (hH : H.length ≤ 1000000000) (hHX : ∀ a, A = some a → a.block ∉ C :: L :: X)
    (kk : Int) (b : UInt8) (l d q : Int) (hrl : (io.bitAt (16 * st + H.length % 2 ^ pb) (kk != 0) x).1 = true → 0 ≤ l ∧ l ≤ 300)
    (hrd : (io.bitAt (16 * st + H.length % 2 ^ pb) (kk != 0) x).1 = true → (io.bitAt (192 + st) (kk != 1) (io.bitAt (16 * st + H.length % 2 ^ pb) (kk != 0) x).2).1 = false → 0 ≤ d ∧ d ≤ 4294967295) {s' : Sy} {st' : Nat} {r' : R4} {Z : io.S} (hR : Md.sym io lc lp pb st r H kk b l d q x = (s', st', r', Z)) (hok : io.ok x.2 (k + 54)) :
    Calls Try.prog 70 #[PF C, io.v, .slice A H.length c, SyV kk b l d q] w (MAnd (s'.k ≤ 2 ∧ s'.r ≤ 3 ∧ s'.l ≤ 273 ∧ (s'.d : Int) ≤ 4294967296 ∧ st' < 12 ∧ rGood r' ∧ io.ok Z.2 k) (MDone s'.val io C L lc lp pb st' r' Z X w)) := by
  obtain ⟨Q, hQ⟩ : ∃ Q, (s'.k ≤ 2 ∧ s'.r ≤ 3 ∧ s'.l ≤ 273 ∧ (s'.d : Int) ≤ 4294967296 ∧ st' < 12 ∧ rGood r' ∧ io.ok Z.2 k) = Q := ⟨_, rfl⟩
  rw [hQ]
  have HQ := Lib.hid hQ
  have HGR := Lib.hid hr
  have HHX := Lib.hid hHX
  clear hQ
  obtain ⟨p, hp'⟩ : ∃ p, H.length % 2 ^ pb = p := ⟨_, rfl⟩
  have hp16 : p < 16 := by
    have h1 : 1 ≤ 2 ^ pb := Nat.one_le_two_pow
    have h2 : 2 ^ pb ≤ 2 ^ 4 := Nat.pow_le_pow_right (by omega) hpb
    have := Nat.mod_lt H.length h1
    omega
  have hpos := pos_num (n := H.length) hpb
  unfold Md.sym at hR
  simp only [hp'] at hR hpos hrl hrd
  have hpi : (p : Int) < 16 := by omega
  have hsti : (st : Int) < 12 := by omega
  have hci : (H.length : Int) ≤ (c : Int) := by omega
  have hHi : (H.length : Int) ≤ 1000000000 := by omega
  have HBY0 := Lib.hid hB
  have HOUT : Hid (∀ i ∈ C :: L :: X, i < w.heap.size) := Lib.hid (by
    intro i hi
    simp only [List.mem_cons] at hi
    rcases hi with rfl | rfl | hi
    · exact hM.mod.clt
    · exact hM.mod.llt
    · exact io.lt hM.io i hi)
  obtain ⟨bs, hbs⟩ : ∃ bs, w.heap.size + 1 = bs := ⟨_, rfl⟩
  have HBS := Lib.hid hbs
  clear hbs
  obtain ⟨W1, hW1⟩ : ∃ W1, (w.alloc (.cells #[.int .i64 kk, .int .u8 (b.toNat : Nat), .int .i64 l, .int .i64 d, .int .i64 q] 99)).alloc (.cells #[.int .i64 0, .int .u8 0, .int .i64 0, .int .i64 0, .int .i64 0] 99) = W1 := ⟨_, rfl⟩
  have hb1 : Below w.heap.size w W1 := by rw [← hW1]; exact ((Below.refl _ _).alloc (Nat.le_refl _) _).alloc (by simp) _
  have hM1 := hM.below hb1
  obtain ⟨hsy, hrs⟩ := sy_boxes hW1
  rw [HBS.out] at hrs
  have HW1 := Lib.hid hW1
  have HM1 := Lib.hid hM1
  have HSY := Lib.hid hsy
  have HRS := Lib.hid hrs
  have HB1 := Lib.hid hb1
  have ne1 : C ≠ bs := fun e => by have := HOUT.out C (by simp); have := HBS.out; omega
  have ne2 : bs ≠ C := fun e => ne1 e.symm
  have hbo : Hid (w.heap.size ∉ C :: L :: X ∧ bs ∉ C :: L :: X) := Lib.hid ⟨fun h => by have := HOUT.out _ h; omega, fun h => by have := HOUT.out _ h; have := HBS.out; omega⟩
  clear hW1 hM1 hsy hrs hb1 hM
  have HBY := Lib.hid (HBY0.out.below HB1.out)
  obtain ⟨⟨B, y⟩, hy⟩ : ∃ z, io.bitAt (16 * st + p) (kk != 0) x = z := ⟨_, rfl⟩
  obtain ⟨h1, ok1⟩ := bit_is io (HM1.out.drewN 1) hy (at_ := 16 * st) (j := p) (len := 16) (cp := 16) (b := C) (off := 8 + st * 16) rfl (k := k + 53) hok (Md.seg_head (by omega) (by omega)) hp16 (by omega) (by omega)
  simp only [hy] at hR hrl hrd
  have HRL := Lib.hid hrl
  have HRD := Lib.hid hrd
  clear hrl hrd
  have H1 := Lib.hid h1
  have HOK1 := Lib.hid ok1
  have HR := Lib.hid hR
  have HON0 : Hid (Only (C :: L :: X) W1 W1 ∧ ∀ i ∈ X, i ∈ X ∨ W1.heap.size ≤ i) := Lib.hid ⟨Only.refl _ _, fun i hi => .inl hi⟩
  have c2 := HM1.out.mod.cells.2.2.1
  have hdr := And.intro HM1.out.mod.cells.2.2.2.1 HSY.out.1
  have HP := Lib.hid hp'
  clear hy hR h1 ok1 hok hp' hB hr hHX
  go_enter Try.func70, Try.ntmps70
  go_upto_region 1 with fail
  rw [HW1.out, HBS.out]
  go_upto_region 5 with fail
  refine wp_region_held_drew (S := fun w2 => w2.cell? ⟨C, 3, none⟩ = some (.int .i64 (st : Nat)) ∧ w2.cell? ⟨w.heap.size, 0, none⟩ = some (.int .i64 kk)) (by kernel_rfl) hdr (fun hS => ?_)
  refine tk 0 (v := ?vca1) ?yca1 hS ?_
  case yca1 =>
    intro w hSw
    go_simp; all_goals (with_reducible rfl)
  simp only [Act.put, List.setIfInBounds_toArray, List.set_cons_zero, List.set_cons_succ]
  refine tk 1 (v := ?vca2) ?yca2 hS ?_
  case yca2 =>
    intro w hSw
    go_simp; all_goals (with_reducible rfl)
  simp only [Act.put, List.setIfInBounds_toArray, List.set_cons_zero, List.set_cons_succ]
  refine tk 2 (v := ?vca3) ?yca3 hS ?_
  case yca3 =>
    intro w hSw
    go_simp; all_goals (with_reducible rfl)
  simp only [Act.put, List.setIfInBounds_toArray, List.set_cons_zero, List.set_cons_succ]
  refine tk 3 (v := ?vca4) ?yca4 hS ?_
  case yca4 =>
    intro w hSw
    go_simp; all_goals (with_reducible rfl)
  simp only [Act.put, List.setIfInBounds_toArray, List.set_cons_zero, List.set_cons_succ]
  refine tk 4 (v := ?vca5) ?yca5 hS ?_
  case yca5 =>
    intro w hSw
    go_simp; all_goals (with_reducible rfl)
  simp only [Act.put, List.setIfInBounds_toArray, List.set_cons_zero, List.set_cons_succ]
  refine tk 5 (v := ?vca6) ?yca6 hS ?_
  case yca6 =>
    intro w hSw
    obtain ⟨q1, q2⟩ := hSw
    go_simp; all_goals (with_reducible rfl)
  simp only [Act.put, List.setIfInBounds_toArray, List.set_cons_zero, List.set_cons_succ]
  refine tk 6 (v := ?vca7) ?yca7 hS ?_
  case yca7 =>
    intro w hSw
    go_simp; all_goals (with_reducible rfl)
  simp only [Act.put, List.setIfInBounds_toArray, List.set_cons_zero, List.set_cons_succ]
  refine tk 7 (v := ?vca8) ?yca8 hS ?_
  case yca8 =>
    intro w hSw
    go_simp; all_goals (with_reducible rfl)
  simp only [Act.put, List.setIfInBounds_toArray, List.set_cons_zero, List.set_cons_succ]
  refine tk 8 (v := ?vca9) ?yca9 hS ?_
  case yca9 =>
    intro w hSw
    go_simp; all_goals (with_reducible rfl)
  simp only [Act.put, List.setIfInBounds_toArray, List.set_cons_zero, List.set_cons_succ]
  refine tk 9 (v := ?vca10) ?yca10 hS ?_
  case yca10 =>
    intro w hSw
    go_simp; all_goals (with_reducible rfl)
  simp only [Act.put, List.setIfInBounds_toArray, List.set_cons_zero, List.set_cons_succ]
  refine tk 10 (v := ?vca11) ?yca11 hS ?_
  case yca11 =>
    intro w hSw
    go_simp; all_goals (with_reducible rfl)
  simp only [Act.put, List.setIfInBounds_toArray, List.set_cons_zero, List.set_cons_succ]
  refine tk 11 (v := ?vca12) ?yca12 hS ?_
  case yca12 =>
    intro w hSw
    go_simp; all_goals (with_reducible rfl)
  simp only [Act.put, List.setIfInBounds_toArray, List.set_cons_zero, List.set_cons_succ]
  refine tk 12 (v := ?vca13) ?yca13 hS ?_
  case yca13 =>
    intro w hSw
    obtain ⟨q1, q2⟩ := hSw
    go_simp; all_goals (with_reducible rfl)
  simp only [Act.put, List.setIfInBounds_toArray, List.set_cons_zero, List.set_cons_succ]
  refine tk 13 (v := ?vca14) ?yca14 hS ?_
  case yca14 =>
    intro w hSw
    go_simp; all_goals (with_reducible rfl)
  simp only [Act.put, List.setIfInBounds_toArray, List.set_cons_zero, List.set_cons_succ]
  refine wpAnyH_ready (rs := [14]) (by kernel_rfl) (by simp) ?_
  refine (AllReadyH.cons (o := { dst := some 46, op := Op.call { callee := Callee.value (Operand.func 88), args := #[Operand.tmp 32, Operand.tmp 41, Operand.tmp 42, Operand.tmp 45], argTypes := #[163, 92, 3, 4] }, type := 3, pos := "model.go:65", after := #[{ on := 0, ground := Ground.data }, { on := 9, ground := Ground.data }, { on := 10, ground := Ground.data }, { on := 13, ground := Ground.data }], guard := none }) rfl (fun K hK => ?_) AllReadyH.nil)
  go_simp
  refine H1.out.mono ?_
  rintro e x1 ⟨rfl, hwx1⟩
  obtain ⟨X1, hMx1, honx1, hXx1⟩ := went_trans_undrew HON0.out hwx1
  have HMx1 := Lib.hid hMx1
  have HOx1 := Lib.hid (And.intro honx1 hXx1)
  have gx1 := And.intro hMx1.mod.cells.2.2.2.1 (cell_only honx1 hbo.out.1 HSY.out.1)
  clear hMx1 honx1 hXx1 hwx1
  go_wp2_with fail
  refine hK.out _ _ gx1 (fun _ => ?_)
  clear hK K
  refine tk 15 (v := ?vca15) ?yca15 gx1 ?_
  case yca15 =>
    intro w hSw
    go_simp; all_goals (with_reducible rfl)
  simp only [Act.put, List.setIfInBounds_toArray, List.set_cons_zero, List.set_cons_succ]
  refine tk 16 (v := ?vca16) ?yca16 gx1 ?_
  case yca16 =>
    intro w hSw
    go_simp; all_goals (with_reducible rfl)
  simp only [Act.put, List.setIfInBounds_toArray, List.set_cons_zero, List.set_cons_succ]
  refine wpAnyH_done (by kernel_rfl) ?_ _

  clear hS hdr H1 c2 gx1
  cases B with
  | false =>
    have hR := HR.out
    simp only [if_true] at hR
    obtain ⟨⟨R, Z2⟩, hz⟩ : ∃ q, Md.lit io lc lp st r.1 H (b.toNat : Nat) y = q := ⟨_, rfl⟩
    simp only [hz] at hR
    have HE : Hid (s' = ⟨0, R, 0, 0, 0⟩ ∧ st' = litState st ∧ r' = r ∧ Z = Z2) := Lib.hid (by
      injection hR with e1 e2
      injection e2 with e2 e3
      injection e3 with e3 e4
      exact ⟨e1.symm, e2.symm, e3.symm, e4.symm⟩)
    have HC := Lib.hid (lit_is io HMx1.out hlc hlp hst HGR.out.1.1 A H c (HBY.out.only HOx1.out.1 HHX.out) hc hH kk b l d q hz (k := k) (io.le HOK1.out (by omega)))
    clear hR hz
    rw [show bitI false = 0 from rfl]
    have y0 := cell_only HOx1.out.1 hbo.out.1 HSY.out.1
    have y1 := cell_only HOx1.out.1 hbo.out.1 HSY.out.2.1
    have y2 := cell_only HOx1.out.1 hbo.out.1 HSY.out.2.2.1
    have y3 := cell_only HOx1.out.1 hbo.out.1 HSY.out.2.2.2.1
    have y4 := cell_only HOx1.out.1 hbo.out.1 HSY.out.2.2.2.2
    go_wp2_with fail
    refine HC.out.mono ?_
    rintro e x9 ⟨⟨rfl, hw9⟩, okz⟩
    have hwl := Went.trans HOx1.out.1 HOx1.out.2 hw9
    clear hw9 y0 y1 y2 y3 y4
    obtain ⟨X9, hM9, hon9, hX9⟩ := hwl
    have HM9 := Lib.hid hM9
    have HON := Lib.hid hon9
    have HNX : Hid (∀ i ∈ X9, i ∈ X ∨ W1.heap.size ≤ i) := Lib.hid hX9
    have hrs := (HON.out.block bs (by have := (Array.getElem?_eq_some_iff.1 HRS.out).1; exact this) hbo.out.2).trans HRS.out
    have z0 : x9.cell? ⟨bs, 0, none⟩ = some (.int .i64 0) := by rw [cell_of_row x9 _ _ _ _ _ hrs]; rfl
    have z1 : x9.cell? ⟨bs, 1, none⟩ = some (.int .u8 0) := by rw [cell_of_row x9 _ _ _ _ _ hrs]; rfl
    have z2 : x9.cell? ⟨bs, 2, none⟩ = some (.int .i64 0) := by rw [cell_of_row x9 _ _ _ _ _ hrs]; rfl
    have z3 : x9.cell? ⟨bs, 3, none⟩ = some (.int .i64 0) := by rw [cell_of_row x9 _ _ _ _ _ hrs]; rfl
    have z4 : x9.cell? ⟨bs, 4, none⟩ = some (.int .i64 0) := by rw [cell_of_row x9 _ _ _ _ _ hrs]; rfl
    have zf : ∀ i, x9.frozen? ⟨bs, i, none⟩ = false := fun i => frozen_of_row _ _ _ _ _ hrs
    have zf0 := zf 0
    have zf1 := zf 1
    have zf2 := zf 2
    have zf3 := zf 3
    have zf4 := zf 4
    clear hrs zf
    clear hM9 hon9 hX9
    go_wp2_with fail
    refine bodyPost_ret (v := SyV 0 R 0 0 0) (by simp [results, Try.results70, go_sem, z0, z1, z2, z3, z4]) rfl ⟨⟨?_, X9, ?_, ?_, ?_⟩, ?_⟩
    · rw [HE.out.1]; rfl
    · have hbX : bs ∉ C :: L :: X9 := fun h => by
        simp only [List.mem_cons] at h
        rcases h with h | h | h
        · exact ne2 h
        · have := HOUT.out L (by simp); have := HBS.out; omega
        · rcases HNX.out _ h with h | h
          · have := HOUT.out bs (by simp [h]); have := HBS.out; omega
          · have := (Array.getElem?_eq_some_iff.1 HRS.out).1; omega
      rw [HE.out.2.1, HE.out.2.2.1, HE.out.2.2.2]
      exact ((((HM9.out.setFar hbX _).setFar hbX _).setFar hbX _).setFar hbX _).setFar hbX _
    · have h0 : Only (C :: L :: X) w x9 := (Only.of_below HB1.out).trans HON.out (fun i hi => .inl hi)
      have hn : bs ∈ C :: L :: X ∨ w.heap.size ≤ bs := .inr (by have := HBS.out; omega)
      exact ((((h0.setCell (p := ⟨bs, 0, none⟩) hn _).setCell (p := ⟨bs, 1, none⟩) hn _).setCell (p := ⟨bs, 2, none⟩) hn _).setCell (p := ⟨bs, 3, none⟩) hn _).setCell (p := ⟨bs, 4, none⟩) hn _
    · intro i hi
      rcases HNX.out i hi with h | h
      · exact .inl h
      · exact .inr (Nat.le_trans HB1.out.size h)
    · rw [← HQ.out, HE.out.1, HE.out.2.1, HE.out.2.2.1, HE.out.2.2.2]
      exact ⟨by simp, by simp, by simp, by simp, litState_lt hst, HGR.out, okz⟩
  | true =>
    have hR := HR.out
    simp only [Bool.true_eq_false, if_false] at hR
    obtain ⟨⟨B2, y2⟩, hy⟩ : ∃ z, io.bitAt (192 + st) (kk != 1) y = z := ⟨_, rfl⟩
    obtain ⟨h1, ok1⟩ := bit_is io (HMx1.out.drewN 1) hy (at_ := 192) (j := st) (len := 12) (cp := 12) (b := C) (off := 200) rfl (k := k + 52) HOK1.out (Md.seg_head rfl (by omega)) hst (by omega) (by omega)
    have hrd := HRD.out (by simp)
    simp only [hy] at hR hrd
    have HRD2 := Lib.hid hrd
    clear hrd
    have H2 := Lib.hid h1
    have HOK2 := Lib.hid ok1
    have HR2 := Lib.hid hR
    have hdr := And.intro HMx1.out.mod.cells.2.2.2.1 (cell_only HOx1.out.1 hbo.out.1 HSY.out.1)
    clear hy hR h1 ok1
    rw [show bitI true = 1 from rfl]
    go_upto_region 7 with fail
    refine wp_region_held_drew (S := fun w2 => w2.cell? ⟨C, 3, none⟩ = some (.int .i64 (st : Nat)) ∧ w2.cell? ⟨w.heap.size, 0, none⟩ = some (.int .i64 kk)) (by kernel_rfl) hdr (fun hS => ?_)
    refine tk 0 (v := ?vcb17) ?ycb17 hS ?_
    case ycb17 =>
      intro w hSw
      go_simp; all_goals (with_reducible rfl)
    simp only [Act.put, List.setIfInBounds_toArray, List.set_cons_zero, List.set_cons_succ]
    refine tk 1 (v := ?vcb18) ?ycb18 hS ?_
    case ycb18 =>
      intro w hSw
      go_simp; all_goals (with_reducible rfl)
    simp only [Act.put, List.setIfInBounds_toArray, List.set_cons_zero, List.set_cons_succ]
    refine tk 2 (v := ?vcb19) ?ycb19 hS ?_
    case ycb19 =>
      intro w hSw
      go_simp; all_goals (with_reducible rfl)
    simp only [Act.put, List.setIfInBounds_toArray, List.set_cons_zero, List.set_cons_succ]
    refine tk 3 (v := ?vcb20) ?ycb20 hS ?_
    case ycb20 =>
      intro w hSw
      go_simp; all_goals (with_reducible rfl)
    simp only [Act.put, List.setIfInBounds_toArray, List.set_cons_zero, List.set_cons_succ]
    refine tk 4 (v := ?vcb21) ?ycb21 hS ?_
    case ycb21 =>
      intro w hSw
      go_simp; all_goals (with_reducible rfl)
    simp only [Act.put, List.setIfInBounds_toArray, List.set_cons_zero, List.set_cons_succ]
    refine tk 5 (v := ?vcb22) ?ycb22 hS ?_
    case ycb22 =>
      intro w hSw
      go_simp; all_goals (with_reducible rfl)
    simp only [Act.put, List.setIfInBounds_toArray, List.set_cons_zero, List.set_cons_succ]
    refine tk 6 (v := ?vcb23) ?ycb23 hS ?_
    case ycb23 =>
      intro w hSw
      go_simp; all_goals (with_reducible rfl)
    simp only [Act.put, List.setIfInBounds_toArray, List.set_cons_zero, List.set_cons_succ]
    refine tk 7 (v := ?vcb24) ?ycb24 hS ?_
    case ycb24 =>
      intro w hSw
      go_simp; all_goals (with_reducible rfl)
    simp only [Act.put, List.setIfInBounds_toArray, List.set_cons_zero, List.set_cons_succ]
    refine tk 8 (v := ?vcb25) ?ycb25 hS ?_
    case ycb25 =>
      intro w hSw
      obtain ⟨q1, q2⟩ := hSw
      go_simp; all_goals (with_reducible rfl)
    simp only [Act.put, List.setIfInBounds_toArray, List.set_cons_zero, List.set_cons_succ]
    refine tk 9 (v := ?vcb26) ?ycb26 hS ?_
    case ycb26 =>
      intro w hSw
      go_simp; all_goals (with_reducible rfl)
    simp only [Act.put, List.setIfInBounds_toArray, List.set_cons_zero, List.set_cons_succ]
    refine tk 10 (v := ?vcb27) ?ycb27 hS ?_
    case ycb27 =>
      intro w hSw
      obtain ⟨q1, q2⟩ := hSw
      go_simp; all_goals (with_reducible rfl)
    simp only [Act.put, List.setIfInBounds_toArray, List.set_cons_zero, List.set_cons_succ]
    refine tk 11 (v := ?vcb28) ?ycb28 hS ?_
    case ycb28 =>
      intro w hSw
      go_simp; all_goals (with_reducible rfl)
    simp only [Act.put, List.setIfInBounds_toArray, List.set_cons_zero, List.set_cons_succ]
    refine wpAnyH_ready (rs := [12]) (by kernel_rfl) (by simp) ?_
    refine (AllReadyH.cons (o := { dst := some 66, op := Op.call { callee := Callee.value (Operand.func 88), args := #[Operand.tmp 54, Operand.tmp 58, Operand.tmp 62, Operand.tmp 65], argTypes := #[163, 92, 3, 4] }, type := 3, pos := "model.go:67", after := #[{ on := 0, ground := Ground.data }, { on := 4, ground := Ground.data }, { on := 8, ground := Ground.data }, { on := 11, ground := Ground.data }], guard := none }) rfl (fun K hK => ?_) AllReadyH.nil)
    go_simp
    refine H2.out.mono ?_
    rintro e x2 ⟨rfl, hwx2⟩
    obtain ⟨X2, hMx2, honx2, hXx2⟩ := went_trans_undrew HOx1.out hwx2
    have HMx2 := Lib.hid hMx2
    have HOx2 := Lib.hid (And.intro honx2 hXx2)
    have gx2 := And.intro hMx2.mod.cells.2.2.2.1 (cell_only honx2 hbo.out.1 HSY.out.1)
    clear hMx2 honx2 hXx2 hwx2
    go_wp2_with fail
    refine hK.out _ _ gx2 (fun _ => ?_)
    clear hK K
    refine tk 13 (v := ?vcb29) ?ycb29 gx2 ?_
    case ycb29 =>
      intro w hSw
      go_simp; all_goals (with_reducible rfl)
    simp only [Act.put, List.setIfInBounds_toArray, List.set_cons_zero, List.set_cons_succ]
    refine tk 14 (v := ?vcb30) ?ycb30 gx2 ?_
    case ycb30 =>
      intro w hSw
      go_simp; all_goals (with_reducible rfl)
    simp only [Act.put, List.setIfInBounds_toArray, List.set_cons_zero, List.set_cons_succ]
    refine wpAnyH_done (by kernel_rfl) ?_ _

    clear hS hdr H2 gx2
    cases B2 with
    | false =>
      have hR := HR2.out
      simp only [if_true] at hR
      obtain ⟨⟨n, y3⟩, hn⟩ : ∃ q, Md.len io 432 p l y2 = q := ⟨_, rfl⟩
      simp only [hn] at hR
      obtain ⟨⟨dd, Z2⟩, hz⟩ : ∃ q, Md.dist io n d y3 = q := ⟨_, rfl⟩
      simp only [hz] at hR
      have HE : Hid (s' = ⟨1, 0, n, dd, 0⟩ ∧ st' = (if st < 7 then 7 else 10) ∧ r' = frontR r 3 (dd : Nat) ∧ Z = Z2) := Lib.hid (by
        injection hR with e1 e2
        injection e2 with e2 e3
        injection e3 with e3 e4
        exact ⟨e1.symm, e2.symm, e3.symm, e4.symm⟩)
      have HC := Lib.hid (match_is io HMx2.out hp16 kk b l d q (HRL.out (by simp)).1 (HRL.out (by simp)).2 (HRD2.out (by simp)).1 (HRD2.out (by simp)).2 hn hz (k := k) HOK2.out)
      clear hR hz hn
      rw [show bitI false = 0 from rfl]
      have y0 := cell_only HOx2.out.1 hbo.out.1 HSY.out.1
      have y1 := cell_only HOx2.out.1 hbo.out.1 HSY.out.2.1
      have y2 := cell_only HOx2.out.1 hbo.out.1 HSY.out.2.2.1
      have y3 := cell_only HOx2.out.1 hbo.out.1 HSY.out.2.2.2.1
      have y4 := cell_only HOx2.out.1 hbo.out.1 HSY.out.2.2.2.2
      go_wp2_with fail
      refine HC.out.mono ?_
      rintro e x9 ⟨⟨rfl, hw9⟩, hn2, hn273, hd1, hd2, okz⟩
      have hwl := Went.trans HOx2.out.1 HOx2.out.2 hw9
      have HQ9 := Lib.hid (And.intro hn273 (And.intro hd1 hd2))
      clear hw9 y0 y1 y2 y3 y4 hn2 hn273 hd1 hd2
      obtain ⟨X9, hM9, hon9, hX9⟩ := hwl
      have HM9 := Lib.hid hM9
      have HON := Lib.hid hon9
      have HNX : Hid (∀ i ∈ X9, i ∈ X ∨ W1.heap.size ≤ i) := Lib.hid hX9
      have hrs := (HON.out.block bs (by have := (Array.getElem?_eq_some_iff.1 HRS.out).1; exact this) hbo.out.2).trans HRS.out
      have z0 : x9.cell? ⟨bs, 0, none⟩ = some (.int .i64 0) := by rw [cell_of_row x9 _ _ _ _ _ hrs]; rfl
      have z1 : x9.cell? ⟨bs, 1, none⟩ = some (.int .u8 0) := by rw [cell_of_row x9 _ _ _ _ _ hrs]; rfl
      have z2 : x9.cell? ⟨bs, 2, none⟩ = some (.int .i64 0) := by rw [cell_of_row x9 _ _ _ _ _ hrs]; rfl
      have z3 : x9.cell? ⟨bs, 3, none⟩ = some (.int .i64 0) := by rw [cell_of_row x9 _ _ _ _ _ hrs]; rfl
      have z4 : x9.cell? ⟨bs, 4, none⟩ = some (.int .i64 0) := by rw [cell_of_row x9 _ _ _ _ _ hrs]; rfl
      have zf : ∀ i, x9.frozen? ⟨bs, i, none⟩ = false := fun i => frozen_of_row _ _ _ _ _ hrs
      have zf0 := zf 0
      have zf1 := zf 1
      have zf2 := zf 2
      have zf3 := zf 3
      have zf4 := zf 4
      clear hrs zf
      clear hM9 hon9 hX9
      go_wp2_with fail
      refine bodyPost_ret (v := SyV 1 0 (n : Nat) (dd : Nat) 0) (by simp [results, Try.results70, go_sem, z0, z1, z2, z3, z4]) rfl ⟨⟨?_, X9, ?_, ?_, ?_⟩, ?_⟩
      · rw [HE.out.1]; rfl
      · have hbX : bs ∉ C :: L :: X9 := fun h => by
          simp only [List.mem_cons] at h
          rcases h with h | h | h
          · exact ne2 h
          · have := HOUT.out L (by simp); have := HBS.out; omega
          · rcases HNX.out _ h with h | h
            · have := HOUT.out bs (by simp [h]); have := HBS.out; omega
            · have := (Array.getElem?_eq_some_iff.1 HRS.out).1; omega
        rw [HE.out.2.1, HE.out.2.2.1, HE.out.2.2.2]
        exact ((((HM9.out.setFar hbX _).setFar hbX _).setFar hbX _).setFar hbX _).setFar hbX _
      · have h0 : Only (C :: L :: X) w x9 := (Only.of_below HB1.out).trans HON.out (fun i hi => .inl hi)
        have hn : bs ∈ C :: L :: X ∨ w.heap.size ≤ bs := .inr (by have := HBS.out; omega)
        exact ((((h0.setCell (p := ⟨bs, 0, none⟩) hn _).setCell (p := ⟨bs, 1, none⟩) hn _).setCell (p := ⟨bs, 2, none⟩) hn _).setCell (p := ⟨bs, 3, none⟩) hn _).setCell (p := ⟨bs, 4, none⟩) hn _
      · intro i hi
        rcases HNX.out i hi with h | h
        · exact .inl h
        · exact .inr (Nat.le_trans HB1.out.size h)
      · rw [← HQ.out, HE.out.1, HE.out.2.1, HE.out.2.2.1, HE.out.2.2.2]
        have := HQ9.out; exact ⟨by simp, by simp, by show n ≤ 273; omega, by show ((dd : Nat) : Int) ≤ 4294967296; omega, by split <;> omega, HGR.out.front (by omega) (by omega), okz⟩
    | true =>
      have hR := HR2.out
      simp only [Bool.true_eq_false, if_false] at hR
      obtain ⟨⟨⟨wh, n⟩, Z2⟩, hz⟩ : ∃ q', Md.rept io st p l q y2 = q' := ⟨_, rfl⟩
      simp only [hz] at hR
      have HE : Hid (s' = ⟨2, 0, n, 0, wh⟩ ∧ st' = (if st < 7 then (if n = 1 then 9 else 8) else 11) ∧ r' = frontR r wh (r4 r.1 r.2.1 r.2.2.1 r.2.2.2 wh) ∧ Z = Z2) := Lib.hid (by
        injection hR with e1 e2
        injection e2 with e2 e3
        injection e3 with e3 e4
        exact ⟨e1.symm, e2.symm, e3.symm, e4.symm⟩)
      have HC := Lib.hid (rept_is io HMx2.out hst hp16 kk b l d q (HRL.out (by simp)).1 (HRL.out (by simp)).2 hz (k := k) (io.le HOK2.out (by omega)))
      clear hR hz
      rw [show bitI true = 1 from rfl]
      have y0 := cell_only HOx2.out.1 hbo.out.1 HSY.out.1
      have y1 := cell_only HOx2.out.1 hbo.out.1 HSY.out.2.1
      have y2 := cell_only HOx2.out.1 hbo.out.1 HSY.out.2.2.1
      have y3 := cell_only HOx2.out.1 hbo.out.1 HSY.out.2.2.2.1
      have y4 := cell_only HOx2.out.1 hbo.out.1 HSY.out.2.2.2.2
      go_wp2_with fail
      refine HC.out.mono ?_
      rintro e x9 ⟨⟨rfl, hw9⟩, hwh, hn1, hn273, hnw, okz⟩
      have hwl := Went.trans HOx2.out.1 HOx2.out.2 hw9
      have HQ9 := Lib.hid (And.intro hwh hn273)
      clear hw9 y0 y1 y2 y3 y4 hwh hn1 hn273 hnw
      obtain ⟨X9, hM9, hon9, hX9⟩ := hwl
      have HM9 := Lib.hid hM9
      have HON := Lib.hid hon9
      have HNX : Hid (∀ i ∈ X9, i ∈ X ∨ W1.heap.size ≤ i) := Lib.hid hX9
      have hrs := (HON.out.block bs (by have := (Array.getElem?_eq_some_iff.1 HRS.out).1; exact this) hbo.out.2).trans HRS.out
      have z0 : x9.cell? ⟨bs, 0, none⟩ = some (.int .i64 0) := by rw [cell_of_row x9 _ _ _ _ _ hrs]; rfl
      have z1 : x9.cell? ⟨bs, 1, none⟩ = some (.int .u8 0) := by rw [cell_of_row x9 _ _ _ _ _ hrs]; rfl
      have z2 : x9.cell? ⟨bs, 2, none⟩ = some (.int .i64 0) := by rw [cell_of_row x9 _ _ _ _ _ hrs]; rfl
      have z3 : x9.cell? ⟨bs, 3, none⟩ = some (.int .i64 0) := by rw [cell_of_row x9 _ _ _ _ _ hrs]; rfl
      have z4 : x9.cell? ⟨bs, 4, none⟩ = some (.int .i64 0) := by rw [cell_of_row x9 _ _ _ _ _ hrs]; rfl
      have zf : ∀ i, x9.frozen? ⟨bs, i, none⟩ = false := fun i => frozen_of_row _ _ _ _ _ hrs
      have zf0 := zf 0
      have zf1 := zf 1
      have zf2 := zf 2
      have zf3 := zf 3
      have zf4 := zf 4
      clear hrs zf
      clear hM9 hon9 hX9
      go_wp2_with fail
      refine bodyPost_ret (v := SyV 2 0 (n : Nat) 0 (wh : Nat)) (by simp [results, Try.results70, go_sem, z0, z1, z2, z3, z4]) rfl ⟨⟨?_, X9, ?_, ?_, ?_⟩, ?_⟩
      · rw [HE.out.1]; rfl
      · have hbX : bs ∉ C :: L :: X9 := fun h => by
          simp only [List.mem_cons] at h
          rcases h with h | h | h
          · exact ne2 h
          · have := HOUT.out L (by simp); have := HBS.out; omega
          · rcases HNX.out _ h with h | h
            · have := HOUT.out bs (by simp [h]); have := HBS.out; omega
            · have := (Array.getElem?_eq_some_iff.1 HRS.out).1; omega
        rw [HE.out.2.1, HE.out.2.2.1, HE.out.2.2.2]
        exact ((((HM9.out.setFar hbX _).setFar hbX _).setFar hbX _).setFar hbX _).setFar hbX _
      · have h0 : Only (C :: L :: X) w x9 := (Only.of_below HB1.out).trans HON.out (fun i hi => .inl hi)
        have hn : bs ∈ C :: L :: X ∨ w.heap.size ≤ bs := .inr (by have := HBS.out; omega)
        exact ((((h0.setCell (p := ⟨bs, 0, none⟩) hn _).setCell (p := ⟨bs, 1, none⟩) hn _).setCell (p := ⟨bs, 2, none⟩) hn _).setCell (p := ⟨bs, 3, none⟩) hn _).setCell (p := ⟨bs, 4, none⟩) hn _
      · intro i hi
        rcases HNX.out i hi with h | h
        · exact .inl h
        · exact .inr (Nat.le_trans HB1.out.size h)
      · rw [← HQ.out, HE.out.1, HE.out.2.1, HE.out.2.2.1, HE.out.2.2.2]
        have := HQ9.out; exact ⟨by simp, by show wh ≤ 3; omega, by show n ≤ 273; omega, by simp, by split; split <;> omega; omega, HGR.out.front (HGR.out.at_ wh).1 (HGR.out.at_ wh).2, okz⟩
end Go.Proofs.Ytkckjjchfccdjaa
