/- The reference's parser: the next symbol. -/
import Derived.Test.YtklkboplkobhgaaGreatFdRefB
import Derived.Test.YtklkboplkobhgaaGreatPaAll
import Derived.Test.YtklkboplkobhgaaGreatCoAll
namespace Go.Proofs.YtklkboplkobhgaaGreat
set_option maxRecDepth 100000
open Go.RowKit

def lastFrom (g : Nat → Nat) : Nat → Nat × Nat → Nat × Nat
  | 0, z => z
  | n + 1, z => lastFrom g n (if z.1 ≤ g n then (g n, n) else z)
theorem lastFrom_four (g : Nat → Nat) : lastFrom g 4 (0, 0) = firstTo g 4 := by
  simp only [lastFrom, firstTo]
  grind
/-- The symbol, by what the reference finds. -/
def oneOf (D : List UInt8) (p : Nat) (rep m : Nat × Nat) (first : Nat) : Sy :=
  if 1 < rep.1 ∧ m.1 ≤ rep.1 + 1 then ⟨2, 0, rep.1, 0, rep.2⟩
  else if 2 < m.1 ∨ (m.1 = 2 ∧ m.2 < 129) then ⟨1, 0, m.1, m.2, 0⟩
  else if 0 < first then ⟨2, 0, 1, 0, 0⟩
  else ⟨0, D.getD p 0, 0, 0, 0⟩
theorem oneOf_next {D : List UInt8} {dict nice : Int} {tt p : Nat} {r : R4} (hp : p < D.length) :
    oneOf D p (bestRep D dict (p : Int) ((tt : Int) - (p : Int)) r.1 r.2.1 r.2.2.1 r.2.2.2) (bestOf D dict nice p ((tt : Int) - (p : Int))) (backOf D dict (p : Int) r.1 ((tt : Int) - (p : Int))) = nextS D dict nice tt p r := by
  have hb : bestV D dict nice (p : Int) ((tt : Int) - (p : Int)) = bestOf D dict nice p ((tt : Int) - (p : Int)) := by
    unfold bestV
    rw [if_pos ⟨by omega, by omega⟩, Int.toNat_natCast]
  have h2 : (bestOf D dict nice p ((tt : Int) - (p : Int))).1 = 0 ∨ 2 ≤ (bestOf D dict nice p ((tt : Int) - (p : Int))).1 := by
    unfold bestOf
    split
    · exact .inl rfl
    · right; omega
  unfold nextS chooseS oneOf
  rw [hb]
  generalize bestOf D dict nice p ((tt : Int) - (p : Int)) = m at *
  generalize bestRep D dict (p : Int) ((tt : Int) - (p : Int)) r.1 r.2.1 r.2.2.1 r.2.2.2 = rp
  generalize backOf D dict (p : Int) r.1 ((tt : Int) - (p : Int)) = f
  simp only
  by_cases c1 : 2 ≤ rp.1 ∧ m.1 ≤ rp.1 + 1
  · rw [if_pos c1, if_pos (by omega)]
  · rw [if_neg c1, if_neg (by omega)]
    by_cases c2 : 3 ≤ m.1 ∨ (0 < m.1 ∧ m.2 ≤ 128)
    · rw [if_pos c2, if_pos (by omega)]
    · rw [if_neg c2, if_neg (by omega)]
      by_cases c3 : 1 ≤ f
      · rw [if_pos c3, if_pos (by omega)]
      · rw [if_neg c3, if_neg (by omega)]
/-- Repeats in memory. -/
def RepAt (w : World) (g : Nat) (r : R4) : Prop := g < w.heap.size ∧ w.cell? ⟨g, 0, none⟩ = some (.int .i64 r.1) ∧ w.cell? ⟨g, 1, none⟩ = some (.int .i64 r.2.1) ∧ w.cell? ⟨g, 2, none⟩ = some (.int .i64 r.2.2.1) ∧ w.cell? ⟨g, 3, none⟩ = some (.int .i64 r.2.2.2)
theorem RepAt.below {w w' : World} {g : Nat} {r : R4} (h : RepAt w g r) (hb : Below w.heap.size w w') : RepAt w' g r :=
  ⟨Nat.lt_of_lt_of_le h.1 hb.size, (hb.cell (p := ⟨g, 0, none⟩) h.1).trans h.2.1, (hb.cell (p := ⟨g, 1, none⟩) h.1).trans h.2.2.1, (hb.cell (p := ⟨g, 2, none⟩) h.1).trans h.2.2.2.1, (hb.cell (p := ⟨g, 3, none⟩) h.1).trans h.2.2.2.2⟩
theorem RepAt.at_ {w : World} {g : Nat} {r : R4} (h : RepAt w g r) {i : Nat} (hi : i < 4) : w.cell? ⟨g, i, none⟩ = some (.int .i64 (r4 r.1 r.2.1 r.2.2.1 r.2.2.2 i)) := by
  rcases (by omega : i = 0 ∨ i = 1 ∨ i = 2 ∨ i = 3) with rfl | rfl | rfl | rfl
  · exact h.2.1
  · exact h.2.2.1
  · exact h.2.2.2.1
  · exact h.2.2.2.2
set_option maxRecDepth 100000 in
set_option maxHeartbeats 4000000 in
theorem one_any (A : Option Addr) (D : List UInt8) (c : Nat) (dict nice : Int) (p tt : Nat) (r : R4) (gR cap : Nat) (w : World) (hB : Bytes w A D) (hc : D.length ≤ c) (hl : D.length ≤ 100000) (hp : p < tt) (ht : tt ≤ D.length) (hr : RepAt w gR r) (hcap : 4 ≤ cap) :
    Calls Tryz.prog 40 #[.slice A D.length c, .int .i64 (p : Nat), .int .i64 (tt : Nat), .int .i64 dict, .int .i64 nice, .slice (some ⟨gR, 0, none⟩) 4 cap] w (ChooseDone (nextS D dict nice tt p r) w) := by
  rw [← oneOf_next (D := D) (dict := dict) (nice := nice) (tt := tt) (p := p) (r := r) (by omega)]
  obtain ⟨X, hX⟩ : ∃ X : Int, (tt : Int) - (p : Int) = X := ⟨_, rfl⟩
  rw [hX]
  obtain ⟨W, hW⟩ : ∃ W, w.alloc (.cells #[.int .i64 0, .int .u8 0, .int .i64 0, .int .i64 0, .int .i64 0] 96) = W := ⟨_, rfl⟩
  have hrow : W.heap[w.heap.size]? = some (.cells #[.int .i64 0, .int .u8 0, .int .i64 0, .int .i64 0, .int .i64 0] 96 (0, 0)) := by rw [← hW]; exact heap_alloc_new _ _
  have hbW : Below w.heap.size w W := by rw [← hW]; exact (Below.refl _ _).alloc (Nat.le_refl _) _
  have hrW := hr.below hbW
  have HAT := Lib.hid (fun (i : Nat) (hi : i < 4) => hrW.at_ hi)
  obtain ⟨g, hg⟩ : ∃ g : Nat → Nat, (fun i => backOf D dict (p : Int) (r4 r.1 r.2.1 r.2.2.1 r.2.2.2 i) X) = g := ⟨_, rfl⟩
  have HBK : Hid (∀ (i : Nat) (m : Nat) (q : Int), q = r4 r.1 r.2.1 r.2.2.1 r.2.2.2 i → Calls Tryz.prog 58 #[.slice A D.length c, .int .i64 dict, .int .i64 (p : Nat), .int .i64 q, .int .i64 X] (W.drewN m) fun e w' => e = .returned (.int .i64 (g i : Nat)) ∧ ∃ n, w' = (W.drewN m).drewN n) := Lib.hid (fun i m q hq => by
    rw [hq, ← hg]
    exact rback_any A D c dict (p : Nat) _ X (W.drewN m) ((hB.below hbW).drewN m) hc hl)
  have HBE := Lib.hid (fun (m : Nat) => rbest_any A D c dict nice p X (W.drewN m) ((hB.below hbW).drewN m) hc hl (by omega))
  have hbr : bestRep D dict (p : Int) X r.1 r.2.1 r.2.2.1 r.2.2.2 = lastFrom g 4 (0, 0) := by
    rw [lastFrom_four, ← hg]; rfl
  rw [hbr]
  have hg0 : backOf D dict (p : Int) r.1 X = g 0 := by rw [← hg]; rfl
  rw [hg0]
  obtain ⟨⟨M1, M2⟩, hM⟩ : ∃ z, bestOf D dict nice p X = z := ⟨_, rfl⟩
  rw [hM]
  simp only [hM] at HBE
  obtain ⟨Z, hZ⟩ : ∃ Z, lastFrom g 4 (0, 0) = Z := ⟨_, rfl⟩
  rw [hZ]
  have hgs : ∀ i, g i ≤ 273 := fun i => by rw [← hg]; exact backOf_le _ _ _ _ _
  have hMs : (M1 : Int) ≤ 100000 ∧ (M2 : Int) ≤ 100000 := by
    have h := bestTo_is (fun k => eqLen D p (p - k) (lim D p (min nice X))) (min (p : Int) dict).toNat
    unfold bestOf at hM
    split at hM
    · injection hM with h1 h2; omega
    · rw [hM] at h
      rcases h.at_ with ⟨h1, h2⟩ | ⟨h1, h2, h3, h4⟩
      · omega
      · have h5 := eqLen_le D p (p - M2) (lim D p (min nice X))
        have h6 : lim D p (min nice X) = (min (min nice X) ((D.length : Int) - (p : Int))).toNat := rfl
        have h7 : eqLen D p (p - M2) (lim D p (min nice X)) = M1 := h3
        constructor <;> omega
  obtain ⟨hM1i, hM2i⟩ := hMs
  have HG := Lib.hid hgs
  have HZ := Lib.hid hZ
  have HW := Lib.hid hW
  have HBW := Lib.hid hbW
  have HROW := Lib.hid hrow
  have hcapi : (4 : Int) ≤ (cap : Int) := by omega
  obtain ⟨b, off, rfl, hblt, hat⟩ := hB.addr (by omega)
  have hcp : W.cell? ⟨b, off + p, none⟩ = some (.int .u8 ((D.getD p 0).toNat : Nat)) := by
    have h := (hbW.cell (p := ⟨b, off + p, none⟩) hblt).trans (hat p (by omega))
    rw [getD_of (by omega)]; exact h
  obtain ⟨ch, hch⟩ : ∃ ch, D.getD p 0 = ch := ⟨_, rfl⟩
  have hone : oneOf D p Z (M1, M2) (g 0) = (if 1 < Z.1 ∧ M1 ≤ Z.1 + 1 then ⟨2, 0, Z.1, 0, Z.2⟩ else if 2 < M1 ∨ (M1 = 2 ∧ M2 < 129) then ⟨1, 0, M1, M2, 0⟩ else if 0 < g 0 then ⟨2, 0, 1, 0, 0⟩ else ⟨0, ch, 0, 0, 0⟩) := by unfold oneOf; rw [hch]
  rw [hch] at hcp
  obtain ⟨S, hS⟩ : ∃ S, oneOf D p Z (M1, M2) (g 0) = S := ⟨_, rfl⟩
  rw [hS]
  have HS := Lib.hid (hS.symm.trans hone)
  have hpi : (p : Int) < (D.length : Int) := by omega
  have hpd : (p : Int) ≤ 100000 := by omega
  have hpc : (p : Int) < (c : Int) := by omega
  have htd : (tt : Int) ≤ 100000 := by omega
  have HPC := Lib.hid hcp
  have hXi : IntKind.i64.wrap ((tt : Int) - (p : Int)) = X := by rw [← hX]; exact IntWalk.i64_in _ (by omega)
  have hX2 : (tt : Int) - (p : Int) = X := hX
  clear hW hbW hrW hr hB hg hM hZ hgs hrow hc hl hp ht hcap hat hbr hg0 hone hS hch hX hcp hblt
  go_enter Tryz.func40, Tryz.ntmps40
  go_upto_region 1 with fail
  rw [HW.out]
  go_wp2_with fail
  go_loopw [14, 15, 16] (fun s14 s15 s16 wr => ∃ (n : Nat) (z1 z2 : Nat) (q : Int) (m : Nat), s14 = .int .i64 (z2 : Nat) ∧ s15 = .int .i64 (z1 : Nat) ∧ s16 = .int .i64 q ∧ Hid (q = (n : Int) - 1) ∧ n ≤ 4 ∧ z1 ≤ 273 ∧ z2 ≤ 3 ∧ Hid (Z = lastFrom g n (z1, z2)) ∧ wr = W.drewN m) (fun _ _ s16 _ => (intOf s16 + 1).toNat)
  case atStart => exact ⟨4, 0, 0, 3, 0, rfl, rfl, rfl, Lib.hid rfl, Nat.le_refl _, by decide, by decide, Lib.hid HZ.out.symm, rfl⟩
  case round =>
    obtain ⟨n, z1, z2, q, m, rfl, rfl, rfl, HQ, hn, hz1, hz2, HL, rfl⟩ := hrel
    have hz1i : (z1 : Int) ≤ 273 := by omega
    have hz2i : (z2 : Int) ≤ 3 := by omega
    cases n with
    | zero =>
      have hq : q = -1 := by rw [HQ.out]; rfl
      subst hq
      have HZ2 : Hid (Z = (z1, z2)) := Lib.hid HL.out
      have c0 := HAT.out 0 (by decide)
      have HB0 := Lib.hid (fun m' => HBK.out 0 m' _ rfl)
      obtain ⟨r0, hr0⟩ : ∃ r0, r4 r.1 r.2.1 r.2.2.1 r.2.2.2 0 = r0 := ⟨_, rfl⟩
      rw [hr0] at c0 HB0
      obtain ⟨f0, hf0⟩ : ∃ f0, g 0 = f0 := ⟨_, rfl⟩
      rw [hf0] at HB0
      have hf0i : (f0 : Int) ≤ 273 := by rw [← hf0]; have := HG.out 0; omega
      have HS2 : Hid (S = (if 1 < z1 ∧ M1 ≤ z1 + 1 then ⟨2, 0, z1, 0, z2⟩ else if 2 < M1 ∨ (M1 = 2 ∧ M2 < 129) then ⟨1, 0, M1, M2, 0⟩ else if 0 < f0 then ⟨2, 0, 1, 0, 0⟩ else ⟨0, ch, 0, 0, 0⟩)) := Lib.hid (by rw [HS.out, HZ2.out, hf0])
      have k0 : W.cell? ⟨w.heap.size, 0, none⟩ = some (.int .i64 0) := by rw [cell_of_row W _ _ _ _ _ HROW.out]; rfl
      have k1 : W.cell? ⟨w.heap.size, 1, none⟩ = some (.int .u8 0) := by rw [cell_of_row W _ _ _ _ _ HROW.out]; rfl
      have k2 : W.cell? ⟨w.heap.size, 2, none⟩ = some (.int .i64 0) := by rw [cell_of_row W _ _ _ _ _ HROW.out]; rfl
      have k3 : W.cell? ⟨w.heap.size, 3, none⟩ = some (.int .i64 0) := by rw [cell_of_row W _ _ _ _ _ HROW.out]; rfl
      have k4 : W.cell? ⟨w.heap.size, 4, none⟩ = some (.int .i64 0) := by rw [cell_of_row W _ _ _ _ _ HROW.out]; rfl
      have fz0 := frozen_of_row W _ 0 _ _ HROW.out
      have fz1 := frozen_of_row W _ 1 _ _ HROW.out
      have fz2 := frozen_of_row W _ 2 _ _ HROW.out
      have fz3 := frozen_of_row W _ 3 _ _ HROW.out
      have fz4 := frozen_of_row W _ 4 _ _ HROW.out
      have hcp := HPC.out
      have HFIN : Hid (∀ (m5 : Nat) (a0 a1 a2 a3 a4 : Value), Below w.heap.size w ((((((W.drewN m5).setCell ⟨w.heap.size, 0, none⟩ a0).setCell ⟨w.heap.size, 1, none⟩ a1).setCell ⟨w.heap.size, 2, none⟩ a2).setCell ⟨w.heap.size, 3, none⟩ a3).setCell ⟨w.heap.size, 4, none⟩ a4)) := Lib.hid (fun m5 a0 a1 a2 a3 a4 => by
        have h := below_drewN HBW.out m5
        exact ((((h.setCell (p := ⟨w.heap.size, 0, none⟩) (Nat.le_refl _) _).setCell (p := ⟨w.heap.size, 1, none⟩) (Nat.le_refl _) _).setCell (p := ⟨w.heap.size, 2, none⟩) (Nat.le_refl _) _).setCell (p := ⟨w.heap.size, 3, none⟩) (Nat.le_refl _) _).setCell (p := ⟨w.heap.size, 4, none⟩) (Nat.le_refl _) _)
      clear hr0 hf0 hn hz1 hz2
      have hcases : (1 < z1 ∧ M1 ≤ z1 + 1) ∨ (¬ (1 < z1 ∧ M1 ≤ z1 + 1) ∧ (2 < M1 ∨ (M1 = 2 ∧ M2 < 129))) ∨ (¬ (1 < z1 ∧ M1 ≤ z1 + 1) ∧ ¬ (2 < M1 ∨ (M1 = 2 ∧ M2 < 129)) ∧ 0 < f0) ∨ (¬ (1 < z1 ∧ M1 ≤ z1 + 1) ∧ ¬ (2 < M1 ∨ (M1 = 2 ∧ M2 < 129)) ∧ ¬ 0 < f0) := by omega
      go_wp2_with fail
      refine (HB0.out m).mono ?_
      rintro e wa ⟨rfl, ma, rfl⟩
      go_wp2_with fail
      refine (HBE.out _).mono ?_
      rintro e wb ⟨rfl, mb, rfl⟩
      obtain ⟨m5, hm5⟩ : ∃ m5, m + ma + mb = m5 := ⟨_, rfl⟩
      simp only [World.drewN_drewN, hm5]
      clear hcases
      have hA : ((1 : Int) < (z1 : Int) ∧ (M1 : Int) ≤ (z1 : Int) + 1) ∨ ¬ (1 : Int) < (z1 : Int) ∨ ((1 : Int) < (z1 : Int) ∧ ¬ (M1 : Int) ≤ (z1 : Int) + 1) := by omega
      have hB : (2 : Int) < (M1 : Int) ∨ (¬ (2 : Int) < (M1 : Int) ∧ (M1 : Int) = 2 ∧ (M2 : Int) < 129) ∨ (¬ (2 : Int) < (M1 : Int) ∧ (M1 : Int) = 2 ∧ ¬ (M2 : Int) < 129) ∨ (¬ (2 : Int) < (M1 : Int) ∧ (M1 : Int) ≠ 2) := by omega
      have hC : (0 : Int) < (f0 : Int) ∨ ¬ (0 : Int) < (f0 : Int) := by omega
      rcases hA with ⟨a1, a2⟩ | a1 | ⟨a1, a2⟩
      · clear hB hC
        have hSv : Hid (S = ⟨2, 0, z1, 0, z2⟩) := Lib.hid (by rw [HS2.out]; exact if_pos (by omega))
        clear HS2
        go_wp2_with fail
        refine bodyPost_ret (v := SyV 2 0 (z1 : Nat) 0 (z2 : Nat)) (by simp [results, Tryz.results40, go_sem, k0, k1, k2, k3, k4]) rfl ⟨by rw [hSv.out]; rfl, HFIN.out m5 _ _ _ _ _⟩
      · rcases hB with b1 | ⟨b1, b2, b3⟩ | ⟨b1, b2, b3⟩ | ⟨b1, b2⟩
        · clear hC
          have hSv : Hid (S = ⟨1, 0, M1, M2, 0⟩) := Lib.hid (by rw [HS2.out]; rw [if_neg (by omega)]; exact if_pos (by omega))
          clear HS2
          go_wp2_with fail
          refine bodyPost_ret (v := SyV 1 0 (M1 : Nat) (M2 : Nat) 0) (by simp [results, Tryz.results40, go_sem, k0, k1, k2, k3, k4]) rfl ⟨by rw [hSv.out]; rfl, HFIN.out m5 _ _ _ _ _⟩
        · have e2 : ((M1 : Int) == 2) = true := by rw [beq_iff_eq]; exact b2
          have HB2 := Lib.hid b2
          clear hC b2
          have hSv : Hid (S = ⟨1, 0, M1, M2, 0⟩) := Lib.hid (by rw [HS2.out]; have b2 := HB2.out; rw [if_neg (by omega)]; exact if_pos (by omega))
          clear HS2
          go_wp2_with fail
          refine bodyPost_ret (v := SyV 1 0 (M1 : Nat) (M2 : Nat) 0) (by simp [results, Tryz.results40, go_sem, k0, k1, k2, k3, k4]) rfl ⟨by rw [hSv.out]; rfl, HFIN.out m5 _ _ _ _ _⟩
        · have e2 : ((M1 : Int) == 2) = true := by rw [beq_iff_eq]; exact b2
          have HB2 := Lib.hid b2
          clear b2
          rcases hC with c1 | c1
          · skip
            have hSv : Hid (S = ⟨2, 0, 1, 0, 0⟩) := Lib.hid (by rw [HS2.out]; have b2 := HB2.out; rw [if_neg (by omega), if_neg (by omega)]; exact if_pos (by omega))
            clear HS2
            go_wp2_with fail
            refine bodyPost_ret (v := SyV 2 0 1 0 0) (by simp [results, Tryz.results40, go_sem, k0, k1, k2, k3, k4]) rfl ⟨by rw [hSv.out]; rfl, HFIN.out m5 _ _ _ _ _⟩
          · skip
            have hSv : Hid (S = ⟨0, ch, 0, 0, 0⟩) := Lib.hid (by rw [HS2.out]; have b2 := HB2.out; rw [if_neg (by omega), if_neg (by omega)]; exact if_neg (by omega))
            clear HS2
            go_wp2_with fail
            refine bodyPost_ret (v := SyV 0 ch 0 0 0) (by simp [results, Tryz.results40, go_sem, k0, k1, k2, k3, k4]) rfl ⟨by rw [hSv.out]; rfl, HFIN.out m5 _ _ _ _ _⟩
        · have e2 : ((M1 : Int) == 2) = false := by rw [beq_eq_false_iff_ne]; exact b2
          have HB2 := Lib.hid b2
          clear b2
          rcases hC with c1 | c1
          · skip
            have hSv : Hid (S = ⟨2, 0, 1, 0, 0⟩) := Lib.hid (by rw [HS2.out]; have b2 := HB2.out; rw [if_neg (by omega), if_neg (by omega)]; exact if_pos (by omega))
            clear HS2
            go_wp2_with fail
            refine bodyPost_ret (v := SyV 2 0 1 0 0) (by simp [results, Tryz.results40, go_sem, k0, k1, k2, k3, k4]) rfl ⟨by rw [hSv.out]; rfl, HFIN.out m5 _ _ _ _ _⟩
          · skip
            have hSv : Hid (S = ⟨0, ch, 0, 0, 0⟩) := Lib.hid (by rw [HS2.out]; have b2 := HB2.out; rw [if_neg (by omega), if_neg (by omega)]; exact if_neg (by omega))
            clear HS2
            go_wp2_with fail
            refine bodyPost_ret (v := SyV 0 ch 0 0 0) (by simp [results, Tryz.results40, go_sem, k0, k1, k2, k3, k4]) rfl ⟨by rw [hSv.out]; rfl, HFIN.out m5 _ _ _ _ _⟩
      · have b1 : (2 : Int) < (M1 : Int) := by omega
        clear hB hC
        have hSv : Hid (S = ⟨1, 0, M1, M2, 0⟩) := Lib.hid (by rw [HS2.out]; rw [if_neg (by omega)]; exact if_pos (by omega))
        clear HS2
        go_wp2_with fail
        refine bodyPost_ret (v := SyV 1 0 (M1 : Nat) (M2 : Nat) 0) (by simp [results, Tryz.results40, go_sem, k0, k1, k2, k3, k4]) rfl ⟨by rw [hSv.out]; rfl, HFIN.out m5 _ _ _ _ _⟩
    | succ n =>
      obtain ⟨i, rfl⟩ : ∃ i : Nat, q = (i : Int) := ⟨n, by rw [HQ.out]; omega⟩
      have hin : i = n := by have := HQ.out; omega
      subst hin
      have hi3 : (i : Int) ≤ 3 := by omega
      have ci := HAT.out i (by omega)
      obtain ⟨ri, hri⟩ : ∃ ri, r4 r.1 r.2.1 r.2.2.1 r.2.2.2 i = ri := ⟨_, rfl⟩
      have HBI := Lib.hid (fun m' => HBK.out i m' ri hri.symm)
      rw [hri] at ci
      obtain ⟨gi, hgi⟩ : ∃ gi, g i = gi := ⟨_, rfl⟩
      rw [hgi] at HBI
      have hg3 : gi ≤ 273 := by rw [← hgi]; exact HG.out i
      have hgii : (gi : Int) ≤ 273 := by omega
      have HLS : Hid (Z = lastFrom g i (if z1 ≤ gi then (gi, i) else (z1, z2))) := Lib.hid (by rw [HL.out]; show lastFrom g i (if z1 ≤ g i then (g i, i) else (z1, z2)) = _; rw [hgi])
      have HNN := Lib.hid (And.intro hn (And.intro hz1 (And.intro hz2 hg3)))
      clear hri hgi hn hz1 hz2 hg3
      go_wp2_with fail
      refine (HBI.out m).mono ?_
      rintro e wa ⟨rfl, ma, rfl⟩
      rw [World.drewN_drewN]
      by_cases hge : z1 ≤ gi
      · have hgei : (z1 : Int) ≤ (gi : Int) := by omega
        have HL2 : Hid (Z = lastFrom g i (gi, i)) := Lib.hid (by rw [HLS.out, if_pos hge])
        clear hge
        go_wp2_with fail
        go_roundw
        case rel => exact ⟨i, gi, i, (i : Int) - 1, _, rfl, rfl, rfl, Lib.hid rfl, by have := HNN.out; omega, HNN.out.2.2.2, by have := HNN.out; omega, HL2, rfl⟩
        case measure => simp [intOf]
      · have hgei : ¬ (z1 : Int) ≤ (gi : Int) := by omega
        have HL2 : Hid (Z = lastFrom g i (z1, z2)) := Lib.hid (by rw [HLS.out, if_neg hge])
        clear hge
        go_wp2_with fail
        go_roundw
        case rel => exact ⟨i, z1, z2, (i : Int) - 1, _, rfl, rfl, rfl, Lib.hid rfl, by have := HNN.out; omega, HNN.out.2.1, HNN.out.2.2.1, HL2, rfl⟩
        case measure => simp [intOf]
end Go.Proofs.YtklkboplkobhgaaGreat
