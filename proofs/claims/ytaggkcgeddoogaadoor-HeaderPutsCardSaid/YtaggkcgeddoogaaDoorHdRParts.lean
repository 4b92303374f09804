/- The reference: a head's parts. -/
import Derived.Test.YtaggkcgeddoogaaDoorHdROne
import Derived.Deep.DeepCutAuto
namespace Go.Proofs.YtaggkcgeddoogaaDoor
open Go.RowKit

/-- A block of one head of the reference. -/
def Rb4 (r : Nat) (w : World) (a b c d : Value) : Prop := w.heap[r]? = some (.cells #[a, b, c, d] 32 (0, 0))
theorem Rb4.cells {r : Nat} {w : World} {a b c d : Value} (h : Rb4 r w a b c d) : w.cell? ⟨r, 0, none⟩ = some a ∧ w.cell? ⟨r, 1, none⟩ = some b ∧ w.cell? ⟨r, 2, none⟩ = some c ∧ w.cell? ⟨r, 3, none⟩ = some d := by
  refine ⟨?_, ?_, ?_, ?_⟩ <;> (rw [cell_of_row w r _ _ _ _ h]; rfl)
theorem Rb4.frozen {r : Nat} {w : World} {a b c d : Value} (h : Rb4 r w a b c d) (i : Nat) : w.frozen? ⟨r, i, none⟩ = false := by
  simp [World.frozen?, show w.heap[r]? = _ from h]
theorem Rb4.set0 {r : Nat} {w : World} {a b c d : Value} (h : Rb4 r w a b c d) (u : Value) : Rb4 r (w.setCell ⟨r, 0, none⟩ u) u b c d := heap_set (L := [a, b, c, d]) h 0 u
theorem Rb4.set1 {r : Nat} {w : World} {a b c d : Value} (h : Rb4 r w a b c d) (u : Value) : Rb4 r (w.setCell ⟨r, 1, none⟩ u) a u c d := heap_set (L := [a, b, c, d]) h 1 u
theorem Rb4.set2 {r : Nat} {w : World} {a b c d : Value} (h : Rb4 r w a b c d) (u : Value) : Rb4 r (w.setCell ⟨r, 2, none⟩ u) a b u d := heap_set (L := [a, b, c, d]) h 2 u
theorem Rb4.set3 {r : Nat} {w : World} {a b c d : Value} (h : Rb4 r w a b c d) (u : Value) : Rb4 r (w.setCell ⟨r, 3, none⟩ u) a b c u := heap_set (L := [a, b, c, d]) h 3 u
theorem Rb4.ret {r : Nat} {w : World} {a b c d : Value} (h : Rb4 r w a b c d) (p q s t : Value) : (w.setCell ⟨r, 0, none⟩ p).cell? ⟨r, 0, none⟩ = some p ∧ ((w.setCell ⟨r, 0, none⟩ p).setCell ⟨r, 1, none⟩ q).cell? ⟨r, 1, none⟩ = some q ∧
    (((w.setCell ⟨r, 0, none⟩ p).setCell ⟨r, 1, none⟩ q).setCell ⟨r, 2, none⟩ s).cell? ⟨r, 2, none⟩ = some s ∧ ((((w.setCell ⟨r, 0, none⟩ p).setCell ⟨r, 1, none⟩ q).setCell ⟨r, 2, none⟩ s).setCell ⟨r, 3, none⟩ t).cell? ⟨r, 3, none⟩ = some t :=
  ⟨(h.set0 p).cells.1, ((h.set0 p).set1 q).cells.2.1, (((h.set0 p).set1 q).set2 s).cells.2.2.1, ((((h.set0 p).set1 q).set2 s).set3 t).cells.2.2.2⟩
theorem Rb4.keep {bo r : Nat} {w w' : World} {a b c d : Value} (h : Rb4 r w a b c d) (hk : KeepBut bo w w') (hr : r ≠ bo) : Rb4 r w' a b c d := (hk.2 r hr).trans h
theorem Rb4.other {r g i : Nat} {w : World} {a b c d u : Value} (h : Rb4 r w a b c d) (hg : g ≠ r) : Rb4 r (w.setCell ⟨g, i, none⟩ u) a b c d := (heap_setCell_other _ _ _ _ (fun e => hg e.symm)).trans h
def RPartsDone (w : World) (R : HeadM × Nat) (e : Ending) (w' : World) : Prop :=
  ∃ A c, e = .returned (.tuple #[headV R.1 A c, .int .i64 (R.2 : Nat)]) ∧ Below w.heap.size w w' ∧ Fils w' A R.1.l ∧ R.1.l.length ≤ c ∧ c ≤ 9223372036854775807 ∧ (∀ a, A = some a → w.heap.size ≤ a.block)
theorem RPartsDone.err {w w' : World} {R : HeadM × Nat} {er : Nat} (h : R = (zeroH, er)) (hb : Below w.heap.size w w') : RPartsDone w R (.returned (.tuple #[.agg #[.int .i64 0, .int .i64 0, .slice none 0 0, .int .u32 0], .int .i64 (er : Nat)])) w' := by
  rw [h]; exact ⟨none, 0, rfl, hb, .inl rfl, by simp [zeroH], by omega, by simp⟩
theorem RPartsDone.yes {w w' : World} {R : HeadM × Nat} {h : HeadM} {A : Option Addr} {n c : Nat} (hR : R = (h, 0)) (hn : n = h.l.length) (hb : Below w.heap.size w w') (hf : Fils w' A h.l) (hc : h.l.length ≤ c) (hm : c ≤ 9223372036854775807) (hA : ∀ a, A = some a → w.heap.size ≤ a.block) :
    RPartsDone w R (.returned (.tuple #[.agg #[.int .i64 h.p, .int .i64 h.q, .slice A n c, .int .u32 (h.d : Nat)], .int .i64 0])) w' := by
  rw [hR, hn]; exact ⟨A, c, rfl, hb, hf, hc, hm, hA⟩
/-- What stands behind either number. -/
def RPI (w : World) (p q : Int) (n k : Nat) (wx : World) : Prop :=
  k ≤ n ∧ Rb4 w.heap.size wx (.int .i64 0) (.int .i64 0) (.slice none 0 0) (.int .u32 0) ∧ Rb4 (w.heap.size + 1) wx (.int .i64 p) (.int .i64 q) (.slice none 0 0) (.int .u32 0) ∧ Below w.heap.size w wx ∧ w.heap.size + 2 ≤ wx.heap.size
theorem partsM_of (s : Nat) (l : List UInt8) : partsM s l = match sizesM s l with
  | none => (zeroH, 4)
  | some (p, q, l2) => if (filsM (s % 4) (s % 4 + 1) 0 l2 []).2.2 ≠ 0 then (zeroH, (filsM (s % 4) (s % 4 + 1) 0 l2 []).2.2)
    else if (filsM (s % 4) (s % 4 + 1) 0 l2 []).2.1.all (· == 0) = false then (zeroH, 5)
    else (⟨p, q, (filsM (s % 4) (s % 4 + 1) 0 l2 []).1.take (s % 4), ((filsM (s % 4) (s % 4 + 1) 0 l2 []).1.getD (s % 4) ⟨0, 0⟩).n⟩, 0) := rfl

set_option maxRecDepth 100000 in
set_option maxHeartbeats 1000000 in
theorem rparts_any (A : Option Addr) (l : List UInt8) (c s : Nat) (w : World) (hB : Bytes w A l) (hc : l.length ≤ c) (hm : c ≤ 9223372036854775807) (hl : l.length ≤ 1000000) (hs : s < 256) :
    Calls Tryd.prog 31 #[.slice A l.length c, .int .i64 (s : Nat)] w (RPartsDone w (partsM s l)) := by
  obtain ⟨w0, hw0⟩ : ∃ w0, (w.alloc (.cells #[.int .i64 0, .int .i64 0, .slice none 0 0, .int .u32 0] 32)).alloc (.cells #[.int .i64 (-1), .int .i64 (-1), .slice none 0 0, .int .u32 0] 32) = w0 := ⟨_, rfl⟩
  have hI0 : Hid (RPI w (-1) (-1) l.length 0 w0) := Lib.hid (by
    have h1 : (w.alloc (.cells #[.int .i64 0, .int .i64 0, .slice none 0 0, .int .u32 0] 32)).heap[w.heap.size]? = _ := heap_alloc_last _ _
    have h2 := heap_alloc_last (w.alloc (.cells #[.int .i64 0, .int .i64 0, .slice none 0 0, .int .u32 0] 32)) (.cells #[.int .i64 (-1), .int .i64 (-1), .slice none 0 0, .int .u32 0] 32)
    rw [World.size_alloc] at h2
    rw [← hw0]
    exact ⟨Nat.zero_le _, (Below.heap_alloc _ _ _ (by simp)).trans h1, h2, ((Below.refl _ _).alloc (by omega) _).alloc (by simp) _, by simp⟩)
  have HW0 := Lib.hid hw0
  clear hw0
  have hlt : w.heap.size + 2 ≤ w0.heap.size := hI0.out.2.2.2.2
  have HB := Lib.hid (fun (wx : World) (h : Below w.heap.size w wx) => hB.below h)
  have HSM := Lib.hid (sizesM_of s l)
  have HPM := Lib.hid (partsM_of s l)
  obtain ⟨b1, hb1⟩ : ∃ b1, (s / 64 % 2 == 1) = b1 := ⟨_, rfl⟩
  obtain ⟨b2, hb2⟩ : ∃ b2, (s / 128 == 1) = b2 := ⟨_, rfl⟩
  rw [hb1, hb2] at HSM
  have HA1 : Hid (((s : Int) / 64 % 2 == 1) = b1) := Lib.hid (by rw [← hb1, Bool.eq_iff_iff]; simp; omega)
  have HA2 : Hid (((s : Int) / 128 == 1) = b2) := Lib.hid (by rw [← hb2, Bool.eq_iff_iff]; simp; omega)
  have hsi : (s : Int) < 256 := by omega
  have hli : (l.length : Int) ≤ 1000000 := by omega
  have hci : (l.length : Int) ≤ (c : Int) := by omega
  have HCC := Lib.hid (And.intro hc (And.intro hm hl))
  clear hb1 hb2 hB hc hm hl
  go_enter Tryd.func31, Tryd.ntmps31
  go_upto_region 2 with fail
  rw [HW0.out]
  clear HW0
  have HRET := Lib.hid (fun (wx : World) (h : Below w.heap.size w wx) (a b c d : Value) => (show Below w.heap.size w ((((wx.setCell ⟨w.heap.size, 0, none⟩ a).setCell ⟨w.heap.size, 1, none⟩ b).setCell ⟨w.heap.size, 2, none⟩ c).setCell ⟨w.heap.size, 3, none⟩ d) from
    Below.setCell (p := ⟨w.heap.size, 3, none⟩) (Below.setCell (p := ⟨w.heap.size, 2, none⟩) (Below.setCell (p := ⟨w.heap.size, 1, none⟩) (Below.setCell (p := ⟨w.heap.size, 0, none⟩) h (Nat.le_refl _) a) (Nat.le_refl _) b) (Nat.le_refl _) c) (Nat.le_refl _) d))
  go_upto_if 24 with fail
  rw [HA1.out]
  go_cut [7] from 20 (fun at7 wx => ∃ p k, optM b1 true l = some (p, l.drop k) ∧ at7 = .int .i64 (k : Nat) ∧ RPI w p (-1) l.length k wx)
  case first =>
    -- <S
    cases b1 with
    | false =>
      go_wp2_with fail
      go_meet
      exact ⟨-1, 0, rfl, rfl, hI0.out⟩
    | true =>
      obtain ⟨_, hz, hh, hb, hsz⟩ := hI0.out
      have HG := Lib.hid (rget_any A l c w0 (HB.out w0 hb) (by omega))
      have HOM := Lib.hid (show optM true true l = (match nextM l with
        | none => none
        | some (n, l') => if (true && n == 0) = true then none else some ((n : Int), l')) from rfl)
      have HZ1 := Lib.hid hz
      have HH1 := Lib.hid hh
      have HB1 := Lib.hid hb
      obtain ⟨z0, z1, z2, z3⟩ := hz.cells
      have zf0 := hz.frozen 0
      have zf1 := hz.frozen 1
      have zf2 := hz.frozen 2
      have zf3 := hz.frozen 3
      cases hn : nextM l with
      | none =>
        rw [hn] at HOM
        have HNO : Hid (partsM s l = (zeroH, 4)) := Lib.hid (by rw [HPM.out, HSM.out, HOM.out])
        rcases next_none hn with h | h
        all_goals
          rw [h] at HG
          clear h hn hz hh hb hsz
          go_wp2_with fail
          refine HG.out.mono ?_
          rintro e w1 ⟨rfl, rfl⟩
          go_wp2_with fail
          obtain ⟨k0, k1, k2, k3⟩ := Rb4.ret HZ1.out (.int .i64 0) (.int .i64 0) (.slice none 0 0) (.int .u32 0)
          exact bodyPost_ret (v := .tuple #[.agg #[.int .i64 0, .int .i64 0, .slice none 0 0, .int .u32 0], .int .i64 4]) (by simp [results, Tryd.results31, go_sem, k0, k1, k2, k3]) rfl (RPartsDone.err HNO.out (HRET.out w0 HB1.out _ _ _ _))
      | some r1 =>
        obtain ⟨n, l'⟩ := r1
        rw [hn] at HOM
        obtain ⟨hnb, hln, k, hk, hk0, hgk, hle⟩ := next_some hn
        rw [hgk] at HG
        have hni : (n : Int) < 9223372036854775808 := by omega
        by_cases hn0 : n = 0
        · subst hn0
          have HNO : Hid (partsM s l = (zeroH, 4)) := Lib.hid (by rw [HPM.out, HSM.out, HOM.out]; rfl)
          clear hn hz hh hb hsz hk hk0 hgk hle hln hnb
          go_wp2_with fail
          refine HG.out.mono ?_
          rintro e w1 ⟨rfl, rfl⟩
          go_wp2_with fail
          obtain ⟨k0, k1, k2, k3⟩ := Rb4.ret HZ1.out (.int .i64 0) (.int .i64 0) (.slice none 0 0) (.int .u32 0)
          exact bodyPost_ret (v := .tuple #[.agg #[.int .i64 0, .int .i64 0, .slice none 0 0, .int .u32 0], .int .i64 4]) (by simp [results, Tryd.results31, go_sem, k0, k1, k2, k3]) rfl (RPartsDone.err HNO.out (HRET.out w0 HB1.out _ _ _ _))
        · have hn1 : ((n : Int) == 0) = false := by simp; omega
          have HF : Hid (optM true true l = some ((n : Int), l.drop k)) := Lib.hid (by rw [HOM.out, ← hle]; simp [hn0])
          have HK := Lib.hid hk
          have yf := HH1.out.frozen 0
          obtain ⟨y0, y1, y2, y3⟩ := HH1.out.cells
          clear hn hz hh hb hk hk0 hgk hle hln hnb hn0
          go_wp2_with fail
          refine HG.out.mono ?_
          rintro e w1 ⟨rfl, rfl⟩
          go_wp2_with fail
          go_meet
          exact ⟨(n : Int), k, HF.out, rfl, HK.out, HZ1.out.other (by omega), HH1.out.set0 _, Below.setCell (p := ⟨w.heap.size + 1, 0, none⟩) HB1.out (by show w.heap.size ≤ w.heap.size + 1; omega) _, by simpa using hsz⟩
    -- S>
  case rest =>
  obtain ⟨p, k0, hp, rfl, hi1⟩ := hcut
  have HSM1 : Hid (sizesM s l = match optM b2 false (l.drop k0) with
    | none => none
    | some (q, l2) => some (p, q, l2)) := Lib.hid (by rw [HSM.out, hp]; rfl)
  have HI1 := Lib.hid hi1
  clear hi1 hI0 HA1 hp
  go_upto_if 44 with fail
  rw [HA2.out]
  go_cut [7] from 20 (fun at7 wx => ∃ q k, optM b2 false (l.drop k0) = some (q, l.drop k) ∧ at7 = .int .i64 (k : Nat) ∧ RPI w p q l.length k wx)
  case first =>
    -- <S
    cases b2 with
    | false =>
      go_wp2_with fail
      go_meet
      exact ⟨-1, k0, rfl, rfl, HI1.out⟩
    | true =>
      obtain ⟨hk0, hz, hh, hb, hsz⟩ := HI1.out
      have hk0i : (k0 : Int) ≤ (l.length : Int) := by omega
      have HG := Lib.hid (show ∀ A2 c2, ((c = k0 ∧ A2 = A) ∨ A2 = (A.map fun x => x.add k0)) → Calls Tryd.prog 45 #[.slice A2 (l.length - k0) c2] wc (Got wc (Vl.get (l.drop k0))) from fun A2 c2 h => by
        have hb2 : Bytes wc A2 (l.drop k0) := by
          rcases h with ⟨h1, _⟩ | h1
          · have : l.drop k0 = [] := List.drop_eq_nil_of_le (by have := HCC.out.1; omega)
            rw [this]; exact .nil
          · rw [h1]; exact (HB.out wc hb).cut k0
        have := rget_any A2 (l.drop k0) c2 wc hb2 (by rw [List.length_drop]; have := HCC.out.2.2; omega)
        rwa [List.length_drop] at this)
      have HOM := Lib.hid (show optM true false (l.drop k0) = (match nextM (l.drop k0) with
        | none => none
        | some (n, l') => if (false && n == 0) = true then none else some ((n : Int), l')) from rfl)
      have HZ1 := Lib.hid hz
      have HH1 := Lib.hid hh
      have HB1 := Lib.hid hb
      obtain ⟨z0, z1, z2, z3⟩ := hz.cells
      have zf0 := hz.frozen 0
      have zf1 := hz.frozen 1
      have zf2 := hz.frozen 2
      have zf3 := hz.frozen 3
      cases hn : nextM (l.drop k0) with
      | none =>
        rw [hn] at HOM
        have HNO : Hid (partsM s l = (zeroH, 4)) := Lib.hid (by rw [HPM.out, HSM1.out, HOM.out])
        rcases next_none hn with h | h
        all_goals
          rw [h] at HG
          clear h hn hz hh hb hsz hci
          by_cases hck : c = k0
          · subst hck
            go_wp2_with fail
            refine (HG.out _ _ (.inl ⟨trivial, rfl⟩)).mono ?_
            rintro e w1 ⟨rfl, rfl⟩
            go_wp2_with fail
            obtain ⟨k0, k1, k2, k3⟩ := Rb4.ret HZ1.out (.int .i64 0) (.int .i64 0) (.slice none 0 0) (.int .u32 0)
            exact bodyPost_ret (v := .tuple #[.agg #[.int .i64 0, .int .i64 0, .slice none 0 0, .int .u32 0], .int .i64 4]) (by simp [results, Tryd.results31, go_sem, k0, k1, k2, k3]) rfl (RPartsDone.err HNO.out (HRET.out wc HB1.out _ _ _ _))
          · go_wp2_with fail
            refine (HG.out _ _ (.inr rfl)).mono ?_
            rintro e w1 ⟨rfl, rfl⟩
            go_wp2_with fail
            obtain ⟨k0, k1, k2, k3⟩ := Rb4.ret HZ1.out (.int .i64 0) (.int .i64 0) (.slice none 0 0) (.int .u32 0)
            exact bodyPost_ret (v := .tuple #[.agg #[.int .i64 0, .int .i64 0, .slice none 0 0, .int .u32 0], .int .i64 4]) (by simp [results, Tryd.results31, go_sem, k0, k1, k2, k3]) rfl (RPartsDone.err HNO.out (HRET.out wc HB1.out _ _ _ _))
      | some r1 =>
        obtain ⟨n, l'⟩ := r1
        rw [hn] at HOM
        obtain ⟨hnb, hln, k, hk, hk1, hgk, hle⟩ := next_some hn
        rw [hgk] at HG
        have hni : (n : Int) < 9223372036854775808 := by omega
        have HF : Hid (optM true false (l.drop k0) = some ((n : Int), l.drop (k0 + k))) := Lib.hid (by rw [HOM.out, hle, List.drop_drop]; rfl)
        have hK : k0 + k ≤ l.length := by rw [List.length_drop] at hk; omega
        have hKi : (k0 : Int) + (k : Int) ≤ (l.length : Int) := by omega
        have HK := Lib.hid hK
        have hck : ¬ c = k0 := by have := HCC.out.1; omega
        have yf := HH1.out.frozen 1
        obtain ⟨y0, y1, y2, y3⟩ := HH1.out.cells
        clear hn hz hh hb hk hgk hle hln hnb hK
        go_wp2_with fail
        refine (HG.out _ _ (.inr rfl)).mono ?_
        rintro e w1 ⟨rfl, rfl⟩
        go_wp2_with fail
        go_meet
        exact ⟨(n : Int), k0 + k, HF.out, by push_cast; rfl, HK.out, HZ1.out.other (by omega), HH1.out.set1 _, Below.setCell (p := ⟨w.heap.size + 1, 1, none⟩) HB1.out (by show w.heap.size ≤ w.heap.size + 1; omega) _, by simpa using hsz⟩
    -- S>
  case rest =>
  obtain ⟨q, k, hq, rfl, hi2⟩ := hcut
  have HYES : Hid (sizesM s l = some (p, q, l.drop k)) := Lib.hid (by rw [HSM1.out, hq])
  have HPM1 : Hid (partsM s l = if (filsM (s % 4) (s % 4 + 1) 0 (l.drop k) []).2.2 ≠ 0 then (zeroH, (filsM (s % 4) (s % 4 + 1) 0 (l.drop k) []).2.2)
    else if (filsM (s % 4) (s % 4 + 1) 0 (l.drop k) []).2.1.all (· == 0) = false then (zeroH, 5)
    else (⟨p, q, (filsM (s % 4) (s % 4 + 1) 0 (l.drop k) []).1.take (s % 4), ((filsM (s % 4) (s % 4 + 1) 0 (l.drop k) []).1.getD (s % 4) ⟨0, 0⟩).n⟩, 0)) := Lib.hid (by rw [HPM.out, HYES.out])
  go_upto_region 16 with fail
  rw [show (s : Int) % 4 = ((s % 4 : Nat) : Int) by omega]
  have hm3 : s % 4 ≤ 3 := by omega
  clear HPM HSM HSM1 HYES hq HI1 hs hsi
  generalize partsM s l = R at *
  generalize s % 4 = m at *
  obtain ⟨hk, hz, hh, hb, hsz⟩ := hi2
  have HZ0 := Lib.hid hz
  have HH0 := Lib.hid hh
  have HB0 := Lib.hid hb
  clear hz hh hb
  go_wp2_with fail
  go_loopw [7, 15] (fun at7 i wr => ∃ (j kq d : Nat) (acc : List Fil) (lv : Value), j ≤ m + 1 ∧ i = .int .i64 (j : Nat) ∧ at7 = .int .i64 (kq : Nat) ∧ kq ≤ l.length ∧ Hid (filsM m (m + 1) 0 (l.drop k) [] = filsM m (m + 1 - j) j (l.drop kq) acc) ∧ acc.length = j ∧
    Hid (Rb4 w.heap.size wr (.int .i64 0) (.int .i64 0) (.slice none 0 0) (.int .u32 0)) ∧ Hid (Rb4 (w.heap.size + 1) wr (.int .i64 p) (.int .i64 q) lv (.int .u32 (d : Nat))) ∧ Hid (OwnF (w.heap.size + 2) wr lv (acc.take m)) ∧ Hid (∀ f ∈ acc, f.ok) ∧ Hid (j = m + 1 → d = (acc.getD m ⟨0, 0⟩).n) ∧ Hid (Below w.heap.size w wr) ∧ w.heap.size + 2 ≤ wr.heap.size) (fun _ i _ => m + 1 - (intOf i).toNat)
  case atStart => exact ⟨0, k, 0, [], .slice none 0 0, by omega, rfl, rfl, hk, Lib.hid rfl, rfl, HZ0, HH0, Lib.hid (by rw [List.take_nil]; exact OwnF.nil _ _), Lib.hid (by simp), Lib.hid (fun h => by omega), HB0, hsz⟩
  case round =>
    obtain ⟨j, kq, d, acc, lv, hj, rfl, rfl, hkq, HGO, hacc, HZ, HH, HOW, HOK, HDD, HBR, hszr⟩ := hrel
    by_cases hjl : j < m + 1
    · have hji : (j : Int) ≤ (m : Int) := by omega
      have hmi3 : (m : Int) ≤ 3 := by omega
      have hkqi : (kq : Int) ≤ (l.length : Int) := by omega
      have HO := Lib.hid (show ∀ A2 c2, ((c = kq ∧ A2 = A) ∨ A2 = (A.map fun x => x.add kq)) → (l.length - kq ≤ c2 ∧ c2 ≤ 9223372036854775807) → Calls Tryd.prog 46 #[.slice A2 (l.length - kq) c2] wr (ROneDone (l.drop kq) wr) from fun A2 c2 h hc2 => by
        have hb2 : Bytes wr A2 (l.drop kq) := by
          rcases h with ⟨h1, _⟩ | h1
          · have : l.drop kq = [] := List.drop_eq_nil_of_le (by have := HCC.out.1; omega)
            rw [this]; exact .nil
          · rw [h1]; exact (HB.out wr HBR.out).cut kq
        have := rone_any A2 (l.drop kq) c2 wr hb2 (by rw [List.length_drop]; exact hc2.1) hc2.2 (by rw [List.length_drop]; have := HCC.out.2.2; omega)
        rwa [List.length_drop] at this)
      have hfx : m + 1 - j = (m - j) + 1 := by omega
      rw [hfx] at HGO
      have HE := Lib.hid (HGO.out.trans (filsM_more m (m - j) j (l.drop kq) acc))
      have HOKF := Lib.hid (oneM_ok (l.drop kq)).1
      have HDR : Hid ((oneM (l.drop kq)).2.2 = 0 → kq + kOne (l.drop kq) ≤ l.length ∧ (oneM (l.drop kq)).2.1 = l.drop (kq + kOne (l.drop kq))) := Lib.hid (fun h => by
        obtain ⟨g1, g2⟩ := one_drop (l := l.drop kq) (l' := (oneM (l.drop kq)).2.1) (f := (oneM (l.drop kq)).1) (by rw [← h])
        have e : kOne (l.drop kq) = (l.drop kq).length - (oneM (l.drop kq)).2.1.length := by unfold kOne; rw [if_pos h]
        rw [← e, List.drop_drop] at g1
        refine ⟨?_, g1⟩
        rw [e, List.length_drop]; omega)
      have HD1 := Lib.hid (show ROneDone (l.drop kq) wr = fun e w' => e = .returned (.tuple #[(oneM (l.drop kq)).1.agg, .int .i64 (kOne (l.drop kq) : Nat), .int .i64 ((oneM (l.drop kq)).2.2 : Nat)]) ∧ Below wr.heap.size wr w' from rfl)
      rw [HD1.out] at HO
      clear HD1 hfx HGO
      generalize kOne (l.drop kq) = k1 at *
      generalize oneM (l.drop kq) = R1 at *
      obtain ⟨⟨fid, fn⟩, l', er⟩ := R1
      simp only at HDR HE HOKF
      go_upto_region 19 with fail
      go_cut [16, 17, 18] (fun s16 s17 s18 wx => ∃ r, s16 = .pointer (some ⟨r, 0, none⟩) ∧ s17 = .int .i64 (k1 : Nat) ∧ s18 = .int .i64 (er : Nat) ∧ FilBox r wx ⟨fid, fn⟩ ∧ wr.heap.size ≤ r ∧ r < wx.heap.size ∧ Below wr.heap.size wr wx)
      case first =>
        -- <S
        clear hci
        by_cases hck : c = kq
        · subst hck
          go_wp2_with fail
          refine (HO.out _ _ (.inl ⟨trivial, rfl⟩) (by have := HCC.out; omega)).mono ?_
          rintro e w1 ⟨rfl, hb1⟩
          go_wp2_with fail
          go_meet
          exact ⟨w1.heap.size, rfl, rfl, rfl, heap_alloc_last _ _, hb1.size, by simp, hb1.alloc hb1.size _⟩
        · go_wp2_with fail
          refine (HO.out _ _ (.inr rfl) (by have := HCC.out; omega)).mono ?_
          rintro e w1 ⟨rfl, hb1⟩
          go_wp2_with fail
          go_meet
          exact ⟨w1.heap.size, rfl, rfl, rfl, heap_alloc_last _ _, hb1.size, by simp, hb1.alloc hb1.size _⟩
        -- S>
      case rest =>
      obtain ⟨r, rfl, rfl, rfl, hfb, hr1, hr2, hb1⟩ := hcut
      have HZ1 := Lib.hid (show Rb4 w.heap.size wc (.int .i64 0) (.int .i64 0) (.slice none 0 0) (.int .u32 0) from (hb1.block _ (by omega)).trans HZ.out)
      have HH1 := Lib.hid (show Rb4 (w.heap.size + 1) wc (.int .i64 p) (.int .i64 q) lv (.int .u32 (d : Nat)) from (hb1.block _ (by omega)).trans HH.out)
      have HOW1 := Lib.hid (HOW.out.below hb1)
      have HB1 := Lib.hid (HBR.out.trans (hb1.mono (by omega)))
      have HNEW : Hid (lv.ownBlock ≠ some r) := Lib.hid (fun e => by have := (HOW.out.lt r e).2; omega)
      have HFB := Lib.hid hfb
      clear hfb hb1 HO HZ HH HOW HBR
      obtain ⟨z0, z1, z2, z3⟩ := HZ1.out.cells
      have zf0 := HZ1.out.frozen 0
      have zf1 := HZ1.out.frozen 1
      have zf2 := HZ1.out.frozen 2
      have zf3 := HZ1.out.frozen 3
      by_cases he : er = 0
      · subst he
        obtain ⟨hkk, hl'⟩ := HDR.out rfl
        subst hl'
        obtain ⟨c0, c1, f0, f1⟩ := HFB.out.cells
        simp only at c0 c1
        have hkki : (kq : Int) + (k1 : Int) ≤ (l.length : Int) := by omega
        have HKK := Lib.hid hkk
        have HE1 : Hid (filsM m (m + 1) 0 (l.drop k) [] = if (fid == 33) != (j == m) then ([], [], 5) else filsM m (m - j) (j + 1) (l.drop (kq + k1)) (acc ++ [⟨fid, fn⟩])) := Lib.hid HE.out
        clear HE hkk
        by_cases hjm : j = m
        · subst hjm
          by_cases h33 : fid = 33
          · subst h33
            have HE2 : Hid (filsM j (j + 1) 0 (l.drop k) [] = filsM j (j - j) (j + 1) (l.drop (kq + k1)) (acc ++ [⟨33, fn⟩])) := Lib.hid (by rw [HE1.out]; simp)
            obtain ⟨y0, y1, y2, y3⟩ := HH1.out.cells
            have yf3 := HH1.out.frozen 3
            clear HE1
            go_wp2_with fail
            have hne : w.heap.size + 1 ≠ w.heap.size := by omega
            exact ⟨⟨j + 1, kq + k1, fn, acc ++ [⟨33, fn⟩], lv, by omega, by go_num, by go_num, HKK.out, Lib.hid (by rw [HE2.out]; congr 1; omega), by simp; omega, Lib.hid (HZ1.out.other hne), Lib.hid (HH1.out.set3 _),
              Lib.hid (by rw [List.take_append_of_le_length (by omega)]; exact HOW1.out.keep (fun g e => heap_setCell_other _ _ _ _ (fun e2 => by have := (HOW1.out.lt g e).1; simp only at e2; omega))),
              Lib.hid (fun f hf => by rcases List.mem_append.1 hf with h | h; exact HOK.out f h; rw [List.mem_singleton.1 h]; exact HOKF.out), Lib.hid (fun _ => by simp [List.getD, ← hacc]),
              Lib.hid (Below.setCell (p := ⟨w.heap.size + 1, 3, none⟩) HB1.out (by show w.heap.size ≤ w.heap.size + 1; omega) _), by show w.heap.size + 2 ≤ (wc.setCell _ _).heap.size; rw [World.size_setCell]; omega⟩, by simp [intOf]⟩
          · have HE2 : Hid (filsM j (j + 1) 0 (l.drop k) [] = ([], [], 5)) := Lib.hid (by rw [HE1.out]; simp [h33])
            have HNO : Hid (R = (zeroH, 5)) := Lib.hid (by rw [HPM1.out, HE2.out]; rfl)
            have h33b : (fid == 33) = false := by simp [h33]
            clear HE1 HE2 HPM1
            go_wp2_with fail
            obtain ⟨k0, k1, k2, k3⟩ := Rb4.ret HZ1.out (.int .i64 0) (.int .i64 0) (.slice none 0 0) (.int .u32 0)
            exact bodyPost_ret (v := .tuple #[.agg #[.int .i64 0, .int .i64 0, .slice none 0 0, .int .u32 0], .int .i64 5]) (by simp [results, Tryd.results31, go_sem, k0, k1, k2, k3]) rfl (RPartsDone.err HNO.out (HRET.out wc HB1.out _ _ _ _))
        · have hjmi : (j : Int) < (m : Int) := by omega
          have hjmb : (j == m) = false := by simp [hjm]
          have hjmc : ((j : Int) == (m : Int)) = false := by simp; omega
          rw [hjmb] at HE1
          by_cases h33 : fid = 33
          · subst h33
            have HE2 : Hid (filsM m (m + 1) 0 (l.drop k) [] = ([], [], 5)) := Lib.hid (by rw [HE1.out]; rfl)
            have HNO : Hid (R = (zeroH, 5)) := Lib.hid (by rw [HPM1.out, HE2.out]; rfl)
            clear HE1 HE2 HPM1 hjmb hjm
            go_wp2_with fail
            obtain ⟨k0, k1, k2, k3⟩ := Rb4.ret HZ1.out (.int .i64 0) (.int .i64 0) (.slice none 0 0) (.int .u32 0)
            exact bodyPost_ret (v := .tuple #[.agg #[.int .i64 0, .int .i64 0, .slice none 0 0, .int .u32 0], .int .i64 5]) (by simp [results, Tryd.results31, go_sem, k0, k1, k2, k3]) rfl (RPartsDone.err HNO.out (HRET.out wc HB1.out _ _ _ _))
          · have HE2 : Hid (filsM m (m + 1) 0 (l.drop k) [] = filsM m (m - j) (j + 1) (l.drop (kq + k1)) (acc ++ [⟨fid, fn⟩])) := Lib.hid (by rw [HE1.out]; simp [h33])
            have h33b : (fid == 33) = false := by simp [h33]
            obtain ⟨y0, y1, y2, y3⟩ := HH1.out.cells
            have hb9 := Below.alloc (Below.refl wc.heap.size wc) (Nat.le_refl _) (.cells #[.int .i64 fid, .int .u32 (fn : Nat)] 48)
            have howB := HOW1.out.alloc (.cells #[.int .i64 fid, .int .u32 (fn : Nat)] 48)
            have hF1 := fils_one wc ⟨fid, fn⟩ HOKF.out
            have hszB : w.heap.size + 2 ≤ (wc.alloc (.cells #[.int .i64 fid, .int .u32 (fn : Nat)] 48)).heap.size := by simp; omega
            have HHB := Lib.hid (show Rb4 (w.heap.size + 1) (wc.alloc (.cells #[.int .i64 fid, .int .u32 (fn : Nat)] 48)) (.int .i64 p) (.int .i64 q) lv (.int .u32 (d : Nat)) from (hb9.block _ (by omega)).trans HH1.out)
            have HZB := Lib.hid (show Rb4 w.heap.size (wc.alloc (.cells #[.int .i64 fid, .int .u32 (fn : Nat)] 48)) (.int .i64 0) (.int .i64 0) (.slice none 0 0) (.int .u32 0) from (hb9.block _ (by omega)).trans HZ1.out)
            have HFBB := Lib.hid (show FilBox r (wc.alloc (.cells #[.int .i64 fid, .int .u32 (fn : Nat)] 48)) ⟨fid, fn⟩ from (hb9.block _ hr2).trans HFB.out)
            have HBB := Lib.hid (HB1.out.alloc (by omega) (.cells #[.int .i64 fid, .int .u32 (fn : Nat)] 48))
            have HSZ : Hid ((acc.take m).length + [(⟨fid, fn⟩ : Fil)].length ≤ 1000000) := Lib.hid (by rw [List.length_take]; simp; omega)
            have hrB : r < (wc.alloc (.cells #[.int .i64 fid, .int .u32 (fn : Nat)] 48)).heap.size := by simp; omega
            clear HE1 HPM1 hjm hjmb hb9
            have HLEN : Hid ((acc.take m ++ [(⟨fid, fn⟩ : Fil)]).length = j + 1) := Lib.hid (by rw [List.length_append, List.length_take]; simp; omega)
            have HFIN := Lib.hid (show ∀ v2 w2, OwnF (w.heap.size + 2) w2 v2 (acc.take m ++ [(⟨fid, fn⟩ : Fil)]) → (wc.alloc (.cells #[.int .i64 fid, .int .u32 (fn : Nat)] 48)).grownBy w2 lv.ownBlock →
                Rb4 (w.heap.size + 1) w2 (.int .i64 p) (.int .i64 q) lv (.int .u32 (d : Nat)) ∧ w2.cell? ⟨r, 1, none⟩ = some (.int .u32 (fn : Nat)) ∧
                Rb4 w.heap.size ((w2.setCell ⟨w.heap.size + 1, 2, none⟩ v2).setCell ⟨w.heap.size + 1, 3, none⟩ (.int .u32 (fn : Nat))) (.int .i64 0) (.int .i64 0) (.slice none 0 0) (.int .u32 0) ∧
                Rb4 (w.heap.size + 1) ((w2.setCell ⟨w.heap.size + 1, 2, none⟩ v2).setCell ⟨w.heap.size + 1, 3, none⟩ (.int .u32 (fn : Nat))) (.int .i64 p) (.int .i64 q) v2 (.int .u32 (fn : Nat)) ∧
                OwnF (w.heap.size + 2) ((w2.setCell ⟨w.heap.size + 1, 2, none⟩ v2).setCell ⟨w.heap.size + 1, 3, none⟩ (.int .u32 (fn : Nat))) v2 ((acc ++ [(⟨fid, fn⟩ : Fil)]).take m) ∧
                Below w.heap.size w ((w2.setCell ⟨w.heap.size + 1, 2, none⟩ v2).setCell ⟨w.heap.size + 1, 3, none⟩ (.int .u32 (fn : Nat))) ∧
                w.heap.size + 2 ≤ ((w2.setCell ⟨w.heap.size + 1, 2, none⟩ v2).setCell ⟨w.heap.size + 1, 3, none⟩ (.int .u32 (fn : Nat))).heap.size from fun v2 w2 ho2 hg2 => by
              have hlow : ∀ g, lv.ownBlock = some g → w.heap.size + 2 ≤ g ∧ g < wc.heap.size := fun g e => HOW1.out.lt g e
              have hrr : ∀ g, g < w.heap.size + 2 ∨ g = r → w2.heap[g]? = (wc.alloc (.cells #[.int .i64 fid, .int .u32 (fn : Nat)] 48)).heap[g]? := fun g h => by
                refine hg2.block g ?_ (fun e => ?_)
                · rcases h with h | h
                  · omega
                  · rw [h]; exact hrB
                · rcases h with h | h
                  · have := (hlow g e.symm).1; omega
                  · subst h; exact absurd e.symm (HNEW.out)
              have hH : Rb4 (w.heap.size + 1) w2 (.int .i64 p) (.int .i64 q) lv (.int .u32 (d : Nat)) := (hrr _ (.inl (by omega))).trans HHB.out
              have hZ : Rb4 w.heap.size w2 (.int .i64 0) (.int .i64 0) (.slice none 0 0) (.int .u32 0) := (hrr _ (.inl (by omega))).trans HZB.out
              have hF : FilBox r w2 ⟨fid, fn⟩ := (hrr r (.inr rfl)).trans HFBB.out
              have hne : w.heap.size + 1 ≠ w.heap.size := by omega
              have hb2 : Below w.heap.size w w2 := below_grown HBB.out hg2 (by omega) (fun g e => by have := (hlow g e).1; omega)
              have hs2 := hg2.size
              refine ⟨hH, hF.cells.2.1, (hZ.other hne).other hne, (hH.set2 _).set3 _, ?_, Below.setCell (p := ⟨w.heap.size + 1, 3, none⟩) (Below.setCell (p := ⟨w.heap.size + 1, 2, none⟩) hb2 (by show w.heap.size ≤ w.heap.size + 1; omega) _) (by show w.heap.size ≤ w.heap.size + 1; omega) _, by simp only [World.size_setCell]; omega⟩
              have e1 : (acc ++ [(⟨fid, fn⟩ : Fil)]).take m = acc.take m ++ [⟨fid, fn⟩] := by rw [List.take_of_length_le (by simp; omega), List.take_of_length_le (by omega)]
              rw [e1]
              exact ho2.keep (fun g e => (heap_setCell_other _ _ _ _ (fun e2 => by have := (ho2.lt g e).1; simp only at e2; omega)).trans (heap_setCell_other _ _ _ _ (fun e2 => by have := (ho2.lt g e).1; simp only at e2; omega))))
            go_wp2_with (at_builtin; refine wpList_append_fils rfl (.tmp 107) (.tmp 109) rfl (w.heap.size + 2) _ lv (acc.take m) rfl howB (some ⟨wc.heap.size, 0, none⟩) [⟨fid, fn⟩] 1 rfl hF1 HSZ.out hszB ?_; intro v2 w2 ho2 hg2; obtain ⟨g8, c8, hv8, _, _⟩ := World.ownsRow.form ho2 (by simp); rw [HLEN.out] at hv8; subst hv8; obtain ⟨q1, q2, q3⟩ := HFIN.out _ w2 ho2 hg2; have q4 := q1.frozen 2; have q5 := q1.frozen 3; obtain ⟨p0, p1, p2, p3⟩ := q1.cells; have HQ := Lib.hid q3; clear q3)
            obtain ⟨q3, q6, q7, q8, q9⟩ := HQ.out
            exact ⟨⟨j + 1, kq + k1, fn, acc ++ [⟨fid, fn⟩], .slice (some ⟨g8, 0, none⟩) _ c8, by omega, by go_num, by go_num, HKK.out, Lib.hid (by rw [HE2.out]; congr 1; omega), by simp; omega, Lib.hid q3, Lib.hid q6, Lib.hid q7,
              Lib.hid (fun f hf => by rcases List.mem_append.1 hf with h | h; exact HOK.out f h; rw [List.mem_singleton.1 h]; exact HOKF.out), Lib.hid (fun h => by omega), Lib.hid q8, q9⟩, by simp [intOf]; omega⟩
      · have HE2 : Hid (filsM m (m + 1) 0 (l.drop k) [] = ([], [], er)) := Lib.hid (by rw [HE.out, if_pos he])
        have HNO : Hid (R = (zeroH, er)) := Lib.hid (by rw [HPM1.out, HE2.out]; exact if_pos he)
        have hei : (0 : Int) < (er : Int) := by omega
        clear HE2 HPM1 HE he HDR
        go_wp2_with fail
        obtain ⟨k0, k1, k2, k3⟩ := Rb4.ret HZ1.out (.int .i64 0) (.int .i64 0) (.slice none 0 0) (.int .u32 0)
        exact bodyPost_ret (v := .tuple #[.agg #[.int .i64 0, .int .i64 0, .slice none 0 0, .int .u32 0], .int .i64 (er : Nat)]) (by simp [results, Tryd.results31, go_sem, k0, k1, k2, k3]) rfl (RPartsDone.err HNO.out (HRET.out wc HB1.out _ _ _ _))
    · obtain rfl : j = m + 1 := by omega
      have hmi : (m : Int) ≤ 3 := by omega
      have hlm : (acc.take m).length = m := by rw [List.length_take]; omega
      have HPM2 : Hid (R = if (l.drop kq).all (· == 0) = false then (zeroH, 5) else (⟨p, q, acc.take m, (acc.getD m ⟨0, 0⟩).n⟩, 0)) := Lib.hid (by
        have e : filsM m (m + 1) 0 (l.drop k) [] = (acc, l.drop kq, 0) := by rw [HGO.out, Nat.sub_self]; rfl
        rw [HPM1.out, e, if_neg (by simp)])
      obtain ⟨A9, c9, e9, hc9, hm9, hF9⟩ := HOW.out.read (fun f hf => HOK.out f (List.mem_of_mem_take hf))
      rw [hlm] at e9
      subst e9
      have HA9 := Lib.hid (show ∀ a, A9 = some a → w.heap.size + 2 ≤ a.block from fun a e => by subst e; exact (HOW.out.lt a.block rfl).1)
      have HF9 := Lib.hid hF9
      have HC9 := Lib.hid (And.intro hc9 hm9)
      have HDE := Lib.hid (HDD.out rfl)
      have hhz := HH.out
      have HLM := Lib.hid hlm
      have HKQ := Lib.hid hkq
      clear HGO HPM1 HOW HDD hF9 hc9 hm9 hlm hj hjl hacc HOK HH HZ0 HH0 HB0 hk hsz
      go_wp2_with fail
      go_loopw [19] (fun i wx => ∃ t : Nat, i = .int .i64 (t : Nat) ∧ kq ≤ t ∧ t ≤ l.length ∧ Hid ((l.drop kq).all (· == 0) = (l.drop t).all (· == 0)) ∧ wr = wx) (fun i _ => l.length - (intOf i).toNat)
      case atStart => exact ⟨kq, rfl, Nat.le_refl _, HKQ.out, Lib.hid rfl, rfl⟩
      case round =>
        obtain ⟨t, rfl, hkt, htl, HZA, rfl⟩ := hrel
        by_cases htl2 : t < l.length
        · have hti : (t : Int) < (l.length : Int) := by omega
          obtain ⟨b, off, rfl, hbl, hat⟩ := (HB.out wr HBR.out).addr (by omega)
          have hct := hat t htl2
          have HSPL := Lib.hid (show (l.drop t).all (· == 0) = (l[t] == 0 && (l.drop (t + 1)).all (· == 0)) by rw [List.drop_eq_getElem_cons htl2]; rfl)
          generalize l[t] = x at *
          clear hat
          by_cases hx : x = 0
          · subst hx
            have hct' : wr.cell? ⟨b, off + t, none⟩ = some (.int .u8 0) := hct
            have HZA2 : Hid ((l.drop kq).all (· == 0) = (l.drop (t + 1)).all (· == 0)) := Lib.hid (by rw [HZA.out, HSPL.out]; rfl)
            clear hct
            go_wp2_with fail
            exact ⟨⟨t + 1, by go_num, by omega, by omega, HZA2, by trivial⟩, by simp [intOf]; omega⟩
          · have hx0 : (((x.toNat : Nat) : Int) == 0) = false := by
              have : x.toNat ≠ 0 := fun e => hx (UInt8.toNat_inj.1 e)
              simp; omega
            have HNO : Hid (R = (zeroH, 5)) := Lib.hid (by rw [HPM2.out, if_pos]; rw [HZA.out, HSPL.out]; simp [hx])
            obtain ⟨z0, z1, z2, z3⟩ := HZ.out.cells
            have zf0 := HZ.out.frozen 0
            have zf1 := HZ.out.frozen 1
            have zf2 := HZ.out.frozen 2
            have zf3 := HZ.out.frozen 3
            clear HPM2 HSPL HZA
            go_wp2_with fail
            obtain ⟨k0, k1, k2, k3⟩ := Rb4.ret HZ.out (.int .i64 0) (.int .i64 0) (.slice none 0 0) (.int .u32 0)
            exact bodyPost_ret (v := .tuple #[.agg #[.int .i64 0, .int .i64 0, .slice none 0 0, .int .u32 0], .int .i64 5]) (by simp [results, Tryd.results31, go_sem, k0, k1, k2, k3]) rfl (RPartsDone.err HNO.out (HRET.out wr HBR.out _ _ _ _))
        · obtain rfl : t = l.length := by omega
          have HYY : Hid (R = (⟨p, q, acc.take m, d⟩, 0)) := Lib.hid (by rw [HPM2.out, if_neg, HDE.out]; rw [HZA.out, List.drop_length]; simp)
          obtain ⟨z0, z1, z2, z3⟩ := HZ.out.cells
          have zf0 := HZ.out.frozen 0
          have zf1 := HZ.out.frozen 1
          have zf2 := HZ.out.frozen 2
          have zf3 := HZ.out.frozen 3
          obtain ⟨y0, y1, y2, y3⟩ := hhz.cells
          clear HPM2 HZA
          go_wp2_with fail
          obtain ⟨k0, k1, k2, k3⟩ := Rb4.ret HZ.out (.int .i64 p) (.int .i64 q) (.slice A9 m c9) (.int .u32 (d : Nat))
          have hrne : ∀ a, A9 = some a → a.block ≠ w.heap.size := fun a e => by have := HA9.out a e; omega
          have hfin := RPartsDone.yes (w := w) (n := m) HYY.out HLM.out.symm (HRET.out wr HBR.out (.int .i64 p) (.int .i64 q) (.slice A9 m c9) (.int .u32 (d : Nat))) ((((HF9.out.set hrne _).set hrne _).set hrne _).set hrne _) HC9.out.1 HC9.out.2 (fun a e => by have := HA9.out a e; omega)
          exact bodyPost_ret (v := .tuple #[.agg #[.int .i64 p, .int .i64 q, .slice A9 m c9, .int .u32 (d : Nat)], .int .i64 0]) (by simp [results, Tryd.results31, go_sem, k0, k1, k2, k3]) rfl hfin
end Go.Proofs.YtaggkcgeddoogaaDoor
