/- Heads and feet as they are written. -/
import Derived.Test.YtibkhajhmncgkaaDoorFlSum2
import Derived.Test.YtibkhajhmncgkaaDoorShelf
namespace Go.Proofs.YtibkhajhmncgkaaDoor
open Go.RowKit

/-- Bytes in a block that may be written. -/
def FreshAt (w : World) (g : Nat) (L : List UInt8) : Prop := ∀ i (h : i < L.length), w.cell? ⟨g, i, none⟩ = some (B8 L[i]) ∧ w.frozen? ⟨g, i, none⟩ = false
def FreshDone (w : World) (L : List UInt8) (e : Ending) (w' : World) : Prop := ∃ g cap, e = .returned (.slice (some ⟨g, 0, none⟩) L.length cap) ∧ L.length ≤ cap ∧ cap ≤ 9223372036854775807 ∧ w.heap.size ≤ g ∧ g < w'.heap.size ∧ FreshAt w' g L ∧ Below w.heap.size w w'
theorem FreshAt.bytes {w : World} {g : Nat} {L : List UInt8} (h : FreshAt w g L) (hg : g < w.heap.size) : Bytes w (some ⟨g, 0, none⟩) L := .inr ⟨g, 0, rfl, hg, fun k hk => by rw [Nat.zero_add]; exact (h k hk).1⟩
theorem FreshAt.below {w w' : World} {g : Nat} {L : List UInt8} (h : FreshAt w g L) (hg : g < w.heap.size) (hb : Below w.heap.size w w') : FreshAt w' g L := fun i hi => by
  obtain ⟨h1, h2⟩ := h i hi
  exact ⟨(hb.cell (p := ⟨g, i, none⟩) hg).trans h1, (hb.frozen (p := ⟨g, i, none⟩) hg).trans h2⟩

theorem holds_of_bytes {w : World} {A : Option Addr} {l : List UInt8} {c : Nat} (h : Bytes w A l) : Lib.HoldsBytes w (.slice A l.length c) l := by
  refine ⟨A, c, rfl, fun e => ?_, fun a e i x hx => ?_⟩
  · rcases h with h | ⟨b, off, h, _⟩
    · exact h
    · rw [e] at h; cases h
  · rcases h with h | ⟨b, off, h, _, hc⟩
    · subst h; simp at hx
    · rw [e] at h; injection h with h; subst h
      have hi : i < l.length := by
        rcases Nat.lt_or_ge i l.length with h | h
        · exact h
        · rw [List.getElem?_eq_none h] at hx; cases hx
      rw [List.getElem?_eq_getElem hi] at hx
      injection hx with hx
      rw [← hx, show (⟨b, off, none⟩ : Addr).add i = ⟨b, off + i, none⟩ from by unfold Addr.add; split <;> simp_all]
      exact hc i hi
theorem fresh_of_lib {B : Nat} {w' : World} {v : Value} {l : List UInt8} (h : Lib.FreshBytes B w' v l) (hl : 0 < l.length) :
    ∃ g cap, v = .slice (some ⟨g, 0, none⟩) l.length cap ∧ l.length ≤ cap ∧ cap ≤ 9223372036854775807 ∧ B ≤ g ∧ g < w'.heap.size ∧ FreshAt w' g l := by
  obtain ⟨g, cap, zs, rfl, hg, hlc, hcm, hz, hzb, hb, hc, hf⟩ := h
  refine ⟨g, cap, rfl, hlc, by unfold maxLen at hcm; exact hcm, hg, ?_, fun i hi => ⟨?_, hf i (by omega)⟩⟩
  · have := World.block_lt_of_cell? _ _ (hc 0 (by omega)); simpa using this
  · rw [hc i (by omega)]
    have hiz : i < zs.length := by omega
    have e : zs.getD i 0 = zs[i] := by simp [List.getD, hiz]
    have hzi := hzb zs[i] (List.getElem_mem _)
    have hli : l[i] = UInt8.ofNat zs[i].toNat := by
      have h2 : (Lib.bytesOf (zs.take l.length))[i]? = l[i]? := by rw [hb]
      rw [List.getElem?_eq_getElem hi] at h2
      unfold Lib.bytesOf at h2
      rw [List.getElem?_map, List.getElem?_take, if_pos hi, List.getElem?_eq_getElem hiz] at h2
      simpa using h2.symm
    rw [e, hli]
    show some (Value.int .u8 zs[i]) = some (Value.int .u8 ((UInt8.ofNat zs[i].toNat).toNat : Nat))
    rw [UInt8.toNat_ofNat']
    congr 2
    omega
/-- bytes.Join of three. -/
theorem join3 {A0 A1 A2 : Option Addr} {l0 l1 l2 : List UInt8} {c0 c1 c2 g : Nat} (w : World) (h0 : Bytes w A0 l0) (h1 : Bytes w A1 l1) (h2 : Bytes w A2 l2)
    (k0 : w.cell? ⟨g, 0, none⟩ = some (.slice A0 l0.length c0)) (k1 : w.cell? ⟨g, 1, none⟩ = some (.slice A1 l1.length c1)) (k2 : w.cell? ⟨g, 2, none⟩ = some (.slice A2 l2.length c2))
    (L : List UInt8) (hL : l0 ++ l1 ++ l2 = L) (hl : L.length ≤ 1000000) (hp : 0 < L.length) :
    Calls Tryd.prog 20 #[.slice (some ⟨g, 0, none⟩) 3 3, .slice none 0 0] w (FreshDone w L) := by
  have hlen : l0.length + l1.length + l2.length = L.length := by rw [← hL]; simp; omega
  have hP : Lib.PartsAt w ⟨g, 0, none⟩ [.slice A0 l0.length c0, .slice A1 l1.length c1, .slice A2 l2.length c2] [l0, l1, l2] := by
    refine ⟨rfl, fun i v hv => ?_, fun i v l hv hl => ?_⟩
    · rw [show (⟨g, 0, none⟩ : Addr).add i = ⟨g, i, none⟩ from by unfold Addr.add; split <;> simp_all]
      match i with
      | 0 => simp at hv; subst hv; exact k0
      | 1 => simp at hv; subst hv; exact k1
      | 2 => simp at hv; subst hv; exact k2
      | i + 3 => simp at hv
    · match i with
      | 0 => simp at hv hl; subst hv; subst hl; exact holds_of_bytes h0
      | 1 => simp at hv hl; subst hv; subst hl; exact holds_of_bytes h1
      | 2 => simp at hv hl; subst hv; subst hl; exact holds_of_bytes h2
      | i + 3 => simp at hv
  refine (Shelf_bytes_Join_many g 0 3 3 _ [l0, l1, l2] (.slice none 0 0) [] w rfl (by omega) hP (by omega) ⟨none, 0, rfl, fun _ => rfl, fun a e => by cases e⟩ (by omega) (by simp [Lib.lens]; omega)).mono ?_
  rintro e w' ⟨v, rfl, hv, hb⟩
  have ej : Lib.join [l0, l1, l2] [] = L := by rw [Lib.join_cons, ← hL]; simp [Lib.joinTail]
  rw [ej] at hv
  obtain ⟨g', cap, rfl, q1, q2, q3, q4, q5⟩ := fresh_of_lib hv hp
  exact ⟨g', cap, rfl, q1, q2, q3, q4, q5, hb⟩

def magicH : List UInt8 := [253, 55, 122, 88, 90, 0]
def headL (b : UInt8) : List UInt8 := magicH ++ [0, b] ++ sumB 1 [0, b]
theorem headL_length (b : UInt8) : (headL b).length = 12 := by unfold headL magicH; simp [sumB_length, sizeOfC]
theorem lit_bytes {base : Nat} (w : World) (l : List UInt8) (hb : base ≤ w.heap.size) (hm : l.length ≤ 9223372036854775807) : Own base (w.alloc (.cells (l.map B8).toArray 5)) (.slice (some ⟨w.heap.size, 0, none⟩) l.length l.length) l := Own.lit w l hb hm
set_option maxRecDepth 100000 in
set_option maxHeartbeats 400000 in
theorem headMagic_any (w : World) : Calls Tryd.prog 21 #[] w (OwnDone w magicH) := by
  have ho : Own w.heap.size (w.alloc (.cells #[.int .u8 253, .int .u8 55, .int .u8 122, .int .u8 88, .int .u8 90, .int .u8 0] 5)) (.slice (some ⟨w.heap.size, 0, none⟩) 6 6) magicH := Own.lit (base := w.heap.size) w magicH (Nat.le_refl _) (by simp [magicH])
  go_enter Tryd.func21, Tryd.ntmps21
  go_wp2_with fail
  go_ret
  exact ⟨_, rfl, ho, below_one _ _⟩
set_option maxRecDepth 100000 in
set_option maxHeartbeats 400000 in
theorem footMagic_any (w : World) : Calls Tryd.prog 23 #[] w (OwnDone w [89, 90]) := by
  have ho : Own w.heap.size (w.alloc (.cells #[.int .u8 89, .int .u8 90] 5)) (.slice (some ⟨w.heap.size, 0, none⟩) 2 2) [89, 90] := Own.lit (base := w.heap.size) w [89, 90] (Nat.le_refl _) (by simp)
  go_enter Tryd.func23, Tryd.ntmps23
  go_wp2_with fail
  go_ret
  exact ⟨_, rfl, ho, below_one _ _⟩

def HeadNo (w : World) (e : Ending) (w' : World) : Prop := e = .returned (.tuple #[.slice none 0 0, .int .i64 1]) ∧ Below w.heap.size w w'
set_option maxRecDepth 100000 in
set_option maxHeartbeats 400000 in
theorem head_no (c : Int) (w : World) (hf : fineB c = false) : Calls Tryd.prog 8 #[.int .i64 c] w (HeadNo w) := by
  have HF := Lib.hid (fine_any c w)
  rw [hf] at HF
  clear hf
  go_enter Tryd.func8, Tryd.ntmps8
  go_wp2_with fail
  refine HF.out.mono ?_
  rintro e w1 ⟨rfl, hb1⟩
  go_wp2_with fail
  go_ret2
  exact ⟨rfl, hb1⟩
/-- What Head, and Foot, hand back. -/
def PairDone (w : World) (L : List UInt8) (e : Ending) (w' : World) : Prop := ∃ g cap, e = .returned (.tuple #[.slice (some ⟨g, 0, none⟩) L.length cap, .int .i64 0]) ∧ L.length ≤ cap ∧ cap ≤ 9223372036854775807 ∧ w.heap.size ≤ g ∧ g < w'.heap.size ∧ FreshAt w' g L ∧ Below w.heap.size w w'
set_option maxRecDepth 100000 in
set_option maxHeartbeats 1000000 in
theorem head_yes (b : UInt8) (w : World) (hT : Tabs w) (hf : fineB (b.toNat : Nat) = true) : Calls Tryd.prog 8 #[.int .i64 (b.toNat : Nat)] w (PairDone w (headL b)) := by
  have HF := Lib.hid (fine_any (b.toNat : Nat) w)
  rw [hf] at HF
  have hbt := b.toNat_lt
  have hb0 : (0 : Int) ≤ (b.toNat : Int) := by omega
  have hb1 : (b.toNat : Int) < 256 := by omega
  have HT := Lib.hid hT
  have HLL : Hid (magicH ++ [0, b] ++ sumB 1 [0, b] = headL b) := Lib.hid rfl
  have HLN := Lib.hid (headL_length b)
  have HSL : Hid ((sumB 1 [0, b]).length = 4) := Lib.hid (sumB_length 1 [0, b])
  have hwr : IntKind.u8.wrap (b.toNat : Int) = (b.toNat : Int) := by rw [IntKind.wrap_u8]; omega
  generalize headL b = HL at *
  clear hT hf
  go_enter Tryd.func8, Tryd.ntmps8
  go_wp2_with fail
  refine HF.out.mono ?_
  rintro e w1 ⟨rfl, hb1⟩
  have hl0 : Own w.heap.size (w1.alloc (.cells #[.int .u8 0, B8 b] 5)) (.slice (some ⟨w1.heap.size, 0, none⟩) 2 2) [0, b] := Own.lit (base := w.heap.size) w1 [0, b] hb1.size (by simp)
  have hb2 := hb1.trans ((below_one w1 (.cells #[.int .u8 0, B8 b] 5)).mono hb1.size)
  have HHM := Lib.hid (headMagic_any (w1.alloc (.cells #[.int .u8 0, B8 b] 5)))
  go_wp2_with fail
  generalize w1.alloc (.cells #[.int .u8 0, B8 b] 5) = w2 at *
  refine HHM.out.mono ?_
  rintro e w3 ⟨vm, rfl, hom, hb3⟩
  have hb3' := hb2.trans (hb3.mono hb2.size)
  obtain ⟨Am, cm, rfl, _, _, hBm⟩ := hom.read
  have hl1 := hl0.below hb3
  obtain ⟨Af, cf, ef, hcf, hmf, hBf⟩ := hl1.read
  injection ef with e1 e2 e3
  subst e1
  have HCK := Lib.hid (chk_any 1 (some ⟨w1.heap.size, 0, none⟩) [0, b] 2 w3 (HT.out.below hb3') hBf (by simp) (by omega) (by simp))
  have HBM := Lib.hid hBm
  have HBF := Lib.hid hBf
  clear hl0 hl1 hom hcf hmf e2 e3 hBm hBf hb2 hb1
  go_wp2_with fail
  refine HCK.out.mono ?_
  rintro e w4 ⟨A4, c4, rfl, hc4, hm4, hB4, hb4⟩
  have hb4' := hb3'.trans (hb4.mono hb3'.size)
  rw [HSL.out]
  have hal := below_one w4 (.cells #[.slice Am magicH.length cm, .slice (some ⟨w1.heap.size, 0, none⟩) 2 2, .slice A4 4 c4] 22)
  have hBm5 := (HBM.out.below hb4).below hal
  have hBf5 := (HBF.out.below hb4).below hal
  have hB45 := hB4.below hal
  have hc : ∀ i, (w4.alloc (.cells #[.slice Am magicH.length cm, .slice (some ⟨w1.heap.size, 0, none⟩) 2 2, .slice A4 4 c4] 22)).cell? ⟨w4.heap.size, i, none⟩ = (#[.slice Am magicH.length cm, .slice (some ⟨w1.heap.size, 0, none⟩) 2 2, .slice A4 4 c4] : Array Value)[i]? := fun i => cell_of_row _ _ _ _ _ _ (heap_alloc_last _ _)
  have hJ := Lib.hid (join3 (c0 := cm) (c1 := 2) (c2 := c4) (g := w4.heap.size) _ hBm5 hBf5 hB45 (hc 0) (hc 1) ((hc 2).trans (by rw [HSL.out]; rfl)) HL HLL.out (by rw [HLN.out]; omega) (by rw [HLN.out]; omega))
  have hb5 := hb4'.trans (hal.mono hb4'.size)
  clear hc hBm5 hBf5 hB45 hal hb4' hB4
  go_wp2_with fail
  generalize w4.alloc (.cells #[.slice Am magicH.length cm, .slice (some ⟨w1.heap.size, 0, none⟩) 2 2, .slice A4 4 c4] 22) = w5 at *
  refine hJ.out.mono ?_
  rintro e w6 ⟨g, cap, rfl, q1, q2, q3, q4, q5, q6⟩
  go_wp2_with fail
  go_ret2
  exact ⟨g, cap, rfl, q1, q2, Nat.le_trans hb5.size q3, q4, q5, hb5.trans (q6.mono hb5.size)⟩
end Go.Proofs.YtibkhajhmncgkaaDoor
