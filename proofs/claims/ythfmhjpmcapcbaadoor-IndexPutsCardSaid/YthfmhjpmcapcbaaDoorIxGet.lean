/- index.Get. -/
import Derived.Test.YthfmhjpmcapcbaaDoorIxRead
namespace Go.Proofs.YthfmhjpmcapcbaaDoor
open Go.RowKit

def getR (l : List UInt8) : List (Int × Int) × Nat × Nat :=
  if l.length = 0 then ([], 0, 2) else if l.getD 0 0 ≠ 0 then ([], 0, 8) else if (recsR l 1).2.2 ≠ 0 then ([], 0, (recsR l 1).2.2)
  else if (endR l (recsR l 1).2.1).2 ≠ 0 then ([], 0, (endR l (recsR l 1).2.1).2) else ((recsR l 1).1, (endR l (recsR l 1).2.1).1, 0)
theorem recsGo_place (l : List UInt8) : ∀ (m k : Nat) (acc : List (Int × Int)), k ≤ l.length → (recsGo l m k acc).2.2 = 0 → (recsGo l m k acc).2.1 ≤ l.length
  | 0, _, _, hk, _ => hk
  | m + 1, k, acc, hk, h => by
    rw [recsGo_more] at h ⊢
    rcases nextR_cases l k hk with ⟨h1, h2, h3, h4⟩ | ⟨h1, h2⟩ | ⟨h1, h2⟩
    · rw [if_neg (by omega)] at h ⊢
      by_cases hf : fitsU ((nextR l k).1 : Nat) = false
      · rw [if_pos hf] at h; cases h
      rw [if_neg hf] at h ⊢
      rcases nextR_cases l (nextR l k).2.1 h3 with ⟨g1, g2, g3, g4⟩ | ⟨g1, g2⟩ | ⟨g1, g2⟩
      · rw [if_neg (by omega)] at h ⊢
        exact recsGo_place l m _ _ g3 h
      · rw [if_pos (by omega)] at h; have h' : (nextR l (nextR l k).2.1).2.2 = 0 := h; omega
      · rw [if_pos (by omega)] at h; have h' : (nextR l (nextR l k).2.1).2.2 = 0 := h; omega
    · rw [if_pos (by omega)] at h; have h' : (nextR l k).2.2 = 0 := h; omega
    · rw [if_pos (by omega)] at h; have h' : (nextR l k).2.2 = 0 := h; omega
theorem recsR_place (l : List UInt8) (k : Nat) (hk : k ≤ l.length) (h : (recsR l k).2.2 = 0) : (recsR l k).2.1 ≤ l.length := by
  unfold recsR at h ⊢
  rcases nextR_cases l k hk with ⟨h1, h2, h3, h4⟩ | ⟨h1, h2⟩ | ⟨h1, h2⟩
  · rw [if_neg (by omega)] at h ⊢
    exact recsGo_place l _ _ _ h3 h
  · rw [if_pos (by omega)] at h; have h' : (nextR l k).2.2 = 0 := h; omega
  · rw [if_pos (by omega)] at h; have h' : (nextR l k).2.2 = 0 := h; omega
theorem OwnR.weaken {t : TypeId} {base base' : Nat} {w : World} {v : Value} {l : List (Int × Int)} (h : OwnR t base w v l) (hb : base' ≤ base) : OwnR t base' w v l := by
  rcases h with ⟨h1, h2 | ⟨g, cap, cur, h2, h3, h4⟩⟩
  · exact ⟨h1, .inl h2⟩
  · exact ⟨h1, .inr ⟨g, cap, cur, h2, Nat.le_trans hb h3, h4⟩⟩
def IxGetDone (w : World) (r : List (Int × Int) × Nat × Nat) (e : Ending) (w' : World) : Prop :=
  ∃ v, e = .returned (.tuple #[v, .int .i64 (r.2.1 : Nat), .int .i64 (r.2.2 : Nat)]) ∧ OwnR 44 w.heap.size w' v r.1 ∧ Below w.heap.size w w'
set_option maxRecDepth 100000 in
set_option maxHeartbeats 2000000 in
theorem ixget_any (A : Option Addr) (l : List UInt8) (c : Nat) (w : World) (hB : Bytes w A l) (hc : l.length ≤ c) (hm : c ≤ 9223372036854775807) (hl : l.length ≤ 1000000) :
    Calls Tryd.prog 9 #[.slice A l.length c] w (IxGetDone w (getR l)) := by
  have HB := Lib.hid hB
  by_cases h0 : l.length = 0
  · have HF : Hid (getR l = ([], 0, 2)) := Lib.hid (by rw [getR, if_pos h0])
    have h0i : (l.length : Int) = 0 := by omega
    rw [h0]
    clear hB
    go_enter Tryd.func9, Tryd.ntmps9
    go_wp2_with fail
    go_ret3
    exact ⟨_, by rw [HF.out]; rfl, by rw [HF.out]; exact OwnR.nil _ _ _, (Below.refl _ _).alloc (Nat.le_refl _) _⟩
  · have h0i : ¬ (l.length : Int) = 0 := by omega
    obtain ⟨b, off, rfl, hbl, hcell⟩ := hB.addr (by omega)
    have k0 : w.cell? ⟨b, off + 0, none⟩ = some (B8 (l[0]'(by omega))) := hcell 0 (by omega)
    have hgd : l[0]'(by omega) = l.getD 0 0 := by simp [List.getD, show 0 < l.length by omega]
    rw [hgd, Nat.add_zero] at k0
    have hlp : (0 : Int) < (l.length : Int) := by omega
    clear hcell hgd hB
    by_cases hx : l.getD 0 0 = 0
    · rw [hx] at k0
      have k1 : w.cell? ⟨b, off, none⟩ = some (.int .u8 0) := k0
      clear k0
      go_enter Tryd.func9, Tryd.ntmps9
      have hbW : Below w.heap.size w ((w.alloc (.cells #[.slice (some ⟨b, off, none⟩) l.length c] 23)).alloc (.cells #[.int .i64 1] 3)) := ((Below.refl _ _).alloc (Nat.le_refl _) _).alloc (by simp) _
      have HRD := Lib.hid (recs_any w.heap.size (w.heap.size + 1) (some ⟨b, off, none⟩) l c 1 ((w.alloc (.cells #[.slice (some ⟨b, off, none⟩) l.length c] 23)).alloc (.cells #[.int .i64 1] 3)) (by simp) (by simp) (by simp) (by omega) (by simp) (fun w' h => HB.out.below (hbW.trans (h.mono (by omega)))) (by omega) hc hm hl)
      have HGR := Lib.hid (show getR l = if (recsR l 1).2.2 ≠ 0 then ([], 0, (recsR l 1).2.2) else if (endR l (recsR l 1).2.1).2 ≠ 0 then ([], 0, (endR l (recsR l 1).2.1).2) else ((recsR l 1).1, (endR l (recsR l 1).2.1).1, 0) from by rw [getR, if_neg h0, if_neg (fun h => h hx)])
      have HPL := Lib.hid (recsR_place l 1 (by omega))
      generalize recsR l 1 = RR at *
      obtain ⟨rs, pl, er⟩ := RR
      have HBW := Lib.hid hbW
      have hbb2 : ((w.alloc (.cells #[.slice (some ⟨b, off, none⟩) l.length c] 23)).alloc (.cells #[.int .i64 1] 3)).cell? ⟨w.heap.size, 0, none⟩ = some (.slice (some ⟨b, off, none⟩) l.length c) := by simp
      have HBB := Lib.hid hbb2
      clear hbW hbb2
      go_wp2_with fail
      refine HRD.out.mono ?_
      rintro e w3 ⟨v, rfl, hb3, hno, hyes⟩
      have hw3 : Below w.heap.size w w3 := HBW.out.trans (hb3.mono (by omega))
      have hcb := (hb3.cell (p := ⟨w.heap.size, 0, none⟩) (by simp)).trans HBB.out
      by_cases he : er = 0
      · subst he
        obtain ⟨hown, hca⟩ := hyes rfl
        have hca2 : w3.cell? ⟨w.heap.size + 1, 0, none⟩ = some (.int .i64 (pl : Nat)) := hca
        have hown2 : OwnR 44 w.heap.size w3 v rs := hown.weaken (by simp; omega)
        have HE := Lib.hid (end_any (some ⟨b, off, none⟩) l c pl w3 (HB.out.below hw3) (HPL.out rfl) hc hm hl)
        have HG2 : Hid (getR l = if (endR l pl).2 ≠ 0 then ([], 0, (endR l pl).2) else (rs, (endR l pl).1, 0)) := Lib.hid HGR.out
        generalize endR l pl = ee at *
        obtain ⟨cnt, e2⟩ := ee
        clear hno hyes hca hown hb3
        go_wp2_with fail
        refine HE.out.mono ?_
        rintro e w4 ⟨rfl, hb4⟩
        have hw4 := hw3.trans (hb4.mono hw3.size)
        by_cases he2 : e2 = 0
        · subst he2
          have HF : Hid (getR l = (rs, cnt, 0)) := Lib.hid HG2.out
          go_wp2_with fail
          go_ret3
          exact ⟨_, by rw [HF.out]; rfl, by rw [HF.out]; exact hown2.below hb4, hw4⟩
        · have HF : Hid (getR l = ([], 0, e2)) := Lib.hid (by rw [HG2.out, if_pos he2])
          have he3 : (0 : Int) < (e2 : Int) := by omega
          clear he2
          go_wp2_with fail
          go_ret3
          exact ⟨_, by rw [HF.out]; rfl, by rw [HF.out]; exact OwnR.nil _ _ _, hw4⟩
      · have HF : Hid (getR l = ([], 0, er)) := Lib.hid (by rw [HGR.out, if_pos he])
        have he3 : (0 : Int) < (er : Int) := by omega
        clear he hno hyes hb3
        go_wp2_with fail
        go_ret3
        exact ⟨_, by rw [HF.out]; rfl, by rw [HF.out]; exact OwnR.nil _ _ _, hw3⟩
    · have HF : Hid (getR l = ([], 0, 8)) := Lib.hid (by rw [getR, if_neg h0, if_pos hx])
      have hx0 : ¬ ((l.getD 0 0).toNat : Int) = 0 := fun h => hx (UInt8.toNat_inj.1 (by simpa using h))
      have k1 : w.cell? ⟨b, off, none⟩ = some (.int .u8 ((l.getD 0 0).toNat : Nat)) := k0
      generalize (l.getD 0 0).toNat = x at *
      have hx1 : (0 : Int) < (x : Int) := by omega
      clear k0 hx
      go_enter Tryd.func9, Tryd.ntmps9
      go_wp2_with fail
      go_ret3
      exact ⟨_, by rw [HF.out]; rfl, by rw [HF.out]; exact OwnR.nil _ _ _, (Below.refl _ _).alloc (Nat.le_refl _) _⟩
end Go.Proofs.YthfmhjpmcapcbaaDoor
