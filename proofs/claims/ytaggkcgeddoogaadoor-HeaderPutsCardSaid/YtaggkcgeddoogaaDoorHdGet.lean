/- header.Get. -/
import Derived.Test.YtaggkcgeddoogaaDoorHdSeal
import Derived.OwnWalk
namespace Go.Proofs.YtaggkcgeddoogaaDoor
open Go.RowKit

theorem step_make_zeros {ops : Array Oper} {o : Oper} {a : Act} {K : Act → World → Prop} {Q : Exit → Act → World → Prop} (hgd : o.guard = none) (x y : Operand) (ho : o.op = .makeSlice 26 x y)
    (base n : Nat) (w : World) (hx : a.eval x = .int .i64 (n : Nat)) (hy : a.eval y = .int .i64 (n : Nat)) (hn : n ≤ 1000000) (hbase : base ≤ w.heap.size)
    (h : ∀ w', Own base w' (.slice (some ⟨w.heap.size, 0, none⟩) n n) (List.replicate n 0) → w.grownBy w' none → K (a.put o.dst (.slice (some ⟨w.heap.size, 0, none⟩) n n)) w') : if Region.wanted o (yielded ops a.tmps) = true then Oper.wp Tryd.prog o a w K Q else K (a.put o.dst undef) w := by
  rw [if_pos (by simp [Region.wanted, hgd])]
  obtain ⟨i, hi, hz0, hz1, hz2⟩ := info_parts info8
  obtain ⟨w', hr, h1, h2⟩ := run_make_full (P := Tryd.prog) w base 26 5 i (.int .u8 0) 1 Tryd.underlying26 hi hz0 hz1 .i64 .i64 n (by rw [hz2]; omega) (by unfold maxLen; omega) hbase
  rw [madeZ] at h1
  have ho2 : Own base w' (.slice (some ⟨w.heap.size, 0, none⟩) n n) (List.replicate n 0) := by
    unfold Own
    rw [List.length_replicate, List.map_replicate]
    exact h1
  unfold Oper.wp execOp
  simp only [ho, hx, hy, Sem.run_bind, Sem.run_pure, Result.andThen_ok, hr]
  exact h w' ho2 h2

def HdGetDone (w : World) (r : HeadM × Nat × Nat) (e : Ending) (w' : World) : Prop :=
  ∃ A c, e = .returned (.tuple #[headV r.1 A c, .int .i64 (r.2.1 : Nat), .int .i64 (r.2.2 : Nat)]) ∧ Fils w' A r.1.l ∧ r.1.l.length ≤ c ∧ c ≤ 9223372036854775807 ∧ Below w.heap.size w w'
theorem HdGetDone.err {w w' : World} {l : List UInt8} {er : Nat} (h : getHd l = (zeroH, 0, er)) (hb : Below w.heap.size w w') : HdGetDone w (getHd l) (.returned (.tuple #[.agg #[.int .i64 0, .int .i64 0, .slice none 0 0, .int .u32 0], .int .i64 0, .int .i64 (er : Nat)])) w' := by
  unfold HdGetDone; rw [h]; exact ⟨none, 0, rfl, .inl rfl, Nat.le_refl _, by omega, hb⟩
theorem HdGetDone.yes {w w' : World} {l : List UInt8} {h : HeadM} {n c : Nat} {A : Option Addr} (hg : getHd l = (h, n, 0)) (hb : Below w.heap.size w w') (hf : Fils w' A h.l) (hc : h.l.length ≤ c) (hm : c ≤ 9223372036854775807) : HdGetDone w (getHd l) (.returned (.tuple #[headV h A c, .int .i64 (n : Nat), .int .i64 0])) w' := by
  unfold HdGetDone; rw [hg]; exact ⟨A, c, rfl, hf, hc, hm, hb⟩
theorem seal_facts {l x : List UInt8} (h : sealM l = (x, 0)) : x = l.take (sizeB l - 4) ∧ sizeB l ≤ l.length ∧ 8 ≤ sizeB l ∧ sizeB l ≤ 1024 := by
  have hdef : sealM l = if l.length = 0 then ([], 2) else if l.getD 0 0 = 0 then ([], 4) else if l.length < sizeB l then ([], 2)
    else if (sum1 (l.take (sizeB l - 4)) == part l (sizeB l - 4) 4) = false then ([], 4) else (l.take (sizeB l - 4), 0) := rfl
  rw [hdef] at h
  by_cases h0 : l.length = 0
  · rw [if_pos h0] at h; simp at h
  rw [if_neg h0] at h
  by_cases h1 : l.getD 0 0 = 0
  · rw [if_pos h1] at h; simp at h
  rw [if_neg h1] at h
  by_cases h2 : l.length < sizeB l
  · rw [if_pos h2] at h; simp at h
  rw [if_neg h2] at h
  have hx := (l.getD 0 0).toNat_lt
  have hp : 0 < (l.getD 0 0).toNat := by
    rcases Nat.eq_zero_or_pos (l.getD 0 0).toNat with e | e
    · exact absurd (UInt8.toNat_inj.1 (by simpa using e)) h1
    · exact e
  split at h
  · simp at h
  · simp only [Prod.mk.injEq, and_true] at h
    exact ⟨h.symm, by omega, by unfold sizeB; omega, by unfold sizeB; omega⟩
theorem sizes_len {s : Nat} {p q : Int} {l l2 : List UInt8} (h : sizesM s l = some (p, q, l2)) : l2.length ≤ l.length := by
  rw [sizesM_of] at h
  split at h
  · cases h
  · rename_i p1 l1 h1
    split at h
    · cases h
    · rename_i q1 l3 h3
      injection h with h; injection h with e1 h; injection h with e2 e3
      subst e3
      have a1 := (optM_len h1).1
      have a2 := (optM_len h3).1
      omega
theorem fils_len : ∀ (many k i : Nat) (l : List UInt8) (acc : List Fil), (filsM many k i l acc).2.1.length ≤ l.length
  | _, 0, _, _, _ => Nat.le_refl _
  | many, k + 1, i, l, acc => by
    rw [filsM_more]
    split
    · simp
    · split
      · simp
      · exact Nat.le_trans (fils_len many k (i + 1) _ _) (oneM_ok l).2
theorem fils_count : ∀ (many k i : Nat) (l : List UInt8) (acc : List Fil), (filsM many k i l acc).2.2 = 0 → (filsM many k i l acc).1.length = acc.length + k
  | _, 0, _, _, _, _ => rfl
  | many, k + 1, i, l, acc, h => by
    rw [filsM_more] at h ⊢
    split at h
    · rename_i h1; exact absurd h h1
    · rename_i h1
      rw [if_neg h1]
      split at h
      · cases h
      · rename_i h2
        rw [if_neg h2]
        have := fils_count many k (i + 1) _ _ h
        rw [this, List.length_append]; simp; omega
theorem zeros_bytes {base b n : Nat} {w : World} (h : Own base w (.slice (some ⟨b, 0, none⟩) n n) (List.replicate n 0)) : Bytes w (some ⟨b, 0, none⟩) (List.replicate n 0) := by
  obtain ⟨A8, c8, e8, _, _, hb8⟩ := h.read
  injection e8 with e1 e2 e3
  rw [e1]; exact hb8
theorem zeros_eq (l : List UInt8) : (l == List.replicate l.length 0) = l.all (· == 0) := by
  induction l with
  | nil => rfl
  | cons x l ih => simp only [List.length_cons, List.replicate_succ, List.all_cons]; rw [← ih]; rfl
theorem Fils.set {w : World} {A : Option Addr} {l : List Fil} (h : Fils w A l) {g i : Nat} (hA : ∀ a, A = some a → a.block ≠ g) (u : Value) : Fils (w.setCell ⟨g, i, none⟩ u) A l := by
  rcases h with h | ⟨b, off, rfl, hb, hat⟩
  · exact .inl h
  · have hne : b ≠ g := hA ⟨b, off, none⟩ rfl
    have hblk : (w.setCell ⟨g, i, none⟩ u).heap[b]? = w.heap[b]? := heap_setCell_other _ _ _ _ (fun e => hne e)
    refine .inr ⟨b, off, rfl, by simp; exact hb, fun k hk => ⟨?_, ?_, (hat k hk).ok⟩⟩
    · exact (World.cell?_of_block (a := ⟨b, off + k * 2, none⟩) hblk).trans (hat k hk).c0
    · exact (World.cell?_of_block (a := ⟨b, off + k * 2 + 1, none⟩) hblk).trans (hat k hk).c1

set_option maxRecDepth 100000 in
set_option maxHeartbeats 4000000 in
theorem hdget_any (A : Option Addr) (l : List UInt8) (c : Nat) (w : World) (hB : Bytes w A l) (hc : l.length ≤ c) (hm : c ≤ 9223372036854775807) (hl : l.length ≤ 1000000) :
    Calls Tryd.prog 9 #[.slice A l.length c] w (HdGetDone w (getHd l)) := by
  obtain ⟨W0, hW0⟩ : ∃ W0, w.alloc (.cells #[.int .i64 0, .int .i64 0, .slice none 0 0, .int .u32 0] 25) = W0 := ⟨_, rfl⟩
  have hb0 : Below w.heap.size w W0 := by rw [← hW0]; exact (Below.refl _ _).alloc (Nat.le_refl _) _
  have hr0 : Blk4 w.heap.size W0 (.int .i64 0) (.int .i64 0) (.slice none 0 0) (.int .u32 0) := by rw [← hW0]; exact heap_alloc_last _ _
  have hz0 : W0.heap.size = w.heap.size + 1 := by rw [← hW0]; simp
  have HW0 := Lib.hid hW0
  have HSL := Lib.hid (hseal_any A l c W0 (hB.below hb0) hc hm hl)
  have HRET := Lib.hid (fun (wx : World) (h : Below w.heap.size w wx) (a b c d : Value) => (show Below w.heap.size w ((((wx.setCell ⟨w.heap.size, 0, none⟩ a).setCell ⟨w.heap.size, 1, none⟩ b).setCell ⟨w.heap.size, 2, none⟩ c).setCell ⟨w.heap.size, 3, none⟩ d) from
    Below.setCell (p := ⟨w.heap.size, 3, none⟩) (Below.setCell (p := ⟨w.heap.size, 2, none⟩) (Below.setCell (p := ⟨w.heap.size, 1, none⟩) (Below.setCell (p := ⟨w.heap.size, 0, none⟩) h (Nat.le_refl _) a) (Nat.le_refl _) b) (Nat.le_refl _) c) (Nat.le_refl _) d))
  have HGD : Hid (getHd l = if (sealM l).2 ≠ 0 then (zeroH, 0, (sealM l).2) else if (l.getD 1 0).toNat / 4 % 16 ≠ 0 then (zeroH, 0, 5)
    else if (partsM (l.getD 1 0).toNat ((sealM l).1.drop 2)).2 ≠ 0 then (zeroH, 0, (partsM (l.getD 1 0).toNat ((sealM l).1.drop 2)).2)
    else ((partsM (l.getD 1 0).toNat ((sealM l).1.drop 2)).1, sizeB l, 0)) := Lib.hid rfl
  have HB := Lib.hid hB
  clear hW0 hB
  go_enter Tryd.func9, Tryd.ntmps9
  go_upto_region 1 with fail
  rw [HW0.out]
  clear HW0
  go_wp2_with fail
  refine HSL.out.mono ?_
  rintro e w1 ⟨hb1, hs1⟩
  have HB01 := Lib.hid (hb0.trans (hb1.mono hb0.size))
  have hr1 : Blk4 w.heap.size w1 (.int .i64 0) (.int .i64 0) (.slice none 0 0) (.int .u32 0) := (hb1.block _ (by omega)).trans hr0
  have hsz1 : w.heap.size < w1.heap.size := by have := hb1.size; omega
  have HR1 := Lib.hid hr1
  rcases hs1 with ⟨hse, rfl⟩ | ⟨hse, rfl⟩
  case inr =>
    have HF := Lib.hid (show getHd l = (zeroH, 0, (sealM l).2) by rw [HGD.out, if_pos hse])
    obtain ⟨z0, z1, z2, z3⟩ := hr1.cells
    have zf0 := hr1.frozen 0
    have zf1 := hr1.frozen 1
    have zf2 := hr1.frozen 2
    have zf3 := hr1.frozen 3
    have hei : (0 : Int) < ((sealM l).2 : Int) := by omega
    generalize (sealM l).2 = er at *
    clear hse hr1 hb1 hr0 HGD
    go_wp2_with fail
    obtain ⟨k0, k1, k2, k3⟩ := Blk4.ret HR1.out (.int .i64 0) (.int .i64 0) (.slice none 0 0) (.int .u32 0)
    exact bodyPost_ret (v := .tuple #[.agg #[.int .i64 0, .int .i64 0, .slice none 0 0, .int .u32 0], .int .i64 0, .int .i64 (er : Nat)]) (by simp [results, Tryd.results9, go_sem, k0, k1, k2, k3]) rfl (HdGetDone.err HF.out (HRET.out w1 HB01.out _ _ _ _))
  obtain ⟨x, e0⟩ : ∃ x, sealM l = (x, 0) := ⟨(sealM l).1, Prod.ext rfl hse⟩
  obtain ⟨hx, hZl, hZ8, hZm⟩ := seal_facts e0
  obtain ⟨p, hp⟩ : ∃ p, sizeB l - 4 = p := ⟨_, rfl⟩
  rw [hp] at hx ⊢
  subst hx
  have HSIZE := Lib.hid (show sizeB l = p + 4 by omega)
  have HGD1 : Hid (getHd l = if (l.getD 1 0).toNat / 4 % 16 ≠ 0 then (zeroH, 0, 5)
    else if (partsM (l.getD 1 0).toNat ((l.take p).drop 2)).2 ≠ 0 then (zeroH, 0, (partsM (l.getD 1 0).toNat ((l.take p).drop 2)).2)
    else ((partsM (l.getD 1 0).toNat ((l.take p).drop 2)).1, p + 4, 0)) := Lib.hid (by rw [HGD.out, e0, if_neg (fun h => h rfl), HSIZE.out])
  obtain ⟨b, off, rfl, hbl, hcell⟩ := HB.out.addr (by omega)
  have hk1 : w.cell? ⟨b, off + 1, none⟩ = some (.int .u8 ((l.getD 1 0).toNat : Nat)) := by
    have h := hcell 1 (by omega)
    rw [h]; simp [List.getD, show 1 < l.length by omega]
  have HK1 := Lib.hid (fun (wx : World) (h : Below w.heap.size w wx) => (h.cell (p := ⟨b, off + 1, none⟩) hbl).trans hk1)
  have hj1 := HK1.out w1 HB01.out
  have hs256 := (l.getD 1 0).toNat_lt
  obtain ⟨_, _, ha3, ha60⟩ := and_bit ⟨(l.getD 1 0).toNat, hs256⟩
  simp only at ha3 ha60
  have hl2 : ((l.take p).drop 2).length = p - 2 := by rw [List.length_drop, List.length_take]; omega
  have hB2 := Lib.hid (fun (wx : World) (h : Below w.heap.size w wx) => Bytes.drop 2 ((HB.out.below h).take p))
  generalize (l.getD 1 0).toNat = s at *
  generalize (l.take p).drop 2 = l2 at *
  have hpi : (4 : Int) ≤ (p : Int) := by omega
  have hpc : (p : Int) ≤ (c : Int) := by omega
  have hc2 : ¬ c = 2 := by omega
  obtain ⟨p2, hp2⟩ : ∃ p2, p - 2 = p2 := ⟨_, rfl⟩
  have HP2 := Lib.hid hp2
  have hp2b : p2 ≤ 1024 := by omega
  rw [hp2] at hl2
  obtain ⟨v60, hv60⟩ : ∃ v, bits .and .u8 (s : Int) 60 = v := ⟨_, rfl⟩
  rw [hv60] at ha60
  obtain ⟨z0, z1, z2, z3⟩ := hr1.cells
  have zf0 := hr1.frozen 0
  have zf1 := hr1.frozen 1
  have zf2 := hr1.frozen 2
  have zf3 := hr1.frozen 3
  clear hcell hk1 hr1 hb1 hr0 HGD e0 hse hp
  by_cases h60 : s / 4 % 16 = 0
  case neg =>
    have HF := Lib.hid (show getHd l = (zeroH, 0, 5) by rw [HGD1.out, if_pos h60])
    have hvb : (v60 == 0) = false := by
      cases h : v60 == 0 with
      | false => rfl
      | true => exact absurd (ha60.1 (by simpa using h)) h60
    clear ha60 h60
    go_wp2_with fail
    obtain ⟨k0, k1, k2, k3⟩ := Blk4.ret HR1.out (.int .i64 0) (.int .i64 0) (.slice none 0 0) (.int .u32 0)
    exact bodyPost_ret (v := .tuple #[.agg #[.int .i64 0, .int .i64 0, .slice none 0 0, .int .u32 0], .int .i64 0, .int .i64 5]) (by simp [results, Tryd.results9, go_sem, k0, k1, k2, k3]) rfl (HdGetDone.err HF.out (HRET.out w1 HB01.out _ _ _ _))
  have HGD2 : Hid (getHd l = if (partsM s l2).2 ≠ 0 then (zeroH, 0, (partsM s l2).2) else ((partsM s l2).1, p + 4, 0)) := Lib.hid (by rw [HGD1.out, if_neg (fun h => h h60)])
  have hv0 : v60 = 0 := ha60.2 h60
  subst hv0
  clear ha60 h60 HGD1
  have hx2 : Box w1.heap.size (w1.alloc (.cells #[.slice (some ⟨b, off + 2, none⟩) p2 (c - 2)] 26)) (.slice (some ⟨b, off + 2, none⟩) l2.length (c - 2)) := by rw [hl2]; exact heap_alloc_last _ _
  have hb12 : Below w1.heap.size w1 (w1.alloc (.cells #[.slice (some ⟨b, off + 2, none⟩) p2 (c - 2)] 26)) := (Below.refl _ _).alloc (Nat.le_refl _) _
  have hb02 : Below w.heap.size w (w1.alloc (.cells #[.slice (some ⟨b, off + 2, none⟩) p2 (c - 2)] 26)) := HB01.out.trans (hb12.mono HB01.out.size)
  have hR2 : Rest w1.heap.size (w1.alloc (.cells #[.slice (some ⟨b, off + 2, none⟩) p2 (c - 2)] 26)) l2 := ⟨_, _, hx2, hB2.out _ hb02, fun a e => by injection e with e; rw [← e]; show b < w1.heap.size; have := HB01.out.size; omega, by rw [hl2]; omega, by omega⟩
  have HSZ := Lib.hid (hsizes_any w1.heap.size s l2 _ hR2 (by rw [hl2]; omega) hs256)
  have hj2 := HK1.out _ hb02
  have HB02 := Lib.hid hb02
  have HB12 := Lib.hid hb12
  have hRlt := Lib.hid hR2.lt
  have HR2b : Hid (Blk4 w.heap.size (w1.alloc (.cells #[.slice (some ⟨b, off + 2, none⟩) p2 (c - 2)] 26)) (.int .i64 0) (.int .i64 0) (.slice none 0 0) (.int .u32 0)) := Lib.hid ((hb12.block _ hsz1).trans HR1.out)
  have HSIZ := Lib.hid (show partsM s l2 = match sizesM s l2 with
    | none => (zeroH, 4)
    | some (p, q, l2) => if (filsM (s % 4) (s % 4 + 1) 0 l2 []).2.2 ≠ 0 then (zeroH, (filsM (s % 4) (s % 4 + 1) 0 l2 []).2.2)
      else if (filsM (s % 4) (s % 4 + 1) 0 l2 []).2.1.all (· == 0) = false then (zeroH, 5)
      else (⟨p, q, (filsM (s % 4) (s % 4 + 1) 0 l2 []).1.take (s % 4), ((filsM (s % 4) (s % 4 + 1) 0 l2 []).1.getD (s % 4) ⟨0, 0⟩).n⟩, 0) from rfl)
  clear hx2 hb12 hb02 hR2 z0 z1 z2 z3 zf0 zf1 zf2 zf3
  go_upto_region 9 with fail
  generalize w1.alloc (.cells #[.slice (some ⟨b, off + 2, none⟩) p2 (c - 2)] 26) = w2 at *
  go_wp2_with fail
  refine HSZ.out.mono ?_
  rintro e w3 ⟨hb3, hk3, hd3⟩
  have HB03 := Lib.hid (HB02.out.trans (hb3.mono (by omega)))
  have hr3 : Blk4 w.heap.size w3 (.int .i64 0) (.int .i64 0) (.slice none 0 0) (.int .u32 0) := (hb3.block _ hsz1).trans HR2b.out
  have hsz3 : w1.heap.size < w3.heap.size := by have h1 := hk3.1; have h2 := HR2b.out; have h3 := HB12.out.size; have h4 := hRlt.out; omega
  cases hsm : sizesM s l2 with
  | none =>
    rw [hsm] at hd3 HSIZ
    obtain rfl := hd3
    have HF := Lib.hid (show getHd l = (zeroH, 0, 4) by rw [HGD2.out, HSIZ.out]; rfl)
    have hb34 : Below w3.heap.size w3 (w3.alloc (.cells #[.int .i64 0, .int .i64 0, .slice none 0 0, .int .u32 0] 25)) := (Below.refl _ _).alloc (Nat.le_refl _) _
    have HR4 := Lib.hid (show Blk4 w.heap.size (w3.alloc (.cells #[.int .i64 0, .int .i64 0, .slice none 0 0, .int .u32 0] 25)) (.int .i64 0) (.int .i64 0) (.slice none 0 0) (.int .u32 0) from (hb34.block _ (by omega)).trans hr3)
    have HB04 := Lib.hid (HB03.out.trans (hb34.mono (by omega)))
    obtain ⟨z0, z1, z2, z3⟩ := HR4.out.cells
    have zf0 := HR4.out.frozen 0
    have zf1 := HR4.out.frozen 1
    have zf2 := HR4.out.frozen 2
    have zf3 := HR4.out.frozen 3
    clear hsm hb34 hb3 hk3 hr3
    go_wp2_with fail
    obtain ⟨k0, k1, k2, k3⟩ := Blk4.ret HR4.out (.int .i64 0) (.int .i64 0) (.slice none 0 0) (.int .u32 0)
    exact bodyPost_ret (v := .tuple #[.agg #[.int .i64 0, .int .i64 0, .slice none 0 0, .int .u32 0], .int .i64 0, .int .i64 4]) (by simp [results, Tryd.results9, go_sem, k0, k1, k2, k3]) rfl (HdGetDone.err HF.out (HRET.out _ HB04.out _ _ _ _))
  | some r3 =>
    obtain ⟨p', q', l3⟩ := r3
    rw [hsm] at hd3 HSIZ
    obtain ⟨rfl, hR3⟩ := hd3
    have hl3 := sizes_len hsm
    obtain ⟨W4, hW4⟩ : ∃ W4, w3.alloc (.cells #[.int .i64 p', .int .i64 q', .slice none 0 0, .int .u32 0] 25) = W4 := ⟨_, rfl⟩
    have HW4 := Lib.hid hW4
    have hb34 : Below w3.heap.size w3 W4 := by rw [← hW4]; exact (Below.refl _ _).alloc (Nat.le_refl _) _
    have hh4 : Blk4 w3.heap.size W4 (.int .i64 p') (.int .i64 q') (.slice none 0 0) (.int .u32 0) := by rw [← hW4]; exact heap_alloc_last _ _
    have hz4 : W4.heap.size = w3.heap.size + 1 := by rw [← hW4]; simp
    have HB04 := Lib.hid (HB03.out.trans (hb34.mono (by omega)))
    have hr4 : Blk4 w.heap.size W4 (.int .i64 0) (.int .i64 0) (.slice none 0 0) (.int .u32 0) := (hb34.block _ (by omega)).trans hr3
    have hR4 : Rest w1.heap.size W4 l3 := hR3.keep (hb34.mono (by omega))
    have hm4 : s % 4 ≤ 3 := by omega
    have HFL := Lib.hid (hfils_any w1.heap.size (s % 4) l3 W4 hR4 (by omega) hm4)
    have hj4 := HK1.out W4 HB04.out
    have hl4 := fils_len (s % 4) (s % 4 + 1) 0 l3 []
    clear hsm hW4 hb34 hb3 hk3 hr3 hR3 hR4
    go_upto_region 12 with fail
    rw [HW4.out]
    clear HW4
    obtain ⟨s4, hs4⟩ : ∃ s4, s % 4 = s4 := ⟨_, rfl⟩
    rw [hs4] at ha3 HFL HSIZ hl4 hm4
    clear hs4
    go_wp2_with fail
    refine HFL.out.mono ?_
    rintro e w5 ⟨A5, c5, d5, rfl, hb5, hk5, her, hyes⟩
    have hh5 : Blk4 w3.heap.size w5 (.int .i64 p') (.int .i64 q') (.slice none 0 0) (.int .u32 0) := (hk5.2 _ (by omega) (by omega)).trans hh4
    have hr5 : Blk4 w.heap.size w5 (.int .i64 0) (.int .i64 0) (.slice none 0 0) (.int .u32 0) := (hb5.block _ hsz1).trans hr4
    have HB05 := Lib.hid (HB04.out.trans (hb5.mono (by omega)))
    have hcnt := fils_count s4 (s4 + 1) 0 l3 []
    obtain ⟨FR, hFR⟩ : ∃ FR, filsM s4 (s4 + 1) 0 l3 [] = FR := ⟨_, rfl⟩
    rw [hFR] at her hyes HSIZ hl4 hcnt ⊢
    clear hFR
    obtain ⟨acc, l4, er⟩ := FR
    obtain ⟨y0, y1, y2, y3⟩ := hh5.cells
    have yf2 := hh5.frozen 2
    have yf3 := hh5.frozen 3
    have hne : w3.heap.size ≠ w.heap.size := by omega
    by_cases he : er = 0
    case neg =>
      obtain ⟨rfl, rfl, rfl⟩ := her he
      have HF := Lib.hid (show getHd l = (zeroH, 0, er) by
        have e : partsM s l2 = (zeroH, er) := by rw [HSIZ.out]; simp only []; rw [if_pos he]
        rw [HGD2.out, e, if_pos he])
      have HV : Hid ((if er = 0 then s4 else 0) = 0) := Lib.hid (if_neg he)
      simp only []
      rw [HV.out]
      have hr6 : Hid (Blk4 w.heap.size ((w5.setCell ⟨w3.heap.size, 2, none⟩ (.slice none 0 0)).setCell ⟨w3.heap.size, 3, none⟩ (.int .u32 ((0 : Nat) : Int))) (.int .i64 0) (.int .i64 0) (.slice none 0 0) (.int .u32 0)) := Lib.hid ((hr5.other hne).other hne)
      have HB06 : Hid (Below w.heap.size w ((w5.setCell ⟨w3.heap.size, 2, none⟩ (.slice none 0 0)).setCell ⟨w3.heap.size, 3, none⟩ (.int .u32 ((0 : Nat) : Int)))) := Lib.hid (Below.setCell (p := ⟨w3.heap.size, 3, none⟩) (Below.setCell (p := ⟨w3.heap.size, 2, none⟩) HB05.out (by show w.heap.size ≤ w3.heap.size; omega) _) (by show w.heap.size ≤ w3.heap.size; omega) _)
      have hei : ((er : Int) == 0) = false := by simp; omega
      clear he her hyes hb5 hk5 hr5 hh5
      go_upto_region 13 with fail
      generalize (w5.setCell ⟨w3.heap.size, 2, none⟩ (.slice none 0 0)).setCell ⟨w3.heap.size, 3, none⟩ (.int .u32 ((0 : Nat) : Int)) = w6 at *
      obtain ⟨z0, z1, z2, z3⟩ := hr6.out.cells
      have zf0 := hr6.out.frozen 0
      have zf1 := hr6.out.frozen 1
      have zf2 := hr6.out.frozen 2
      have zf3 := hr6.out.frozen 3
      clear y0 y1 y2 y3 yf2 yf3
      go_wp2_with fail
      obtain ⟨k0, k1, k2, k3⟩ := Blk4.ret hr6.out (.int .i64 0) (.int .i64 0) (.slice none 0 0) (.int .u32 0)
      exact bodyPost_ret (v := .tuple #[.agg #[.int .i64 0, .int .i64 0, .slice none 0 0, .int .u32 0], .int .i64 0, .int .i64 (er : Nat)]) (by simp [results, Tryd.results9, go_sem, k0, k1, k2, k3]) rfl (HdGetDone.err HF.out (HRET.out w6 HB06.out _ _ _ _))
    case pos =>
      subst he
      obtain ⟨hR5, hF5, hd5, hsc, hcm5, hA5⟩ := hyes rfl
      simp only at hR5 hF5 hd5
      have HD5 := Lib.hid hd5
      clear hd5
      have HLEN := Lib.hid (show (acc.take s4).length = s4 by have h : acc.length = 0 + (s4 + 1) := hcnt rfl; rw [List.length_take]; omega)
      clear hcnt
      have hb06 : Below w.heap.size w ((w5.setCell ⟨w3.heap.size, 2, none⟩ (.slice A5 s4 c5)).setCell ⟨w3.heap.size, 3, none⟩ (.int .u32 (d5 : Nat))) := Below.setCell (p := ⟨w3.heap.size, 3, none⟩) (Below.setCell (p := ⟨w3.heap.size, 2, none⟩) HB05.out (by show w.heap.size ≤ w3.heap.size; omega) _) (by show w.heap.size ≤ w3.heap.size; omega) _
      have hR6 : Rest w1.heap.size ((w5.setCell ⟨w3.heap.size, 2, none⟩ (.slice A5 s4 c5)).setCell ⟨w3.heap.size, 3, none⟩ (.int .u32 (d5 : Nat))) l4 := hR5.keep (Below.setCell (p := ⟨w3.heap.size, 3, none⟩) (Below.setCell (p := ⟨w3.heap.size, 2, none⟩) (Below.refl _ _) (by show w1.heap.size + 1 ≤ w3.heap.size; omega) _) (by show w1.heap.size + 1 ≤ w3.heap.size; omega) _)
      have hr6 : Blk4 w.heap.size ((w5.setCell ⟨w3.heap.size, 2, none⟩ (.slice A5 s4 c5)).setCell ⟨w3.heap.size, 3, none⟩ (.int .u32 (d5 : Nat))) (.int .i64 0) (.int .i64 0) (.slice none 0 0) (.int .u32 0) := (hr5.other hne).other hne
      have hh6 : Blk4 w3.heap.size ((w5.setCell ⟨w3.heap.size, 2, none⟩ (.slice A5 s4 c5)).setCell ⟨w3.heap.size, 3, none⟩ (.int .u32 (d5 : Nat))) (.int .i64 p') (.int .i64 q') (.slice A5 s4 c5) (.int .u32 (d5 : Nat)) := (hh5.set2 _).set3 _
      have hF6 : Fils ((w5.setCell ⟨w3.heap.size, 2, none⟩ (.slice A5 s4 c5)).setCell ⟨w3.heap.size, 3, none⟩ (.int .u32 (d5 : Nat))) A5 (acc.take s4) := (hF5.set (fun a e => by have := hA5 a e; omega) _).set (fun a e => by have := hA5 a e; omega) _
      simp only []
      have HPK := Lib.hid (And.intro hb06 (And.intro hR6 (And.intro hr6 (And.intro hh6 hF6))))
      clear hb06 hR6 hr6 hh6 hF6 her hyes hb5 hk5 hr5 hh5 hR5 hF5
      go_upto_region 15 with fail
      generalize (w5.setCell ⟨w3.heap.size, 2, none⟩ (.slice A5 s4 c5)).setCell ⟨w3.heap.size, 3, none⟩ (.int .u32 (d5 : Nat)) = w6 at *
      obtain ⟨hb06, ⟨A6, c6, hx6, hB6, hA6, hc6, hm6⟩, hr6, hh6, hF6⟩ := HPK.out
      have hl4' : l4.length ≤ 1000000 := by have h : l4.length ≤ l3.length := hl4; omega
      have HL4 := Lib.hid hl4'
      have hxlt := hx6.lt
      have HXC := Lib.hid (fun (wx : World) (h : Below w6.heap.size w6 wx) => (hx6.below h).cell)
      have HE := Lib.hid (show ∀ A2 w', Below w6.heap.size w6 w' → Bytes w' A2 (List.replicate l4.length 0) → Calls Tryd.prog 27 #[.slice A6 l4.length c6, .slice A2 l4.length l4.length] w' fun e w'' => e = .returned (.bool (l4.all (· == 0))) ∧ w' = w'' from fun A2 w' h h2 => by
        have := equal_any A6 A2 l4 (List.replicate l4.length 0) c6 l4.length w' (hB6.below h) h2
        rw [List.length_replicate, zeros_eq] at this
        exact this)
      have HPAR := Lib.hid (show partsM s l2 = if l4.all (· == 0) = false then (zeroH, 5) else (⟨p', q', acc.take s4, (acc.getD s4 ⟨0, 0⟩).n⟩, 0) by rw [HSIZ.out]; rfl)
      generalize l4.all (· == 0) = v at *
      have hdr : Below w6.heap.size w6 w6.drew := below_drew w6
      have HH6 := Lib.hid hh6
      have HRR6 := Lib.hid hr6
      have HFF6 := Lib.hid hF6
      clear y0 y1 y2 y3 yf2 yf3 hx6 hB6 hA6 hl4 hl4' hh6 hr6 hF6
      refine wp_region_held_drew (S := fun w' => Below w6.heap.size w6 w') (by kernel_rfl) hdr (fun hS => ?_)
      refine wpAnyH_take (i := 0) (oi := { dst := some 60, op := Op.load 26 (Operand.tmp 7), type := 26, pos := "header.go:105", after := #[], guard := none }) (v := ?vgz1) rfl (by kernel_rfl) (by kernel_rfl) (by kernel_rfl) (fun _ _ _ h => h) (Or.inl ⟨by rfl, ?ygz1⟩) hS ?_
      case ygz1 =>
        intro w hSw
        have j := HXC.out w hSw
        go_simp; all_goals (with_reducible rfl)
      simp only [Act.put, List.setIfInBounds_toArray, List.set_cons_zero, List.set_cons_succ]
      refine wpAnyH_take (i := 1) (oi := { dst := some 61, op := Op.load 26 (Operand.tmp 7), type := 26, pos := "header.go:105", after := #[], guard := none }) (v := ?vgz2) rfl (by kernel_rfl) (by kernel_rfl) (by kernel_rfl) (fun _ _ _ h => h) (Or.inl ⟨by rfl, ?ygz2⟩) hS ?_
      case ygz2 =>
        intro w hSw
        have j := HXC.out w hSw
        go_simp; all_goals (with_reducible rfl)
      simp only [Act.put, List.setIfInBounds_toArray, List.set_cons_zero, List.set_cons_succ]
      refine wpAnyH_take (i := 2) (oi := { dst := some 62, op := Op.call { callee := Callee.builtin Builtin.len, args := #[Operand.tmp 61], argTypes := #[26] }, type := 3, pos := "header.go:105", after := #[{ on := 1, ground := Ground.data }], guard := none }) (v := ?vgz3) rfl (by kernel_rfl) (by kernel_rfl) (by kernel_rfl) (fun _ _ _ h => h) (Or.inl ⟨by rfl, ?ygz3⟩) hS ?_
      case ygz3 =>
        intro w hSw
        go_simp; all_goals (with_reducible rfl)
      simp only [Act.put, List.setIfInBounds_toArray, List.set_cons_zero, List.set_cons_succ]
      refine wpAnyH_ready (rs := [3]) (by kernel_rfl) (by simp) ?_
      refine (AllReadyH.cons (o := { dst := some 63, op := Op.makeSlice 26 (Operand.tmp 62) (Operand.tmp 62), type := 26, pos := "header.go:105", after := #[{ on := 2, ground := Ground.data }, { on := 2, ground := Ground.data }], guard := none }) rfl (fun K hK => ?_) AllReadyH.nil)
      refine step_make_zeros rfl (.tmp 62) (.tmp 62) rfl w6.heap.size l4.length w6.drew rfl rfl HL4.out (Nat.le_refl _) ?_
      intro w7 ho7 hg7
      have g7 : Below w6.heap.size w6 w7 := hdr.trans (below_grown (Below.refl _ _) hg7 (Nat.le_refl _) (fun g e => by cases e))
      have HEQ := Lib.hid (HE.out (some ⟨w6.drew.heap.size, 0, none⟩) w7 g7 (zeros_bytes ho7))
      clear ho7 hg7
      simp only [Act.put, List.setIfInBounds_toArray, List.set_cons_zero, List.set_cons_succ]
      refine hK.out _ _ g7 (fun _ => ?_)
      clear hK K
      refine wpAnyH_ready (rs := [4]) (by kernel_rfl) (by simp) ?_
      refine (AllReadyH.cons (o := { dst := some 64, op := Op.call { callee := Callee.value (Operand.func 27), args := #[Operand.tmp 60, Operand.tmp 63], argTypes := #[26, 26] }, type := 4, pos := "header.go:105", after := #[{ on := 0, ground := Ground.data }, { on := 3, ground := Ground.data }], guard := none }) rfl (fun K hK => ?_) AllReadyH.nil)
      go_simp
      refine HEQ.out.mono ?_
      rintro e w8 ⟨rfl, rfl⟩
      go_wp2_with fail
      refine hK.out _ _ g7 (fun _ => ?_)
      clear hK K
      refine wpAnyH_ready (rs := [5]) (by kernel_rfl) (by simp) ?_
      refine (AllReadyH.cons (o := { dst := some 65, op := Op.unOp UnOp.not 4 (Operand.tmp 64), type := 4, pos := "header.go:105", after := #[{ on := 4, ground := Ground.data }], guard := none }) rfl (fun K hK => ?_) AllReadyH.nil)
      go_simp
      refine hK.out _ _ g7 (fun _ => ?_)
      clear hK K
      refine wpAnyH_done (by kernel_rfl) ?_ _
      have HB07 := Lib.hid (hb06.trans (g7.mono hb06.size))
      have hr7 : Blk4 w.heap.size w7 (.int .i64 0) (.int .i64 0) (.slice none 0 0) (.int .u32 0) := (g7.block _ (by have := HRR6.out; have h9 := hb06.size; have h8 := (Array.getElem?_eq_some_iff.1 this).1; exact h8)).trans HRR6.out
      have HR7 := Lib.hid hr7
      obtain ⟨z0, z1, z2, z3⟩ := hr7.cells
      have zf0 := hr7.frozen 0
      have zf1 := hr7.frozen 1
      have zf2 := hr7.frozen 2
      have zf3 := hr7.frozen 3
      cases v with
      | false =>
        have HF := Lib.hid (show getHd l = (zeroH, 0, 5) by
          have e : partsM s l2 = (zeroH, 5) := by rw [HPAR.out, if_pos rfl]
          rw [HGD2.out, e]; rfl)
        clear hr7
        go_wp2_with fail
        obtain ⟨k0, k1, k2, k3⟩ := Blk4.ret HR7.out (.int .i64 0) (.int .i64 0) (.slice none 0 0) (.int .u32 0)
        exact bodyPost_ret (v := .tuple #[.agg #[.int .i64 0, .int .i64 0, .slice none 0 0, .int .u32 0], .int .i64 0, .int .i64 5]) (by simp [results, Tryd.results9, go_sem, k0, k1, k2, k3]) rfl (HdGetDone.err HF.out (HRET.out w7 HB07.out _ _ _ _))
      | true =>
        have HF := Lib.hid (show getHd l = (⟨p', q', acc.take s4, d5⟩, p + 4, 0) by
          have e : partsM s l2 = (⟨p', q', acc.take s4, (acc.getD s4 ⟨0, 0⟩).n⟩, 0) := by rw [HPAR.out, if_neg (by simp)]
          rw [HGD2.out, e, HD5.out]; rfl)
        have hh7 : Blk4 w3.heap.size w7 (.int .i64 p') (.int .i64 q') (.slice A5 s4 c5) (.int .u32 (d5 : Nat)) := (g7.block _ (Array.getElem?_eq_some_iff.1 HH6.out).1).trans HH6.out
        obtain ⟨y0, y1, y2, y3⟩ := hh7.cells
        clear hr7 hh7
        go_wp2_with fail
        obtain ⟨k0, k1, k2, k3⟩ := Blk4.ret HR7.out (.int .i64 p') (.int .i64 q') (.slice A5 s4 c5) (.int .u32 (d5 : Nat))
        have hrne : ∀ a, A5 = some a → a.block ≠ w.heap.size := fun a e => by have := hA5 a e; omega
        have hfin := HdGetDone.yes (w := w) (l := l) (A := A5) (c := c5) HF.out (HRET.out w7 HB07.out (.int .i64 p') (.int .i64 q') (.slice A5 s4 c5) (.int .u32 (d5 : Nat))) (((((HFF6.out.below g7).set hrne _).set hrne _).set hrne _).set hrne _) (by show (acc.take s4).length ≤ c5; rw [HLEN.out]; exact hsc) hcm5
        have hfin2 : HdGetDone w (getHd l) (.returned (.tuple #[.agg #[.int .i64 p', .int .i64 q', .slice A5 s4 c5, .int .u32 (d5 : Nat)], .int .i64 ((p : Int) + 4), .int .i64 0])) ((((w7.setCell ⟨w.heap.size, 0, none⟩ (.int .i64 p')).setCell ⟨w.heap.size, 1, none⟩ (.int .i64 q')).setCell ⟨w.heap.size, 2, none⟩ (.slice A5 s4 c5)).setCell ⟨w.heap.size, 3, none⟩ (.int .u32 (d5 : Nat))) := by
          simp only [headV, HLEN.out] at hfin
          exact hfin
        exact bodyPost_ret (v := .tuple #[.agg #[.int .i64 p', .int .i64 q', .slice A5 s4 c5, .int .u32 (d5 : Nat)], .int .i64 ((p : Int) + 4), .int .i64 0]) (by simp [results, Tryd.results9, go_sem, k0, k1, k2, k3]) rfl hfin2
end Go.Proofs.YtaggkcgeddoogaaDoor
