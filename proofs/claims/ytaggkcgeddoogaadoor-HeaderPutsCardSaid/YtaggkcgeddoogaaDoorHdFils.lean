/- header.readFilters. -/
import Derived.Test.YtaggkcgeddoogaaDoorHdOne
namespace Go.Proofs.YtaggkcgeddoogaaDoor
open Go.RowKit

theorem readL_id (id : Int) (l : List UInt8) (g : Fil) (h : readL id l = some g) : g.id = id := by
  unfold readL at h
  split at h
  · rename_i e
    split at h
    · split at h
      · injection h with h; subst h; exact e.symm
      · cases h
    · cases h
  · split at h
    · rename_i e
      split at h
      · injection h with h; subst h; exact e.symm
      · cases h
    · split at h
      · split at h
        · injection h with h; subst h; rfl
        · split at h
          · injection h with h; subst h; rfl
          · cases h
        · cases h
      · cases h
theorem oneM_ok (l : List UInt8) : (oneM l).1.ok ∧ (oneM l).2.1.length ≤ l.length := by
  have hz : Fil.ok ⟨0, 0⟩ := ⟨by show (-9223372036854775808 : Int) ≤ 0; omega, by show (0 : Int) ≤ 9223372036854775807; omega, by show 0 < 4294967296; omega⟩
  unfold oneM
  split
  · exact ⟨hz, by simp⟩
  · rename_i id l1 h1
    split
    · exact ⟨hz, by simp⟩
    · rename_i n l2 h2
      split
      · exact ⟨hz, by simp⟩
      · split
        · exact ⟨hz, by simp⟩
        · rename_i hid
          split
          · exact ⟨hz, by simp⟩
          · rename_i f hf
            refine ⟨⟨?_, ?_, readL_lt _ _ _ hf⟩, ?_⟩
            · have := readL_id _ _ _ hf; rw [this]; omega
            · have := readL_id _ _ _ hf; rw [this]; omega
            · have h3 := (next_some h1).2.1
              have h4 := (next_some h2).2.1
              simp only [List.length_drop]; omega
def HFilsDone (bo many : Nat) (l : List UInt8) (w : World) (e : Ending) (w' : World) : Prop :=
  ∃ A c d, e = .returned (.tuple #[.slice A (if (filsM many (many + 1) 0 l []).2.2 = 0 then many else 0) c, .int .u32 (d : Nat), .int .i64 ((filsM many (many + 1) 0 l []).2.2 : Nat)]) ∧ Below bo w w' ∧ KeepOld bo w w' ∧
    ((filsM many (many + 1) 0 l []).2.2 ≠ 0 → A = none ∧ c = 0 ∧ d = 0) ∧
    ((filsM many (many + 1) 0 l []).2.2 = 0 → Rest bo w' (filsM many (many + 1) 0 l []).2.1 ∧ Fils w' A ((filsM many (many + 1) 0 l []).1.take many) ∧ d = ((filsM many (many + 1) 0 l []).1.getD many ⟨0, 0⟩).n ∧ many ≤ c ∧ c ≤ 9223372036854775807 ∧ (∀ a, A = some a → w.heap.size ≤ a.block))
theorem HFilsDone.err {bo many er : Nat} {l : List UInt8} {w w' : World} (h : filsM many (many + 1) 0 l [] = ([], [], er)) (h0 : er ≠ 0) (hb : Below bo w w') (hk : KeepOld bo w w') : HFilsDone bo many l w (.returned (.tuple #[.slice none 0 0, .int .u32 0, .int .i64 (er : Nat)])) w' := by
  unfold HFilsDone
  rw [h]
  exact ⟨none, 0, 0, by rw [if_neg h0]; rfl, hb, hk, fun _ => ⟨rfl, rfl, rfl⟩, fun h => absurd h h0⟩
theorem HFilsDone.yes {bo many c d : Nat} {A : Option Addr} {l l' : List UInt8} {acc : List Fil} {w w' : World} (h : filsM many (many + 1) 0 l [] = (acc, l', 0)) (hb : Below bo w w') (hk : KeepOld bo w w') (hr : Rest bo w' l') (hf : Fils w' A (acc.take many)) (hd : d = (acc.getD many ⟨0, 0⟩).n)
    (hc : many ≤ c) (hm : c ≤ 9223372036854775807) (hA : ∀ a, A = some a → w.heap.size ≤ a.block) : HFilsDone bo many l w (.returned (.tuple #[.slice A many c, .int .u32 (d : Nat), .int .i64 0])) w' := by
  unfold HFilsDone
  rw [h]
  exact ⟨A, c, d, rfl, hb, hk, fun h => absurd rfl h, fun _ => ⟨hr, hf, hd, hc, hm, hA⟩⟩
set_option maxRecDepth 100000 in
set_option maxHeartbeats 2000000 in
theorem hfils_any (bo many : Nat) (l : List UInt8) (w : World) (hR : Rest bo w l) (hl : l.length ≤ 1000000) (hm : many ≤ 3) :
    Calls Tryd.prog 26 #[.int .i64 (many : Nat), .func (.func 22) #[] #[.pointer (some ⟨bo, 0, none⟩)], .func (.func 24) #[] #[.pointer (some ⟨bo, 0, none⟩)]] w (HFilsDone bo many l w) := by
  have hlt := hR.lt
  have hmi : (many : Int) ≤ 3 := by omega
  go_enter Tryd.func26, Tryd.ntmps26
  go_wp2_with fail
  go_loopw [9, 15] (fun lv i wr => ∃ (j : Nat) (lq : List UInt8) (acc : List Fil), j ≤ many + 1 ∧ i = .int .i64 (j : Nat) ∧ Hid (filsM many (many + 1) 0 l [] = filsM many (many + 1 - j) j lq acc) ∧ Hid (OwnF w.heap.size wr lv acc) ∧ acc.length = j ∧ Hid (∀ f ∈ acc, f.ok) ∧ Hid (Rest bo wr lq) ∧ lq.length ≤ l.length ∧ Hid (Below bo w wr) ∧ Hid (KeepOld bo w wr)) (fun _ i _ => many + 1 - (intOf i).toNat)
  case atStart => exact ⟨0, l, [], by omega, rfl, Lib.hid rfl, Lib.hid (OwnF.nil _ _), rfl, Lib.hid (by simp), Lib.hid hR, by omega, Lib.hid (Below.refl _ _), Lib.hid ⟨Nat.le_refl _, fun _ _ _ => rfl⟩⟩
  case round =>
    obtain ⟨j, lq, acc, hj, rfl, HGO, HOW, hacc, HOK, HRE, hlq, HBR, HKO⟩ := hrel
    by_cases hjl : j < many + 1
    · have hji : (j : Int) < (many : Int) + 1 := by omega
      have HO := Lib.hid (hone_any bo lq wr HRE.out (by omega))
      have hfx : many + 1 - j = (many - j) + 1 := by omega
      rw [hfx] at HGO
      have HE := Lib.hid (HGO.out.trans (filsM_more many (many - j) j lq acc))
      have HOKF := Lib.hid (oneM_ok lq)
      have HD1 := Lib.hid (show HOneDone bo lq wr = fun e w' => e = .returned (.tuple #[(oneM lq).1.agg, .int .i64 ((oneM lq).2.2 : Nat)]) ∧ Below bo wr w' ∧ KeepOld bo wr w' ∧ ((oneM lq).2.2 = 0 → Rest bo w' (oneM lq).2.1) from rfl)
      rw [HD1.out] at HO
      clear HD1 hfx HGO
      generalize oneM lq = R1 at *
      obtain ⟨⟨fid, fn⟩, l', er⟩ := R1
      go_wp2_with fail
      refine HO.out.mono ?_
      rintro e w1 ⟨rfl, hb1, hk1, hr1⟩
      have HB1 := Lib.hid (HBR.out.trans hb1)
      have HK1 := Lib.hid (HKO.out.trans hk1)
      have hzz := HKO.out.1
      have hbA : Below bo w (w1.alloc (.cells #[.int .i64 fid, .int .u32 (fn : Nat)] 48)) := HB1.out.alloc (by have := HK1.out.1; omega) _
      have hkA : KeepOld bo w (w1.alloc (.cells #[.int .i64 fid, .int .u32 (fn : Nat)] 48)) := HK1.out.trans (Below.old ((Below.refl _ _).alloc (Nat.le_refl _) _))
      by_cases he : er = 0
      · subst he
        have HR1 := Lib.hid (hr1 rfl)
        have HE1 : Hid (filsM many (many + 1) 0 l [] = if (fid == 33) != (j == many) then ([], [], 5) else filsM many (many - j) (j + 1) l' (acc ++ [⟨fid, fn⟩])) := Lib.hid HE.out
        have how1 : OwnF w.heap.size w1 u9 acc := HOW.out.keep (fun g e => hk1.2 g (HOW.out.lt g e).2 (fun e2 => by have := (HOW.out.lt g e).1; omega))
        obtain ⟨b2, hb2'⟩ : ∃ b2, (j == many) = b2 := ⟨_, rfl⟩
        obtain ⟨b1, hf33⟩ : ∃ b1, (fid == 33) = b1 := ⟨_, rfl⟩
        have hB2 : ((j : Int) == (many : Int)) = b2 := by rw [← hb2', Bool.eq_iff_iff]; simp; omega
        rw [hb2', hf33] at HE1
        clear hb2'
        have hrA := HR1.out.alloc (.cells #[.int .i64 fid, .int .u32 (fn : Nat)] 48)
        have howA := how1.alloc (.cells #[.int .i64 fid, .int .u32 (fn : Nat)] 48)
        have HA := Lib.hid (And.intro hbA (And.intro hkA (And.intro hrA howA)))
        have HEQ : b1 = b2 ∨ b1 ≠ b2 := by cases b1 <;> cases b2 <;> simp
        clear hbA hkA hrA howA how1 hr1 hb1 hk1 HE
        rcases HEQ with rfl | hne
        · have HE2 : Hid (filsM many (many + 1) 0 l [] = filsM many (many - j) (j + 1) l' (acc ++ [⟨fid, fn⟩])) := Lib.hid (by rw [HE1.out]; simp)
          have HWB : Hid (Below (w1.alloc (.cells #[.int .i64 fid, .int .u32 (fn : Nat)] 48)).heap.size (w1.alloc (.cells #[.int .i64 fid, .int .u32 (fn : Nat)] 48)) ((w1.alloc (.cells #[.int .i64 fid, .int .u32 (fn : Nat)] 48)).alloc (.cells #[.int .i64 fid, .int .u32 (fn : Nat)] 48))) := Lib.hid ((Below.refl _ _).alloc (Nat.le_refl _) _)
          obtain ⟨A9, c9, hu9, _, _, _⟩ := HA.out.2.2.2.read HOK.out
          have hF1 := fils_one (w1.alloc (.cells #[.int .i64 fid, .int .u32 (fn : Nat)] 48)) ⟨fid, fn⟩ HOKF.out.1
          rw [show (w1.alloc (.cells #[.int .i64 fid, .int .u32 (fn : Nat)] 48)).heap.size = w1.heap.size + 1 by simp] at hF1
          have howB := HA.out.2.2.2.alloc (.cells #[.int .i64 fid, .int .u32 (fn : Nat)] 48)
          have hbB := HA.out.1.alloc (by have := HA.out.2.1.1; omega) (.cells #[.int .i64 fid, .int .u32 (fn : Nat)] 48)
          have hkB := HA.out.2.1.trans (Below.old HWB.out)
          have hrB := HA.out.2.2.1.alloc (.cells #[.int .i64 fid, .int .u32 (fn : Nat)] 48)
          have HBB := Lib.hid (And.intro hbB (And.intro hkB hrB))
          have hszB := hkB.1
          have HSZ : Hid (acc.length + [(⟨fid, fn⟩ : Fil)].length ≤ 1000000) := Lib.hid (by simp; omega)
          clear hbB hkB hrB hu9
          cases b1
          all_goals
            go_wp2_with (at_builtin; refine wpList_append_fils rfl (.tmp 34) (.tmp 36) rfl w.heap.size _ u9 acc rfl howB (some ⟨w1.heap.size + 1, 0, none⟩) [⟨fid, fn⟩] 1 rfl hF1 HSZ.out hszB ?_; intro v2 w2 ho2 hg2)
            have hb2 : Below bo w w2 := below_grown HBB.out.1 hg2 (by have := HBB.out.2.1.1; omega) (fun g e => by have := (howB.lt g e).1; omega)
            have hk2 : KeepOld bo w w2 := ⟨Nat.le_trans HBB.out.2.1.1 hg2.size, fun g h1 h2 => (hg2.block g (by have := HBB.out.2.1.1; omega) (fun e => by have := (howB.lt g e.symm).1; omega)).trans (HBB.out.2.1.2 g h1 h2)⟩
            have hr2 : Rest bo w2 l' := HBB.out.2.2.keep (below_grown (Below.refl _ _) hg2 (by have := HBB.out.2.1.1; omega) (fun g e => by have := (howB.lt g e).1; omega))
            exact ⟨⟨j + 1, l', acc ++ [⟨fid, fn⟩], by omega, by go_num, Lib.hid (by rw [HE2.out]; congr 1; omega), Lib.hid ho2, by simp; omega, Lib.hid (fun f hf => by rcases List.mem_append.1 hf with h | h; exact HOK.out f h; rw [List.mem_singleton.1 h]; exact HOKF.out.1), Lib.hid hr2, Nat.le_trans HOKF.out.2 hlq, Lib.hid hb2, Lib.hid hk2⟩, by simp [intOf]; omega⟩
        · have HE2 : Hid (filsM many (many + 1) 0 l [] = ([], [], 5)) := Lib.hid (by rw [HE1.out, if_pos (by simpa using hne)])
          cases b1 <;> cases b2
          · exact absurd rfl hne
          · clear hne
            go_wp2_with fail
            go_ret3
            exact HFilsDone.err HE2.out (by decide) HA.out.1 HA.out.2.1
          · clear hne
            go_wp2_with fail
            go_ret3
            exact HFilsDone.err HE2.out (by decide) HA.out.1 HA.out.2.1
          · exact absurd rfl hne
      · have HE2 : Hid (filsM many (many + 1) 0 l [] = ([], [], er)) := Lib.hid (by rw [HE.out, if_pos he])
        have hei : (0 : Int) < (er : Int) := by omega
        have HEZ := Lib.hid he
        have HAA := Lib.hid (And.intro hbA hkA)
        clear he hbA hkA
        go_wp2_with fail
        go_ret3
        exact HFilsDone.err HE2.out HEZ.out HAA.out.1 HAA.out.2
    · obtain rfl : j = many + 1 := by omega
      rw [Nat.sub_self] at HGO
      have HGO' : Hid (filsM many (many + 1) 0 l [] = (acc, lq, 0)) := Lib.hid HGO.out
      obtain ⟨A9, c9, rfl, hc9, hm9, hF9⟩ := HOW.out.read HOK.out
      obtain ⟨b, off, rfl, hb9, hat⟩ := hF9.addr (by omega)
      have hfj := hat many (by omega)
      have hgd : acc.getD many ⟨0, 0⟩ = acc[many] := by simp [List.getD, show many < acc.length by omega]
      have HGD := Lib.hid hgd
      have hbge : w.heap.size ≤ b := (HOW.out.lt b rfl).1
      have HCL := Lib.hid (fun (w' : World) (hb : Below wr.heap.size wr w') => (hb.cell (p := ⟨b, off + many * 2 + 1, none⟩) hb9).trans hfj.c1)
      have hft : Fils wr (some ⟨b, off, none⟩) (acc.take many) := by
        refine .inr ⟨b, off, rfl, hb9, fun i hi => ?_⟩
        have h2 := hat i (by rw [List.length_take] at hi; omega)
        rw [List.getElem_take]
        exact h2
      have HFT := Lib.hid hft
      generalize acc[many] = f9 at *
      obtain ⟨id9, n9⟩ := f9
      rw [hacc]
      have hmc : (many : Int) + 1 ≤ (c9 : Int) := by omega
      have HC := Lib.hid (show (many : Int) ≤ (c9 : Int) ∧ (many : Int) < (many : Int) + 1 ∧ (0 : Int) ≤ (many : Int) by omega)
      have hdr : Below wr.heap.size wr wr.drew := below_drew wr
      clear hgd hft hfj hat hF9 HGO hjl HOW
      go_wp2_with fail
      refine wp_region_held_drew (S := fun w' => Below wr.heap.size wr w') (by kernel_rfl) hdr (fun hS => ?_)
      refine wpAnyH_take (i := 0) (oi := { dst := some 39, op := Op.move (Operand.tmp 9), type := 22, pos := "header.go:162", after := #[], guard := none }) (v := ?vfi1) rfl (by kernel_rfl) (by kernel_rfl) (by kernel_rfl) (fun _ _ _ h => h) (Or.inl ⟨by rfl, ?yfi1⟩) hS ?_
      case yfi1 =>
        intro w hSw
        go_simp; all_goals (with_reducible rfl)
      simp only [Act.put, List.setIfInBounds_toArray, List.set_cons_zero, List.set_cons_succ]
      refine wpAnyH_take (i := 1) (oi := { dst := some 40, op := Op.move (Operand.tmp 0), type := 3, pos := "header.go:162", after := #[], guard := none }) (v := ?vfi2) rfl (by kernel_rfl) (by kernel_rfl) (by kernel_rfl) (fun _ _ _ h => h) (Or.inl ⟨by rfl, ?yfi2⟩) hS ?_
      case yfi2 =>
        intro w hSw
        go_simp; all_goals (with_reducible rfl)
      simp only [Act.put, List.setIfInBounds_toArray, List.set_cons_zero, List.set_cons_succ]
      refine wpAnyH_take (i := 2) (oi := { dst := some 41, op := Op.slice 22 (Operand.tmp 39) none (some (Operand.tmp 40)) none, type := 22, pos := "header.go:162", after := #[{ on := 0, ground := Ground.data }, { on := 1, ground := Ground.data }], guard := none }) (v := ?vfi3) rfl (by kernel_rfl) (by kernel_rfl) (by kernel_rfl) (fun _ _ _ h => h) (Or.inl ⟨by rfl, ?yfi3⟩) hS ?_
      case yfi3 =>
        intro w hSw
        obtain ⟨i1, i2, i3⟩ := HC.out
        go_simp; all_goals (with_reducible rfl)
      simp only [Act.put, List.setIfInBounds_toArray, List.set_cons_zero, List.set_cons_succ]
      refine wpAnyH_take (i := 3) (oi := { dst := some 42, op := Op.move (Operand.tmp 9), type := 22, pos := "header.go:162", after := #[{ on := 8, ground := Ground.gcOnly Departure.lateStores }], guard := none }) (v := ?vfi4) rfl (by kernel_rfl) (by kernel_rfl) (by kernel_rfl) (fun _ _ _ h => h) (Or.inl ⟨by rfl, ?yfi4⟩) hS ?_
      case yfi4 =>
        intro w hSw
        go_simp; all_goals (with_reducible rfl)
      simp only [Act.put, List.setIfInBounds_toArray, List.set_cons_zero, List.set_cons_succ]
      refine wpAnyH_take (i := 4) (oi := { dst := some 43, op := Op.move (Operand.tmp 0), type := 3, pos := "header.go:162", after := #[{ on := 8, ground := Ground.gcOnly Departure.lateStores }], guard := none }) (v := ?vfi5) rfl (by kernel_rfl) (by kernel_rfl) (by kernel_rfl) (fun _ _ _ h => h) (Or.inl ⟨by rfl, ?yfi5⟩) hS ?_
      case yfi5 =>
        intro w hSw
        go_simp; all_goals (with_reducible rfl)
      simp only [Act.put, List.setIfInBounds_toArray, List.set_cons_zero, List.set_cons_succ]
      refine wpAnyH_take (i := 5) (oi := { dst := some 44, op := Op.indexAddr 22 (Operand.tmp 42) (Operand.tmp 43), type := 0, pos := "header.go:162", after := #[{ on := 3, ground := Ground.data }, { on := 4, ground := Ground.data }, { on := 8, ground := Ground.gcOnly Departure.lateStores }], guard := none }) (v := ?vfi6) rfl (by kernel_rfl) (by kernel_rfl) (by kernel_rfl) (fun _ _ _ h => h) (Or.inl ⟨by rfl, ?yfi6⟩) hS ?_
      case yfi6 =>
        intro w hSw
        obtain ⟨i1, i2, i3⟩ := HC.out
        go_simp; all_goals (with_reducible rfl)
      simp only [Act.put, List.setIfInBounds_toArray, List.set_cons_zero, List.set_cons_succ]
      refine wpAnyH_take (i := 6) (oi := { dst := some 45, op := Op.fieldAddr 48 (Operand.tmp 44) 1, type := 0, pos := "header.go:162", after := #[{ on := 5, ground := Ground.data }, { on := 8, ground := Ground.gcOnly Departure.lateStores }], guard := none }) (v := ?vfi7) rfl (by kernel_rfl) (by kernel_rfl) (by kernel_rfl) (fun _ _ _ h => h) (Or.inl ⟨by rfl, ?yfi7⟩) hS ?_
      case yfi7 =>
        intro w hSw
        go_simp; all_goals (with_reducible rfl)
      simp only [Act.put, List.setIfInBounds_toArray, List.set_cons_zero, List.set_cons_succ]
      refine wpAnyH_take (i := 7) (oi := { dst := some 46, op := Op.load 23 (Operand.tmp 45), type := 23, pos := "header.go:162", after := #[{ on := 6, ground := Ground.data }, { on := 8, ground := Ground.gcOnly Departure.lateStores }], guard := none }) (v := ?vfi8) rfl (by kernel_rfl) (by kernel_rfl) (by kernel_rfl) (fun _ _ _ h => h) (Or.inl ⟨by rfl, ?yfi8⟩) hS ?_
      case yfi8 =>
        intro w hSw
        have j2 := HCL.out w hSw
        go_simp; all_goals (with_reducible rfl)
      simp only [Act.put, List.setIfInBounds_toArray, List.set_cons_zero, List.set_cons_succ]
      refine wpAnyH_take (i := 8) (oi := { dst := some 6, op := Op.assign (Operand.tmp 41), type := 22, pos := "header.go:162", after := #[{ on := 2, ground := Ground.data }, { on := 0, ground := Ground.phase }, { on := 1, ground := Ground.phase }, { on := 2, ground := Ground.phase }, { on := 3, ground := Ground.textOnly Departure.lateStores }, { on := 4, ground := Ground.textOnly Departure.lateStores }, { on := 5, ground := Ground.textOnly Departure.lateStores }, { on := 6, ground := Ground.textOnly Departure.lateStores }, { on := 7, ground := Ground.textOnly Departure.lateStores }], guard := none }) (v := ?vfi9) rfl (by kernel_rfl) (by kernel_rfl) (by kernel_rfl) (fun _ _ _ h => h) (Or.inl ⟨by rfl, ?yfi9⟩) hS ?_
      case yfi9 =>
        intro w hSw
        go_simp; all_goals (with_reducible rfl)
      simp only [Act.put, List.setIfInBounds_toArray, List.set_cons_zero, List.set_cons_succ]
      refine wpAnyH_take (i := 9) (oi := { dst := some 7, op := Op.assign (Operand.tmp 46), type := 23, pos := "header.go:162", after := #[{ on := 7, ground := Ground.data }, { on := 8, ground := Ground.chain }, { on := 0, ground := Ground.phase }, { on := 1, ground := Ground.phase }, { on := 2, ground := Ground.phase }, { on := 3, ground := Ground.phase }, { on := 4, ground := Ground.phase }, { on := 5, ground := Ground.phase }, { on := 6, ground := Ground.phase }, { on := 7, ground := Ground.phase }, { on := 8, ground := Ground.phase }], guard := none }) (v := ?vfi10) rfl (by kernel_rfl) (by kernel_rfl) (by kernel_rfl) (fun _ _ _ h => h) (Or.inl ⟨by rfl, ?yfi10⟩) hS ?_
      case yfi10 =>
        intro w hSw
        go_simp; all_goals (with_reducible rfl)
      simp only [Act.put, List.setIfInBounds_toArray, List.set_cons_zero, List.set_cons_succ]
      refine wpAnyH_take (i := 10) (oi := { dst := some 8, op := Op.assign (Operand.const (Value.int IntKind.i64 0)), type := 28, pos := "header.go:162", after := #[{ on := 9, ground := Ground.chain }, { on := 0, ground := Ground.phase }, { on := 1, ground := Ground.phase }, { on := 2, ground := Ground.phase }, { on := 3, ground := Ground.phase }, { on := 4, ground := Ground.phase }, { on := 5, ground := Ground.phase }, { on := 6, ground := Ground.phase }, { on := 7, ground := Ground.phase }, { on := 8, ground := Ground.phase }, { on := 9, ground := Ground.phase }], guard := none }) (v := ?vfi11) rfl (by kernel_rfl) (by kernel_rfl) (by kernel_rfl) (fun _ _ _ h => h) (Or.inl ⟨by rfl, ?yfi11⟩) hS ?_
      case yfi11 =>
        intro w hSw
        go_simp; all_goals (with_reducible rfl)
      simp only [Act.put, List.setIfInBounds_toArray, List.set_cons_zero, List.set_cons_succ]
      refine wpAnyH_done (by kernel_rfl) ?_ _
      go_wp2_with fail
      go_ret3
      exact HFilsDone.yes HGO'.out (HBR.out.trans (hdr.mono (by have := HKO.out.1; omega))) (HKO.out.trans (Below.old hdr)) (HRE.out.keep (hdr.mono (by have := HKO.out.1; omega))) (HFT.out.below hdr) (by rw [HGD.out]) (by omega) hm9 (fun a e => by injection e with e; subst e; exact hbge)
end Go.Proofs.YtaggkcgeddoogaaDoor
