/- Several texts in one: FdPairs, FdBefore, FdClone. -/
import Derived.Test.YtkckjjchfccdjaaMg1
import Derived.Test.YtkckjjchfccdjaaMg20
import Derived.Deep.RegionHeld3
import Derived.Deep.DeepCutAuto
import Derived.Test.YtkckjjchfccdjaaMg19
import Derived.Test.YtkckjjchfccdjaaMg18
/- The finder's pairPlaces. -/
namespace Go.Proofs.Ytkckjjchfccdjaa
set_option maxRecDepth 100000
open Go.RowKit Go.Maps

theorem elem32 : Elem 78 21 (.int .i32 0) 4 := ⟨Try.underlying78, by kernel_rfl, rfl⟩
set_option maxRecDepth 100000 in
set_option maxHeartbeats 2000000 in
theorem pairPlaces_any (A : Option Addr) (l : List UInt8) (c n : Nat) (w : World) (hB : Bytes w A l) (hc : l.length ≤ c) (hl : l.length ≤ 100000) (hn : n = l.length - 1) :
    Calls Try.prog 30 #[.slice A l.length c] w fun e w' => e = .returned (.map (some w.heap.size)) ∧ PairsAt w' w.heap.size l n ∧ Below w.heap.size w w' := by
  have hci : (l.length : Int) ≤ (c : Int) := by omega
  have hli : (l.length : Int) ≤ 100000 := by omega
  have hni : (n : Int) ≤ 100000 := by omega
  have HBY := Lib.hid hB
  have HN := Lib.hid hn
  have hmm : ∀ w : World, (Instr.makeMap 77 none).run Try.prog w = .ok (.map (some w.heap.size)) (w.alloc (.map #[] 0)) := fun w => run_makeMap _ w
  clear hB hn hl hc
  go_enter Try.func30, Try.ntmps30
  go_wp2_with fail
  have HMP : Hid (PairsAt (w.alloc (.map #[] 0)) w.heap.size l 0) := Lib.hid (PairsAt.made w l)
  have HB1 : Hid (Below w.heap.size w (w.alloc (.map #[] 0))) := Lib.hid ((Below.refl _ _).alloc (Nat.le_refl _) _)
  clear hmm
  go_loopw [10] (fun i wr => ∃ k : Nat, k ≤ n ∧ i = .int .i64 (k : Nat) ∧ Hid (PairsAt wr w.heap.size l k) ∧ Hid (Below w.heap.size w wr)) (fun i _ => n - (intOf i).toNat)
  case atStart => exact ⟨0, by omega, rfl, HMP, HB1⟩
  case round =>
    obtain ⟨k, hk, rfl, HL, HB⟩ := hrel
    by_cases hkl : k < n
    · have hki : (k : Int) < (l.length : Int) - 1 := by have := HN.out; omega
      obtain ⟨b, off, rfl, hbl, hat⟩ := (HBY.out.below HB.out).addr (by omega)
      have hx0 := hat k (by omega)
      have hx1 := hat (k + 1) (by omega)
      have e0 := getD_of (d := l) (i := k) (by omega)
      have e1 := getD_of (d := l) (i := k + 1) (by omega)
      generalize l[k]'(by omega) = z0 at *
      generalize l[k + 1]'(by omega) = z1 at *
      obtain ⟨y1, hy1⟩ : ∃ y : Nat, k + 1 = y := ⟨_, rfl⟩
      rw [hy1] at hx1
      have k1 : (k : Int) + 1 = (y1 : Int) := by omega
      have l1 : (y1 : Int) < (l.length : Int) := by omega
      have l0 : (k : Int) < (l.length : Int) := by omega
      have HC := Lib.hid (fun (wx : World) (h : wx.heap[b]? = wr.heap[b]?) => (show wx.cell? ⟨b, off + k, none⟩ = some (.int .u8 (z0.toNat : Nat)) ∧ wx.cell? ⟨b, off + y1, none⟩ = some (.int .u8 (z1.toNat : Nat)) from by
        refine ⟨?_, ?_⟩
        · rw [← hx0]; unfold World.cell?; rw [h]
        · rw [← hx1]; unfold World.cell?; rw [h]))
      have v1 : IntKind.i64.wrap (y1 : Int) = (y1 : Int) := IntWalk.i64_in _ (by omega)
      have HE := Lib.hid (And.intro e0 e1)
      clear hat e0 e1 hy1 hx0 hx1
      go_wp2_with fail
      refine wp_region_held_drew (S := fun w2 => w2.heap[b]? = wr.drew.heap[b]?) (by kernel_rfl) rfl (fun hS => ?_)
      refine tk 0 (v := ?vsf1) ?ysf1 hS ?_
      case ysf1 =>
        intro w hSw
        obtain ⟨i0, i1⟩ := HC.out w hSw
        go_simp; all_goals (with_reducible rfl)
      simp only [Act.put, List.setIfInBounds_toArray, List.set_cons_zero, List.set_cons_succ]
      refine tk 1 (v := ?vsf2) ?ysf2 hS ?_
      case ysf2 =>
        intro w hSw
        obtain ⟨i0, i1⟩ := HC.out w hSw
        go_simp; all_goals (with_reducible rfl)
      simp only [Act.put, List.setIfInBounds_toArray, List.set_cons_zero, List.set_cons_succ]
      refine tk 2 (v := ?vsf3) ?ysf3 hS ?_
      case ysf3 =>
        intro w hSw
        obtain ⟨i0, i1⟩ := HC.out w hSw
        go_simp; all_goals (with_reducible rfl)
      simp only [Act.put, List.setIfInBounds_toArray, List.set_cons_zero, List.set_cons_succ]
      refine tk 3 (v := ?vsf4) ?ysf4 hS ?_
      case ysf4 =>
        intro w hSw
        obtain ⟨i0, i1⟩ := HC.out w hSw
        go_simp; all_goals (with_reducible rfl)
      simp only [Act.put, List.setIfInBounds_toArray, List.set_cons_zero, List.set_cons_succ]
      refine tk 4 (v := ?vsf5) ?ysf5 hS ?_
      case ysf5 =>
        intro w hSw
        obtain ⟨i0, i1⟩ := HC.out w hSw
        go_simp; all_goals (with_reducible rfl)
      simp only [Act.put, List.setIfInBounds_toArray, List.set_cons_zero, List.set_cons_succ]
      refine tk 5 (v := ?vsf6) ?ysf6 hS ?_
      case ysf6 =>
        intro w hSw
        obtain ⟨i0, i1⟩ := HC.out w hSw
        go_simp; all_goals (with_reducible rfl)
      simp only [Act.put, List.setIfInBounds_toArray, List.set_cons_zero, List.set_cons_succ]
      refine tk 6 (v := ?vsf7) ?ysf7 hS ?_
      case ysf7 =>
        intro w hSw
        obtain ⟨i0, i1⟩ := HC.out w hSw
        go_simp; all_goals (with_reducible rfl)
      simp only [Act.put, List.setIfInBounds_toArray, List.set_cons_zero, List.set_cons_succ]
      refine tk 7 (v := ?vsf8) ?ysf8 hS ?_
      case ysf8 =>
        intro w hSw
        obtain ⟨i0, i1⟩ := HC.out w hSw
        go_simp; all_goals (with_reducible rfl)
      simp only [Act.put, List.setIfInBounds_toArray, List.set_cons_zero, List.set_cons_succ]
      refine tk 8 (v := ?vsf9) ?ysf9 hS ?_
      case ysf9 =>
        intro w hSw
        obtain ⟨i0, i1⟩ := HC.out w hSw
        go_simp; all_goals (with_reducible rfl)
      simp only [Act.put, List.setIfInBounds_toArray, List.set_cons_zero, List.set_cons_succ]
      refine tk 9 (v := ?vsf10) ?ysf10 hS ?_
      case ysf10 =>
        intro w hSw
        obtain ⟨i0, i1⟩ := HC.out w hSw
        go_simp; all_goals (with_reducible rfl)
      simp only [Act.put, List.setIfInBounds_toArray, List.set_cons_zero, List.set_cons_succ]
      refine wpAnyH_ready (rs := [10]) (by kernel_rfl) (by simp) ?_
      refine (AllReadyH.cons (o := { dst := some 5, op := Op.alloc 122, type := 0, pos := "finder.go:114", after := #[], guard := none }) rfl (fun K hK => ?_) AllReadyH.nil)
      go_simp
      refine hK.out _ _ (Below.heap_alloc _ _ _ hbl) (fun _ => ?_)
      clear hK K
      refine wpAnyH_ready (rs := [11]) (by kernel_rfl) (by simp) ?_
      refine (AllReadyH.cons (o := { dst := none, op := Op.store 122 (Operand.tmp 5) (Operand.tmp 22), type := 0, pos := "finder.go:114", after := #[{ on := 10, ground := Ground.data }, { on := 9, ground := Ground.data }, { on := 0, ground := Ground.phase }, { on := 1, ground := Ground.phase }, { on := 2, ground := Ground.phase }, { on := 3, ground := Ground.phase }, { on := 4, ground := Ground.phase }, { on := 5, ground := Ground.phase }, { on := 6, ground := Ground.phase }, { on := 7, ground := Ground.phase }, { on := 8, ground := Ground.phase }, { on := 9, ground := Ground.phase }, { on := 10, ground := Ground.phase }], guard := none }) rfl (fun K hK => ?_) AllReadyH.nil)
      go_simp
      refine hK.out _ _ (Below.heap_alloc _ _ _ hbl) (fun _ => ?_)
      clear hK K
      refine wpAnyH_done (by kernel_rfl) ?_ _
      obtain ⟨W2, hW2⟩ : ∃ W2, (wr.alloc (.cells #[.int .u8 (z0.toNat : Nat), .int .u8 (z1.toNat : Nat)] 122)).drew = W2 := ⟨_, rfl⟩
      rw [hW2]
      have hb2 : Below wr.heap.size wr W2 := by
        rw [← hW2]
        have h := (Below.refl wr.heap.size wr).alloc (Nat.le_refl _) (.cells #[.int .u8 (z0.toNat : Nat), .int .u8 (z1.toNat : Nat)] 122)
        exact ⟨h.os, h.tape, h.output, h.size, h.block⟩
      have hbx : W2.heap[wr.heap.size]? = some (.cells #[.int .u8 (z0.toNat : Nat), .int .u8 (z1.toNat : Nat)] 122 (0, 0)) := by
        rw [← hW2]; exact heap_alloc_last _ _
      have x0 : W2.cell? ⟨wr.heap.size, 0, none⟩ = some (.int .u8 (z0.toNat : Nat)) := by rw [cell_of_row W2 _ _ _ _ _ hbx]; rfl
      have x1 : W2.cell? ⟨wr.heap.size, 1, none⟩ = some (.int .u8 (z1.toNat : Nat)) := by rw [cell_of_row W2 _ _ _ _ _ hbx]; rfl
      obtain ⟨W3, hW3⟩ : ∃ W3, W2.alloc (.cells #[.int .i32 (k : Nat)] 21) = W3 := ⟨_, rfl⟩
      have hb3 : Below wr.heap.size wr W3 := by rw [← hW3]; exact hb2.alloc hb2.size _
      have hsz3 : W3.heap.size = W2.heap.size + 1 := by rw [← hW3]; simp
      have hcn : W3.heap[W2.heap.size]? = some (.cells #[.int .i32 (k : Nat)] 21 (0, 0)) := by rw [← hW3]; exact heap_alloc_last _ _
      have hbw := HB.out.size
      have hl3 := HL.out.below hb3
      have hlt := hl3.lt
      obtain ⟨v, st, w1, hme, hg1, hown1, hst⟩ := hl3.entry (by omega)
      rw [HE.out.1, HE.out.2, ← hW3] at hme
      simp only [pairV, goInt] at hme
      have hlen := places_len l (l.getD k 0) (l.getD (k + 1) 0) k
      rw [HE.out.1, HE.out.2] at hown1 hst hlen
      have hlen2 : ((places l z0 z1 k).map (fun i => Value.int .i32 (i : Nat))).length ≤ 100000 := by rw [List.length_map]; omega
      obtain ⟨PL, hPL⟩ : ∃ PL, (places l z0 z1 k).map (fun i => Value.int .i32 (i : Nat)) = PL := ⟨_, rfl⟩
      rw [hPL] at hown1 hst hlen2
      have hbs := hb2.size
      have hcn1 : w1.heap[W2.heap.size]? = some (.cells #[.int .i32 (k : Nat)] 21 (0, 0)) := (hg1.block _ (by omega) (by
        have hwl : w.heap.size < wr.heap.size := HL.out.lt
        intro e; injection e with e; omega)).trans hcn
      have hlit : ∀ i (h : i < [Value.int .i32 (k : Nat)].length), w1.cell? ⟨W2.heap.size, i, none⟩ = some [Value.int .i32 (k : Nat)][i] := by
        intro i hi
        obtain rfl : i = 0 := by simpa using hi
        rw [cell_of_row _ _ _ _ _ _ hcn1]; rfl
      have HST := Lib.hid hst
      have HBW : Hid (Below w.heap.size w w1) := Lib.hid (below_grown (HB.out.trans (hb3.mono hbw)) hg1 (Nat.le_trans hbw hb3.size) (fun g e => by injection e with e; omega))
      have HOWN := Lib.hid hown1
      have HLIT := Lib.hid hlit
      have HSZ1 : Hid (w.heap.size + 1 ≤ w1.heap.size) := Lib.hid (Nat.le_trans (by omega) hg1.size)
      have HLEN := Lib.hid hlen2
      have HG1S := Lib.hid hg1.size
      clear hW2 hb2 hS hbx hW3 hb3 hsz3 hcn hl3 hg1 hown1 hst hlen hlen2 hPL hbs hcn1 hlit hlt hbw
      have hw32 : IntKind.i32.wrap (k : Int) = (k : Int) := by
        have e1 : IntKind.i32.min = -2147483648 := rfl
        have e2 : IntKind.i32.max = 2147483647 := rfl
        first | exact IntWalk.i32_in _ (by omega) | (unfold IntKind.wrap; simp; omega)
      go_wp2_with (at_builtin; refine wpList_append_vals elem32 rfl (.tmp 25) (.tmp 28) rfl (w.heap.size + 1) w1 v PL rfl HOWN.out W2.heap.size 1 1 [.int .i32 (k : Nat)] rfl rfl HLIT.out (by intro u hu; simp at hu; subst hu; rfl) (by have := HLEN.out; omega) (by have := HLEN.out; omega) HSZ1.out ?_; intro v' w2 hown2 hg2 hloc; obtain ⟨w3, hes, hp3, hg3⟩ := HST.out w2 v' hg2 hown2 (hloc.imp id fun e => ⟨_, e, HG1S.out⟩); simp only [goInt] at hes; have HP3 := Lib.hid hp3; have HB3 : Hid (Below w.heap.size w w3) := Lib.hid (below_grown (below_grown HBW.out hg2 HBW.out.size (fun g e => by have := (HOWN.out.lt g e).1; omega)) hg3 (Nat.le_trans HBW.out.size hg2.size) (fun g e => by injection e with e; omega)); clear hown2 hg2 hloc hp3 hg3)
      exact ⟨⟨k + 1, by omega, by rw [← k1]; rfl, HP3, HB3⟩, by simp [intOf]; omega⟩
    · obtain rfl : k = n := by omega
      have hki : ¬ (k : Int) < (l.length : Int) - 1 := by have := HN.out; omega
      have hki2 : decide ((k : Int) < (l.length : Int) - 1) = false := decide_eq_false hki
      clear HMP HB1
      go_wp2_with fail
      go_ret
      exact ⟨rfl, HL.out, HB.out⟩
end Go.Proofs.Ytkckjjchfccdjaa

/- The finder's beforePair. -/
namespace Go.Proofs.Ytkckjjchfccdjaa
set_option maxRecDepth 100000
open Go.RowKit Go.Maps

def PairDone (L : List Nat) (place : Nat) (w : World) (e : Ending) (w' : World) : Prop := ∃ (b1 b2 : Nat) (A : Option Addr) (c h : Nat), e = .returned (.func (.func 97) #[] #[PF b1, PF b2]) ∧ BoxAt b1 w' (.int .i64 (h : Nat)) ∧ BoxAt b2 w' (.slice A L.length c) ∧
  Read32 w' A L ∧ L.length ≤ c ∧ h ≤ L.length ∧ (∀ q (_ : q < L.length), q < h → L[q] < place) ∧ (∀ q (_ : q < L.length), h ≤ q → place ≤ L[q]) ∧ Below w.heap.size w w'
set_option maxRecDepth 100000 in
set_option maxHeartbeats 2000000 in
theorem beforePair_any (Fp : Nat) (A : Option Addr) (c : Nat) (d : List UInt8) (dict nice : Int) (mp : Nat) (v4 : Value) (place : Nat) (w : World) (hF : FinderAt w Fp A c d dict nice mp v4) (hP : PairsAt w mp d (d.length - 1)) (hp : place + 1 < d.length) :
    Calls Try.prog 86 #[PF Fp, .int .i64 (place : Nat)] w (PairDone (places d (d.getD place 0) (d.getD (place + 1) 0) (d.length - 1)) place w) := by
  have hli : (d.length : Int) ≤ 100000 := by have := hF.small; omega
  have hln : d.length ≤ 100000 := hF.small
  have hci : (d.length : Int) ≤ (c : Int) := by have := hF.cap; omega
  obtain ⟨y1, hy1⟩ : ∃ y : Nat, place + 1 = y := ⟨_, rfl⟩
  have k1 : (place : Int) + 1 = (y1 : Int) := by omega
  have l1 : (y1 : Int) < (d.length : Int) := by omega
  have l0 : (place : Int) < (d.length : Int) := by omega
  obtain ⟨b, off, rfl, hbl, _⟩ := hF.bytes.addr (by omega)
  have HC0 : Hid (∀ w2 : World, Below w.heap.size w w2 → w2.cell? ⟨b, off + place, none⟩ = some (.int .u8 ((d.getD place 0).toNat : Nat)) ∧ w2.cell? ⟨b, off + y1, none⟩ = some (.int .u8 ((d.getD y1 0).toNat : Nat))) := Lib.hid (fun w2 hb => by
    obtain ⟨b', off', e, _, hat⟩ := (hF.below hb).bytes.addr (by omega)
    injection e with e
    injection e with e1 e2
    subst e1; subst e2
    have h0 := hat place (by omega)
    have h1 := hat y1 (by omega)
    rw [← getD_of (d := d) (i := place) (by omega)] at h0
    rw [← getD_of (d := d) (i := y1) (by omega)] at h1
    exact ⟨h0, h1⟩)
  rw [hy1]
  generalize d.getD place 0 = z0 at *
  generalize d.getD y1 0 = z1 at *
  obtain ⟨PA, cp, hlook, hread, hcp, hcm⟩ := hP.look (by omega) z0 z1
  have hrise := places_rise d z0 z1 (d.length - 1)
  have hlen := places_len d z0 z1 (d.length - 1)
  have HLK : Hid (∀ w2 : World, Below w.heap.size w w2 → (Instr.lookup 77 (.map (some mp)) (pairV z0 z1) false).run Try.prog w2 = .ok (.slice PA (places d z0 z1 (d.length - 1)).length cp) w2) := Lib.hid (fun w2 hb => by
    have hb' : w2.heap[mp]? = w.heap[mp]? := hb.block _ hP.lt
    exact hP.lookKept hb' hlook)
  obtain ⟨L, hL⟩ : ∃ L, places d z0 z1 (d.length - 1) = L := ⟨_, rfl⟩
  rw [hL] at hlook hread hcp hrise hlen HLK ⊢
  have HC := Lib.hid (fun (w2 : World) (hb : Below w.heap.size w w2) => (show w2.cell? ⟨Fp, 0, none⟩ = some (.slice (some ⟨b, off, none⟩) d.length c) ∧ w2.cell? ⟨Fp, 3, none⟩ = some (.map (some mp)) ∧ w2.cell? ⟨b, off + place, none⟩ = some (.int .u8 (z0.toNat : Nat)) ∧ w2.cell? ⟨b, off + y1, none⟩ = some (.int .u8 (z1.toNat : Nat)) ∧ (Instr.lookup 77 (.map (some mp)) (.agg #[.int .u8 (z0.toNat : Nat), .int .u8 (z1.toNat : Nat)]) false).run Try.prog w2 = .ok (.slice PA L.length cp) w2 from by
    obtain ⟨f0, _, _, f3, _⟩ := (hF.below hb).cells
    exact ⟨f0, f3, (HC0.out w2 hb).1, (HC0.out w2 hb).2, HLK.out w2 hb⟩))
  have HREAD := Lib.hid hread
  have HRISE := Lib.hid hrise
  have HCP := Lib.hid hcp
  have hw32 : IntKind.i32.wrap (place : Int) = (place : Int) := by
    have e1 : IntKind.i32.min = -2147483648 := rfl
    have e2 : IntKind.i32.max = 2147483647 := rfl
    first | exact IntWalk.i32_in _ (by omega) | (unfold IntKind.wrap; simp; omega)
  have hll : L.length ≤ 100000 := by omega
  have HLL := Lib.hid hll
  have v1 : IntKind.i64.wrap (y1 : Int) = (y1 : Int) := IntWalk.i64_in _ (by omega)
  clear hF hP hlook hread hrise hlen hcp hL hbl hy1 HC0 HLK hll hp hcm
  go_enter Try.func86, Try.ntmps86
  go_wp2_with fail
  refine wp_region_held_drew (S := fun w2 => Below w.heap.size w w2) (by kernel_rfl) ⟨rfl, rfl, rfl, Nat.le_refl _, fun _ _ => rfl⟩ (fun hS => ?_)
  refine tk 0 (v := ?vbp1) ?ybp1 hS ?_
  case ybp1 =>
    intro w hSw
    obtain ⟨c0, c3, i0, i1, hlk⟩ := HC.out w hSw
    go_simp; all_goals (with_reducible rfl)
  simp only [Act.put, List.setIfInBounds_toArray, List.set_cons_zero, List.set_cons_succ]
  refine tk 1 (v := ?vbp2) ?ybp2 hS ?_
  case ybp2 =>
    intro w hSw
    obtain ⟨c0, c3, i0, i1, hlk⟩ := HC.out w hSw
    go_simp; all_goals (with_reducible rfl)
  simp only [Act.put, List.setIfInBounds_toArray, List.set_cons_zero, List.set_cons_succ]
  refine tk 2 (v := ?vbp3) ?ybp3 hS ?_
  case ybp3 =>
    intro w hSw
    obtain ⟨c0, c3, i0, i1, hlk⟩ := HC.out w hSw
    go_simp; all_goals (with_reducible rfl)
  simp only [Act.put, List.setIfInBounds_toArray, List.set_cons_zero, List.set_cons_succ]
  refine tk 3 (v := ?vbp4) ?ybp4 hS ?_
  case ybp4 =>
    intro w hSw
    obtain ⟨c0, c3, i0, i1, hlk⟩ := HC.out w hSw
    go_simp; all_goals (with_reducible rfl)
  simp only [Act.put, List.setIfInBounds_toArray, List.set_cons_zero, List.set_cons_succ]
  refine tk 4 (v := ?vbp5) ?ybp5 hS ?_
  case ybp5 =>
    intro w hSw
    obtain ⟨c0, c3, i0, i1, hlk⟩ := HC.out w hSw
    go_simp; all_goals (with_reducible rfl)
  simp only [Act.put, List.setIfInBounds_toArray, List.set_cons_zero, List.set_cons_succ]
  refine tk 5 (v := ?vbp6) ?ybp6 hS ?_
  case ybp6 =>
    intro w hSw
    obtain ⟨c0, c3, i0, i1, hlk⟩ := HC.out w hSw
    go_simp; all_goals (with_reducible rfl)
  simp only [Act.put, List.setIfInBounds_toArray, List.set_cons_zero, List.set_cons_succ]
  refine tk 6 (v := ?vbp7) ?ybp7 hS ?_
  case ybp7 =>
    intro w hSw
    obtain ⟨c0, c3, i0, i1, hlk⟩ := HC.out w hSw
    go_simp; all_goals (with_reducible rfl)
  simp only [Act.put, List.setIfInBounds_toArray, List.set_cons_zero, List.set_cons_succ]
  refine tk 7 (v := ?vbp8) ?ybp8 hS ?_
  case ybp8 =>
    intro w hSw
    obtain ⟨c0, c3, i0, i1, hlk⟩ := HC.out w hSw
    go_simp; all_goals (with_reducible rfl)
  simp only [Act.put, List.setIfInBounds_toArray, List.set_cons_zero, List.set_cons_succ]
  refine tk 8 (v := ?vbp9) ?ybp9 hS ?_
  case ybp9 =>
    intro w hSw
    obtain ⟨c0, c3, i0, i1, hlk⟩ := HC.out w hSw
    go_simp; all_goals (with_reducible rfl)
  simp only [Act.put, List.setIfInBounds_toArray, List.set_cons_zero, List.set_cons_succ]
  refine tk 9 (v := ?vbp10) ?ybp10 hS ?_
  case ybp10 =>
    intro w hSw
    obtain ⟨c0, c3, i0, i1, hlk⟩ := HC.out w hSw
    go_simp; all_goals (with_reducible rfl)
  simp only [Act.put, List.setIfInBounds_toArray, List.set_cons_zero, List.set_cons_succ]
  refine tk 10 (v := ?vbp11) ?ybp11 hS ?_
  case ybp11 =>
    intro w hSw
    obtain ⟨c0, c3, i0, i1, hlk⟩ := HC.out w hSw
    go_simp; all_goals (with_reducible rfl)
  simp only [Act.put, List.setIfInBounds_toArray, List.set_cons_zero, List.set_cons_succ]
  refine tk 11 (v := ?vbp12) ?ybp12 hS ?_
  case ybp12 =>
    intro w hSw
    obtain ⟨c0, c3, i0, i1, hlk⟩ := HC.out w hSw
    go_simp; all_goals (with_reducible rfl)
  simp only [Act.put, List.setIfInBounds_toArray, List.set_cons_zero, List.set_cons_succ]
  refine tk 12 (v := ?vbp13) ?ybp13 hS ?_
  case ybp13 =>
    intro w hSw
    obtain ⟨c0, c3, i0, i1, hlk⟩ := HC.out w hSw
    go_simp; all_goals (with_reducible rfl)
  simp only [Act.put, List.setIfInBounds_toArray, List.set_cons_zero, List.set_cons_succ]
  refine tk 13 (v := ?vbp14) ?ybp14 hS ?_
  case ybp14 =>
    intro w hSw
    obtain ⟨c0, c3, i0, i1, hlk⟩ := HC.out w hSw
    go_simp; all_goals (with_reducible rfl)
  simp only [Act.put, List.setIfInBounds_toArray, List.set_cons_zero, List.set_cons_succ]
  refine tk 14 (v := ?vbp15) ?ybp15 hS ?_
  case ybp15 =>
    intro w hSw
    obtain ⟨c0, c3, i0, i1, hlk⟩ := HC.out w hSw
    go_simp; all_goals (with_reducible rfl)
  simp only [Act.put, List.setIfInBounds_toArray, List.set_cons_zero, List.set_cons_succ]
  refine tk 15 (v := ?vbp16) ?ybp16 hS ?_
  case ybp16 =>
    intro w hSw
    obtain ⟨c0, c3, i0, i1, hlk⟩ := HC.out w hSw
    go_simp; all_goals (with_reducible rfl)
  simp only [Act.put, List.setIfInBounds_toArray, List.set_cons_zero, List.set_cons_succ]
  refine tk 16 (v := ?vbp17) ?ybp17 hS ?_
  case ybp17 =>
    intro w hSw
    obtain ⟨c0, c3, i0, i1, hlk⟩ := HC.out w hSw
    go_simp; all_goals (with_reducible rfl)
  simp only [Act.put, List.setIfInBounds_toArray, List.set_cons_zero, List.set_cons_succ]
  refine tk 17 (v := ?vbp18) ?ybp18 hS ?_
  case ybp18 =>
    intro w hSw
    obtain ⟨c0, c3, i0, i1, hlk⟩ := HC.out w hSw
    go_simp; all_goals (with_reducible rfl)
  simp only [Act.put, List.setIfInBounds_toArray, List.set_cons_zero, List.set_cons_succ]
  refine tk 18 (v := ?vbp19) ?ybp19 hS ?_
  case ybp19 =>
    intro w hSw
    obtain ⟨c0, c3, i0, i1, hlk⟩ := HC.out w hSw
    go_simp; all_goals (with_reducible rfl)
  simp only [Act.put, List.setIfInBounds_toArray, List.set_cons_zero, List.set_cons_succ]
  refine tk 19 (v := ?vbp20) ?ybp20 hS ?_
  case ybp20 =>
    intro w hSw
    obtain ⟨c0, c3, i0, i1, hlk⟩ := HC.out w hSw
    go_simp; all_goals (with_reducible rfl)
  simp only [Act.put, List.setIfInBounds_toArray, List.set_cons_zero, List.set_cons_succ]
  refine tk 20 (v := ?vbp21) ?ybp21 hS ?_
  case ybp21 =>
    intro w hSw
    obtain ⟨c0, c3, i0, i1, hlk⟩ := HC.out w hSw
    go_simp; all_goals (with_reducible rfl)
  simp only [Act.put, List.setIfInBounds_toArray, List.set_cons_zero, List.set_cons_succ]
  refine wpAnyH_ready (rs := [21]) (by kernel_rfl) (by simp) ?_
  refine (AllReadyH.cons (o := { dst := some 5, op := Op.alloc 78, type := 0, pos := "finder.go:102", after := #[], guard := none }) rfl (fun K hK => ?_) AllReadyH.nil)
  go_simp
  refine hK.out _ _ (Below.alloc hS hS.size _) (fun _ => ?_)
  clear hK K
  refine wpAnyH_ready (rs := [22]) (by kernel_rfl) (by simp) ?_
  refine (AllReadyH.cons (o := { dst := none, op := Op.store 78 (Operand.tmp 5) (Operand.tmp 28), type := 0, pos := "finder.go:102", after := #[{ on := 21, ground := Ground.data }, { on := 20, ground := Ground.data }, { on := 0, ground := Ground.phase }, { on := 1, ground := Ground.phase }, { on := 2, ground := Ground.phase }, { on := 3, ground := Ground.phase }, { on := 4, ground := Ground.phase }, { on := 5, ground := Ground.phase }, { on := 6, ground := Ground.phase }, { on := 7, ground := Ground.phase }, { on := 8, ground := Ground.phase }, { on := 9, ground := Ground.phase }, { on := 10, ground := Ground.phase }, { on := 11, ground := Ground.phase }, { on := 12, ground := Ground.phase }, { on := 13, ground := Ground.phase }, { on := 14, ground := Ground.phase }, { on := 15, ground := Ground.phase }, { on := 16, ground := Ground.phase }, { on := 17, ground := Ground.phase }, { on := 18, ground := Ground.phase }, { on := 19, ground := Ground.phase }, { on := 20, ground := Ground.phase }, { on := 21, ground := Ground.phase }], guard := none }) rfl (fun K hK => ?_) AllReadyH.nil)
  go_simp
  refine hK.out _ _ (Below.alloc hS hS.size _) (fun _ => ?_)
  clear hK K
  refine wpAnyH_done (by kernel_rfl) ?_ _
  obtain ⟨W2, hW2⟩ : ∃ W2, (w.alloc (.cells #[.slice PA L.length cp] 78)).drew = W2 := ⟨_, rfl⟩
  rw [hW2]
  have hb2 : Below w.heap.size w W2 := by
    rw [← hW2]
    have h := (Below.refl w.heap.size w).alloc (Nat.le_refl _) (.cells #[.slice PA L.length cp] 78)
    exact ⟨h.os, h.tape, h.output, h.size, h.block⟩
  have hx2 : BoxAt w.heap.size W2 (.slice PA L.length cp) := ⟨_, by rw [← hW2]; exact heap_alloc_last _ _⟩
  have c5 := hx2.cell
  have HSE := Lib.hid (search_any PA L cp place W2 (HREAD.out.below hb2) HLL.out HCP.out HRISE.out)
  have HB2 := Lib.hid hb2
  have HX2 := Lib.hid hx2
  have hsz2 : Hid (W2.heap.size = w.heap.size + 1) := Lib.hid (by rw [← hW2]; simp [World.drew])
  clear hW2 hb2 hx2 hS
  go_wp2_with fail
  refine HSE.out.mono ?_
  rintro e w3 ⟨⟨i, bb, rfl, hi, hlo, hhi⟩, rfl⟩
  have HI := Lib.hid (And.intro hi (And.intro hlo hhi))
  obtain ⟨W4, hW4⟩ : ∃ W4, W2.alloc (.cells #[.int .i64 (i : Nat)] 3) = W4 := ⟨_, rfl⟩
  have hb4 : Below W2.heap.size W2 W4 := by rw [← hW4]; exact (Below.refl _ _).alloc (Nat.le_refl _) _
  have hx4 : BoxAt W2.heap.size W4 (.int .i64 (i : Nat)) := by rw [← hW4]; exact BoxAt.made _ _ _
  have HW4 := Lib.hid hW4
  have H4 := Lib.hid (And.intro hb4 hx4)
  clear hi hlo hhi hW4 hb4 hx4
  go_wp2_with fail
  rw [HW4.out]
  go_ret
  have hb24 := HB2.out.trans (H4.out.1.mono HB2.out.size)
  refine ⟨_, _, PA, cp, i, rfl, H4.out.2, HX2.out.keep (H4.out.1.block _ (by rw [hsz2.out]; omega)), HREAD.out.below hb24, HCP.out, HI.out.1, HI.out.2.1, HI.out.2.2, hb24⟩
end Go.Proofs.Ytkckjjchfccdjaa

/- slices.Clone of bytes. -/
namespace Go.Proofs.Ytkckjjchfccdjaa
set_option maxRecDepth 100000
open Go.RowKit

theorem eqIn_sl (d : Nat) (A : Option Addr) (n c : Nat) (w : World) : (Op.equalIn (d + 1) 22 (.slice A n c) (.slice none 0 0)).run Try.prog w = .ok A.isNone w := by
  cases A <;> simp [Op.equalIn, run_underlying Try.underlying22]
theorem eq_sl (A : Option Addr) (n c : Nat) (w : World) : (binOp .eql 22 (.slice A n c) (.slice none 0 0)).run Try.prog w = .ok (.bool A.isNone) w := by
  have e : Op.maxDepth = 9999 + 1 := rfl
  simp only [binOp, Op.equal, e, Sem.run_bind, Sem.run_pure, eqIn_sl, Result.andThen_ok]
def CloneDone (l : List UInt8) (w : World) (e : Ending) (w' : World) : Prop := ∃ v, e = .returned v ∧ Own w.heap.size w' v l ∧ Below w.heap.size w w'
set_option maxRecDepth 100000 in
set_option maxHeartbeats 1000000 in
theorem clone_any (A : Option Addr) (l : List UInt8) (c : Nat) (w : World) (hB : Bytes w A l) (hc : l.length ≤ c) (hl : l.length ≤ 100000) :
    Calls Try.prog 29 #[.slice A l.length c] w (CloneDone l w) := by
  cases A with
  | none =>
    obtain rfl : l = [] := by
      rcases Nat.eq_zero_or_pos l.length with h | h
      · exact List.eq_nil_of_length_eq_zero h
      · obtain ⟨_, _, e, _⟩ := hB.addr h; cases e
    clear hB
    have hq := eq_sl none 0 c w
    simp only [Option.isNone] at hq
    go_enter Try.func29, Try.ntmps29
    go_wp2_with fail
    go_ret
    exact ⟨_, rfl, Own.nil _ _, Below.refl _ _⟩
  | some a =>
    have hlen : ([] : List UInt8).length + l.length ≤ 140737488355328 := by simp; omega
    have ho := Own.lit (base := w.heap.size) w [] (Nat.le_refl _) (by simp)
    have hb0 : Below w.heap.size w (w.alloc (.cells (([] : List UInt8).map B8).toArray 5)) := (Below.refl _ _).alloc (Nat.le_refl _) _
    have hs0 := hb0.size
    have HB := Lib.hid hB
    clear hB
    have hq := eq_sl (some a) l.length c w
    simp only [Option.isNone] at hq
    go_enter Try.func29, Try.ntmps29
    go_wp2_with (at_builtin; refine wpList_append_bytes rfl (.tmp 5) (.tmp 6) rfl w.heap.size _ _ [] rfl ho (some a) l c rfl (HB.out.below hb0) hlen hs0 ?_; intro v1 w1 ho1 hg1; have hb1 : Below w.heap.size w w1 := below_grown hb0 hg1 hs0 (fun g e => (ho.from_base g e).1))
    go_ret
    exact ⟨_, rfl, by simpa using ho1, hb1⟩
end Go.Proofs.Ytkckjjchfccdjaa
