/- The finder's longest, over any falling list of places. -/
import Derived.Test.YtkckjjchfccdjaaMg19
import Derived.BigRegionIn
namespace Go.Proofs.Ytkckjjchfccdjaa
set_option maxRecDepth 100000
open Go.RowKit Go.Shelf
attribute [local go_sem] Oper.semAt_some

theorem BestOn.more {S T : Nat → Prop} {f : Nat → Nat} {n k : Nat} (h : BestOn S f n k) (hST : ∀ j, S j → T j) (hT : ∀ j, T j → S j ∨ (f j ≤ n ∧ ∀ s, S s → s < j)) : BestOn T f n k := by
  refine ⟨fun j hj => ?_, fun j hj hlt => ?_, h.at_.imp id fun ⟨a, b⟩ => ⟨hST k a, b⟩⟩
  · rcases hT j hj with e | ⟨e, _⟩
    · exact h.le j e
    · exact e
  · rcases hT j hj with e | ⟨_, e⟩
    · exact h.lt j e hlt
    · rcases h.at_ with ⟨_, rfl⟩ | ⟨e2, _⟩
      · omega
      · have := e k e2; omega
/-- The distances of the places that have been seen. -/
def Dists (place : Nat) (L : List Nat) (j : Nat) : Prop := ∃ x ∈ L, j = place - x
theorem dists_nil {place j : Nat} : ¬ Dists place [] j := fun ⟨_, h, _⟩ => by cases h
theorem dists_snoc {place : Nat} {L : List Nat} {x j : Nat} : Dists place (L ++ [x]) j ↔ Dists place L j ∨ j = place - x := by
  unfold Dists
  constructor
  · rintro ⟨y, hy, rfl⟩
    rcases List.mem_append.1 hy with h | h
    · exact .inl ⟨y, h, rfl⟩
    · rw [List.mem_singleton] at h; subst h; exact .inr rfl
  · rintro (⟨y, hy, rfl⟩ | rfl)
    · exact ⟨y, List.mem_append_left _ hy, rfl⟩
    · exact ⟨x, by simp, rfl⟩
theorem KeepsOthers.drewN (W : World) (m : Nat) : KeepsOthers W (W.drewN m) := ⟨Nat.le_refl _, fun _ _ h _ => h⟩
structure LongI (w : World) (b0 b1 b2 b3 b4 : Nat) (f : Nat → Nat) (place lm : Nat) (Fp : Nat) (n k : Nat) (S : Nat → Prop) (W : World) : Prop where
  below : Below w.heap.size w W
  bf : BoxAt b0 W (PF Fp)
  bp : BoxAt b1 W (.int .i64 (place : Nat))
  bl : BoxAt b2 W (.int .i64 (lm : Nat))
  bn : BoxAt b3 W (.int .i64 (n : Nat))
  bd : BoxAt b4 W (.int .i64 (k : Nat))
  best : BestOn S f n k
  le : n ≤ lm
  kl : k ≤ place
theorem BoxAt.lt {b : Nat} {w : World} {v : Value} (h : BoxAt b w v) : b < w.heap.size := by
  obtain ⟨t, h⟩ := h
  exact (Array.getElem?_eq_some_iff.1 h).1
theorem BoxAt.set {b : Nat} {w : World} {v : Value} (h : BoxAt b w v) (u : Value) : BoxAt b (w.setCell ⟨b, 0, none⟩ u) u := by
  obtain ⟨t, h⟩ := h
  exact ⟨t, by rw [heap_setCell_same w b 0 _ _ u h]; rfl⟩
theorem BoxAt.frozen {b : Nat} {w : World} {v : Value} (h : BoxAt b w v) : w.frozen? ⟨b, 0, none⟩ = false := by
  obtain ⟨t, h⟩ := h
  exact frozen_of_row w b 0 _ _ h
theorem BoxAt.other {b b' : Nat} {w : World} {v : Value} (h : BoxAt b w v) (u : Value) (hne : b ≠ b') : BoxAt b (w.setCell ⟨b', 0, none⟩ u) v := h.keep (heap_setCell_other _ _ _ _ hne)
section
variable {w W W' : World} {b0 b1 b2 b3 b4 : Nat} {f : Nat → Nat} {place lm : Nat} {Fp n k : Nat} {S : Nat → Prop}
theorem LongI.keep (h : LongI w b0 b1 b2 b3 b4 f place lm Fp n k S W) (hb : Below w.heap.size w W') (hk : ∀ i v, BoxAt i W v → W'.heap[i]? = W.heap[i]?) : LongI w b0 b1 b2 b3 b4 f place lm Fp n k S W' :=
  ⟨hb, h.bf.keep (hk _ _ h.bf), h.bp.keep (hk _ _ h.bp), h.bl.keep (hk _ _ h.bl), h.bn.keep (hk _ _ h.bn), h.bd.keep (hk _ _ h.bd), h.best, h.le, h.kl⟩
theorem LongI.to {T : Nat → Prop} (h : LongI w b0 b1 b2 b3 b4 f place lm Fp n k S W) (hb : BestOn T f n k) : LongI w b0 b1 b2 b3 b4 f place lm Fp n k T W :=
  ⟨h.below, h.bf, h.bp, h.bl, h.bn, h.bd, hb, h.le, h.kl⟩
theorem LongI.alloc (h : LongI w b0 b1 b2 b3 b4 f place lm Fp n k S W) (o : Obj) : LongI w b0 b1 b2 b3 b4 f place lm Fp n k S (W.alloc o) :=
  h.keep (h.below.alloc h.below.size _) fun _ _ hi => Below.heap_alloc _ _ _ hi.lt
theorem LongI.drewN (h : LongI w b0 b1 b2 b3 b4 f place lm Fp n k S W) (m : Nat) : LongI w b0 b1 b2 b3 b4 f place lm Fp n k S (W.drewN m) :=
  h.keep (below_drewN h.below m) fun _ _ hi => (below_drewN (Below.refl _ _) m : Below W.heap.size W (W.drewN m)).block _ hi.lt
theorem LongI.putObj (h : LongI w b0 b1 b2 b3 b4 f place lm Fp n k S W) (l : Nat) (o o' : Obj) (hl : w.heap.size ≤ l) (hlo : W.heap[l]? = some o) (ho : o.isCells = false) : LongI w b0 b1 b2 b3 b4 f place lm Fp n k S (W.putObj l o') := by
  refine h.keep (h.below.grown (grownBy_putObj' W l o') h.below.size (fun k e => by cases e; omega)) fun i v hi => World.putObj_heap_other ?_
  rintro rfl
  obtain ⟨t, hv⟩ := hi
  rw [hv] at hlo
  cases hlo
  cases ho
theorem LongI.cells (h : LongI w b0 b1 b2 b3 b4 f place lm Fp n k S W) : W.cell? ⟨b0, 0, none⟩ = some (PF Fp) ∧ W.cell? ⟨b1, 0, none⟩ = some (.int .i64 (place : Nat)) ∧ W.cell? ⟨b2, 0, none⟩ = some (.int .i64 (lm : Nat)) ∧ W.cell? ⟨b3, 0, none⟩ = some (.int .i64 (n : Nat)) ∧ W.cell? ⟨b4, 0, none⟩ = some (.int .i64 (k : Nat)) :=
  ⟨h.bf.cell, h.bp.cell, h.bl.cell, h.bn.cell, h.bd.cell⟩
end
def LongDone (d : List UInt8) (place lm : Nat) (dict : Int) (L : List Nat) (w : World) (e : Ending) (w' : World) : Prop := ∃ n k, e = .returned (.tuple #[.int .i64 (n : Nat), .int .i64 (k : Nat)]) ∧ BestOn (fun j => (j : Int) ≤ dict ∧ Dists place L j) (fun j => eqLen d place (place - j) lm) n k ∧ Below w.heap.size w w'
theorem boxes5 (w : World) (v0 v1 v2 v3 v4 : Value) (t0 t1 t2 t3 t4 : TypeId) (W : World) (hW : ((((w.alloc (.cells #[v0] t0)).alloc (.cells #[v1] t1)).alloc (.cells #[v2] t2)).alloc (.cells #[v3] t3)).alloc (.cells #[v4] t4) = W) :
    Below w.heap.size w W ∧ BoxAt w.heap.size W v0 ∧ BoxAt (w.heap.size + 1) W v1 ∧ BoxAt (w.heap.size + 1 + 1) W v2 ∧ BoxAt (w.heap.size + 1 + 1 + 1) W v3 ∧ BoxAt (w.heap.size + 1 + 1 + 1 + 1) W v4 := by
  subst hW
  have up : ∀ {b : Nat} {W : World} {v : Value} (o : Obj), BoxAt b W v → BoxAt b (W.alloc o) v := fun o h => h.keep (Below.heap_alloc _ _ _ h.lt)
  have mk : ∀ (W : World) (v : Value) (t : TypeId) (b : Nat), b = W.heap.size → BoxAt b (W.alloc (.cells #[v] t)) v := fun W v t b e => by subst e; exact BoxAt.made W v t
  refine ⟨?_, up _ (up _ (up _ (up _ (mk _ _ _ _ rfl)))), up _ (up _ (up _ (mk _ _ _ _ (by simp)))), up _ (up _ (mk _ _ _ _ (by simp))), up _ (mk _ _ _ _ (by simp)), mk _ _ _ _ (by simp)⟩
  refine Below.alloc ?_ (by simp; omega) _
  refine Below.alloc ?_ (by simp; omega) _
  refine Below.alloc ?_ (by simp; omega) _
  refine Below.alloc ?_ (by simp) _
  exact (Below.refl _ _).alloc (Nat.le_refl _) _
set_option maxRecDepth 100000 in
set_option maxHeartbeats 2000000 in
theorem longest_any (Fp : Nat) (A : Option Addr) (c : Nat) (d : List UInt8) (dict nice : Int) (mp : Nat) (v4 : Value) (place lm : Nat) (gf : Nat) (lb : Array Value) (L : List Nat) (w : World)
    (hF : FinderAt w Fp A c d dict nice mp v4) (hp : place + lm ≤ d.length) (h1 : 1 ≤ lm) (hL : ∀ x ∈ L, x < place) (hfall : L.Pairwise (· > ·)) (eg : ∀ args w, (callFunc gf args).run Try.prog w = .ok (.enter gf args) w)
    (hseq : SeqOf Fence.wide 3 Try.prog gf lb L w) :
    Calls Try.prog 84 #[PF Fp, .int .i64 (place : Nat), .int .i64 (lm : Nat), .func (.func gf) #[] lb] w (LongDone d place lm dict L w) := by
  have hpi : (place : Int) ≤ 100000 := by have := hF.small; omega
  have hli : (lm : Int) ≤ 100000 := by have := hF.small; omega
  have hdi : (d.length : Int) ≤ 100000 := by have := hF.small; omega
  have hci : (d.length : Int) ≤ (c : Int) := by have := hF.cap; omega
  have HF := Lib.hid hF
  have HSEQ := Lib.hid hseq
  have HEG := Lib.hid eg
  have HL := Lib.hid hL
  have HFALL := Lib.hid hfall
  have HP := Lib.hid hp
  clear hF hseq eg hL hfall hp
  refine (callsIn_wide (n := 4)).1 ?_
  refine callsIn_of_wp_marks Try.func84 rfl trivial ?_ rfl
  simp only [Try.ntmps84, List.size_toArray, List.length_cons, List.length_nil, Nat.reduceAdd, Nat.reduceSub, Array.replicate_succ, Array.replicate_zero, List.push_toArray, List.append_toArray, List.nil_append, List.cons_append]
  gi_wp2
  generalize hW0 : ((((w.alloc _).alloc _).alloc _).alloc _).alloc _ = W0
  obtain ⟨hb0, x0, x1, x2, x3, x4⟩ := boxes5 _ _ _ _ _ _ _ _ _ _ _ _ hW0
  have hs0 : Hid (w.heap.size < w.heap.size + 1) := Lib.hid (by omega)
  have hne : (w.heap.size ≠ w.heap.size + 1 + 1 + 1 ∧ w.heap.size + 1 ≠ w.heap.size + 1 + 1 + 1 ∧ w.heap.size + 1 + 1 ≠ w.heap.size + 1 + 1 + 1) ∧ (w.heap.size ≠ w.heap.size + 1 + 1 + 1 + 1 ∧ w.heap.size + 1 ≠ w.heap.size + 1 + 1 + 1 + 1 ∧ w.heap.size + 1 + 1 ≠ w.heap.size + 1 + 1 + 1 + 1) ∧ w.heap.size + 1 + 1 + 1 ≠ w.heap.size + 1 + 1 + 1 + 1 := by omega
  have hge : w.heap.size ≤ w.heap.size + 1 + 1 + 1 ∧ w.heap.size ≤ w.heap.size + 1 + 1 + 1 + 1 := by omega
  obtain ⟨s, hs⟩ : ∃ s, w.heap.size = s := ⟨_, rfl⟩
  obtain ⟨b4, hb4⟩ : ∃ b, s + 1 + 1 + 1 + 1 = b := ⟨_, rfl⟩
  obtain ⟨b3, hb3⟩ : ∃ b, s + 1 + 1 + 1 = b := ⟨_, rfl⟩
  obtain ⟨b2, hb2⟩ : ∃ b, s + 1 + 1 = b := ⟨_, rfl⟩
  obtain ⟨b1, hb1⟩ : ∃ b, s + 1 = b := ⟨_, rfl⟩
  rw [hs] at hne hge x0 x1 x2 x3 x4 ⊢
  rw [hb4] at hne hge x4 ⊢
  rw [hb3] at hne hge x3 ⊢
  rw [hb2] at hne x2 ⊢
  rw [hb1] at hne x1 ⊢
  have HNE := Lib.hid hne
  have HGE : Hid (w.heap.size ≤ b3 ∧ w.heap.size ≤ b4) := Lib.hid (by rw [hs]; exact hge)
  clear hW0 hs0 hb1 hb2 hb3 hb4 hne hge
  refine wpIn_range_of rfl (by decide) (gf := gf) (lb := lb) rfl trivial HEG.out HSEQ.out rfl
    (fun pre W => ∃ n k, LongI w s b1 b2 b3 b4 (fun j => eqLen d place (place - j) lm) place lm Fp n k (Dists place pre) W ∧ ∀ y ∈ pre, (place : Int) - (y : Int) ≤ dict)
    (fun e W => e = Code.exit 0 ∧ ∃ n k, LongI w s b1 b2 b3 b4 (fun j => eqLen d place (place - j) lm) place lm Fp n k (fun j => (j : Int) ≤ dict ∧ Dists place L j) W)
    (fun s W o ⟨n, k, h, hd⟩ => ⟨n, k, h.alloc o, hd⟩) (fun s W l o o' ⟨n, k, h, hd⟩ hl hlo ho => ⟨n, k, h.putObj l o o' (Nat.le_trans hb0.size hl) hlo ho, hd⟩) (fun s W ⟨n, k, h, hd⟩ => h.below) (fun s W m ⟨n, k, h, hd⟩ => ⟨n, k, h.drewN m, hd⟩)
    (fun e W l o o' ⟨he, n, k, h⟩ hl hlo ho => ⟨he, n, k, h.putObj l o o' (Nat.le_trans hb0.size hl) hlo ho⟩) (fun e W m ⟨he, n, k, h⟩ => ⟨he, n, k, h.drewN m⟩)
    ⟨0, 0, ⟨hb0, x0, x1, x2, x3, x4, (BestOn.none _).iff fun j => ⟨fun h => dists_nil h, fun h => h.elim⟩, Nat.zero_le _, Nat.zero_le _⟩, fun y hy => by cases hy⟩
    (fun x => { tmps := #[PF Fp, .int .i64 (place : Nat), .int .i64 (lm : Nat), .func (.func gf) #[] lb, .pointer (some ⟨s, 0, none⟩), .pointer (some ⟨b1, 0, none⟩), .pointer (some ⟨b2, 0, none⟩), undef, .int .i64 0, .int .i64 0, .pointer (some ⟨b3, 0, none⟩), .pointer (some ⟨b4, 0, none⟩), .int .i64 (x : Nat), undef, .func (.func gf) #[] lb, .int .i64 (x : Nat), undef, undef, undef, undef, undef, undef, undef, undef, undef, undef, undef, undef, undef, undef, undef, undef, undef, undef, undef, undef, undef, undef, undef, undef, undef, undef, undef, undef, undef, undef, undef, undef, undef, undef, undef, undef, undef, undef, undef, undef, undef, undef, undef, undef, undef, undef], defers := [] }) ?assign ?body ?done ?stop
  case assign =>
    intro l x W K hK
    gi_wp2
    exact hK
  case body =>
    rintro l pre x t W hsplit ⟨n, k, hI, hdict⟩
    have hx : x < place := HL.out x (by rw [hsplit]; simp)
    have hfl := HFALL.out
    rw [hsplit, List.pairwise_append] at hfl
    have hpre : ∀ y ∈ pre, x < y := fun y hy => hfl.2.2 y hy x (by simp)
    have hrest : ∀ y ∈ t, y < x := (List.pairwise_cons.1 hfl.2.1).1
    have hrise : ∀ s, Dists place pre s → s < place - x := by
      rintro _ ⟨y, hy, rfl⟩
      have := hpre y hy; have := HL.out y (by rw [hsplit]; simp [hy]); omega
    have hDL : ∀ j, Dists place L j ↔ Dists place pre j ∨ j = place - x ∨ Dists place t j := by
      intro j
      rw [hsplit]
      constructor
      · rintro ⟨y, hy, rfl⟩
        rcases List.mem_append.1 hy with h | h
        · exact .inl ⟨y, h, rfl⟩
        · rcases List.mem_cons.1 h with rfl | h
          · exact .inr (.inl rfl)
          · exact .inr (.inr ⟨y, h, rfl⟩)
      · rintro (⟨y, hy, rfl⟩ | rfl | ⟨y, hy, rfl⟩)
        · exact ⟨y, by simp [hy], rfl⟩
        · exact ⟨x, by simp, rfl⟩
        · exact ⟨y, by simp [hy], rfl⟩
    have hlate : ∀ j, Dists place t j → place - x < j := by
      rintro _ ⟨y, hy, rfl⟩
      have := hrest y hy; omega
    have hin : ∀ j, Dists place pre j → (j : Int) ≤ dict := by
      rintro _ ⟨y, hy, rfl⟩
      have := hdict y hy; have := HL.out y (by rw [hsplit]; simp [hy]); omega
    obtain ⟨cf, cp, cl, cn, cd⟩ := hI.cells
    have hFW := HF.out.below hI.below
    obtain ⟨f0, f1, _, _, _⟩ := hFW.cells
    have hxi : (x : Int) < (place : Int) := by omega
    have hle := hI.le
    have hnl : (n : Int) ≤ (lm : Int) := by omega
    have HI := Lib.hid hI
    have HDL := Lib.hid hDL
    have HRISE := Lib.hid hrise
    have HLATE := Lib.hid hlate
    have HIN := Lib.hid hin
    have HDICT := Lib.hid hdict
    have HX := Lib.hid hx
    have HFW := Lib.hid hFW
    clear hI hDL hrise hlate hin hfl hpre hrest hdict hsplit hx hFW hle
    by_cases hd : dict < (place : Int) - (x : Int)
    · have hstop : Hid (∃ n k, LongI w s b1 b2 b3 b4 (fun j => eqLen d place (place - j) lm) place lm Fp n k (fun j => (j : Int) ≤ dict ∧ Dists place L j) W) := Lib.hid ⟨n, k, HI.out.to (HI.out.best.iff fun j => by
        rw [HDL.out]
        constructor
        · rintro ⟨h1, h | rfl | h⟩
          · exact h
          · have := HX.out; omega
          · have := HLATE.out j h; have := HX.out; omega
        · exact fun h => ⟨HIN.out j h, .inl h⟩)⟩
      gi_wp2
      refine wpIn_quiet_round rfl (by kernel_rfl) (by kernel_rfl) (by kernel_rfl) ?_
      repeat (gi_big_quiet_step (fail))
      refine wpQuietIn_nil ?_
      rintro _ ⟨nq, rfl⟩
      gi_wp2
      obtain ⟨n', k', hst⟩ := hstop.out
      exact ⟨KeepsOthers.drewN _ _, rfl, n', k', hst.drewN _⟩
    · have hd' : decide (dict < (place : Int) - (x : Int)) = false := by simp; omega
      have hd2 : ¬ dict < (place : Int) - (x : Int) := hd
      by_cases hn : n = lm
      · have hstop : Hid (∃ n k, LongI w s b1 b2 b3 b4 (fun j => eqLen d place (place - j) lm) place lm Fp n k (fun j => (j : Int) ≤ dict ∧ Dists place L j) W) := Lib.hid ⟨n, k, HI.out.to (HI.out.best.more (fun j hj => ⟨HIN.out j hj, (HDL.out j).2 (.inl hj)⟩) fun j hj => by
          rcases (HDL.out j).1 hj.2 with h | h
          · exact .inl h
          · refine .inr ⟨by rw [hn]; exact eqLen_le _ _ _ _, fun s hs => ?_⟩
            have h1 := HRISE.out s hs
            rcases h with rfl | h
            · exact h1
            · have := HLATE.out j h; omega)⟩
        have he : ((n : Int) == (lm : Int)) = true := by rw [hn]; simp
        clear hn
        gi_wp2
        refine wpIn_quiet_round rfl (by kernel_rfl) (by kernel_rfl) (by kernel_rfl) ?_
        repeat (gi_big_quiet_step (fail))
        refine wpQuietIn_nil ?_
        rintro _ ⟨nq, rfl⟩
        gi_wp2
        obtain ⟨n', k', hst⟩ := hstop.out
        exact ⟨KeepsOthers.drewN _ _, rfl, n', k', hst.drewN _⟩
      · have he : ((n : Int) == (lm : Int)) = false := by rw [beq_eq_false_iff_ne]; omega
        have hnl2 : (n : Int) < (lm : Int) := by omega
        have HD2 : Hid (∀ y ∈ pre ++ [x], (place : Int) - (y : Int) ≤ dict) := Lib.hid (fun y hy => by
          rcases List.mem_append.1 hy with h | h
          · exact HDICT.out y h
          · rw [List.mem_singleton] at h; subst h; omega)
        have HM : Hid (∀ m, Calls Try.prog 87 #[PF Fp, .int .i64 (place : Nat), .int .i64 (x : Nat), .int .i64 (lm : Nat)] (W.drewN m) fun e w' => e = .returned (.int .i64 (eqLen d place x lm : Nat)) ∧ ∃ q, w' = (W.drewN m).drewN q) := Lib.hid (fun m => by
          have := same_any Fp A c d dict nice mp v4 place x (lm : Int) _ (HFW.out.drewN m) (by have := HP.out; simpa using this) (by have := HX.out; omega)
          simpa only [Int.toNat_natCast] using this)
        obtain ⟨g, hg⟩ : ∃ g, eqLen d place x lm = g := ⟨_, rfl⟩
        have hgl : (g : Int) ≤ (lm : Int) := by have := eqLen_le d place x lm; omega
        rw [hg] at HM
        have HG := Lib.hid hg
        clear hg
        obtain ⟨b, off, rfl, _, hat⟩ := HFW.out.bytes.addr (by have := HP.out; omega)
        obtain ⟨y, hy⟩ : ∃ y : Nat, place + n = y := ⟨_, rfl⟩
        have hyi : (place : Int) + (n : Int) = (y : Int) := by omega
        obtain ⟨z, hz⟩ : ∃ z : Nat, x + n = z := ⟨_, rfl⟩
        have hzi : (x : Int) + (n : Int) = (z : Int) := by omega
        have hyl : (y : Int) < (d.length : Int) := by have := HP.out; omega
        have hzl : (z : Int) < (d.length : Int) := by have := HP.out; omega
        have cy := hat y (by omega)
        have cz := hat z (by omega)
        have e1 := getD_of (d := d) (i := y) (by omega)
        have e2 := getD_of (d := d) (i := z) (by omega)
        generalize d[y]'(by omega) = u at *
        generalize d[z]'(by omega) = v at *
        have HE12 := Lib.hid (And.intro (hy ▸ e1 : d.getD (place + n) 0 = u) (hz ▸ e2 : d.getD (x + n) 0 = v))
        have HXX : Hid (place - (place - x) = x) := Lib.hid (by omega)
        have HBK : Hid (∀ m, LongI w s b1 b2 b3 b4 (fun j => eqLen d place (place - j) lm) place lm Fp n k (Dists place pre) (W.drewN m)) := Lib.hid (fun m => HI.out.drewN m)
        have HSK : Hid (eqLen d place x lm ≤ n → ∀ m, ∃ n k, LongI w s b1 b2 b3 b4 (fun j => eqLen d place (place - j) lm) place lm Fp n k (Dists place (pre ++ [x])) (W.drewN m)) := Lib.hid (fun h m => ⟨n, k, (HBK.out m).to (((HBK.out m).best.skip HRISE.out (by show eqLen d place (place - (place - x)) lm ≤ n; rw [HXX.out]; exact h)).iff fun j => dists_snoc)⟩)
        clear hn hy hz e1 e2 hat
        by_cases huv : v = u
        · have hne : ((v.toNat : Int) != (u.toNat : Int)) = false := by rw [huv]; simp
          have hne2 : ((v.toNat : Int) == (u.toNat : Int)) = true := by rw [huv]; simp
          clear huv
          have HGN : Hid (n < g → BestOn (Dists place (pre ++ [x])) (fun j => eqLen d place (place - j) lm) g (place - x)) := Lib.hid (fun h => by
            have e : eqLen d place (place - (place - x)) lm = g := by rw [HXX.out]; exact HG.out
            have := HI.out.best.take (j := place - x) HRISE.out (by show n < eqLen d place (place - (place - x)) lm; rw [e]; exact h)
            rw [e] at this
            exact this.iff fun j => dists_snoc)
          gi_wp2
          refine wpIn_quiet_round rfl (by kernel_rfl) (by kernel_rfl) (by kernel_rfl) ?_
          repeat (gi_big_quiet_step (fail))
          refine wpQuietIn_nil ?_
          rintro _ ⟨nq, rfl⟩
          gi_wp2
          refine wpIn_quiet_round rfl (by kernel_rfl) (by kernel_rfl) (by kernel_rfl) ?_
          repeat (gi_big_quiet_step (fail))
          refine wpQuietIn_nil ?_
          rintro _ ⟨nr, rfl⟩
          gi_wp2
          refine ⟨trivial, (CallsIn.inRound _ (callsIn_wide.2 (HM.out _))).mono ?_⟩
          rintro e w' ⟨rfl, ns, rfl⟩
          by_cases hgn : n < g
          · have hgn2 : decide ((n : Int) < (g : Int)) = true := by simp; omega
            have hgn3 : (n : Int) < (g : Int) := by omega
            obtain ⟨⟨n03, n13, n23⟩, ⟨n04, n14, n24⟩, n34⟩ := HNE.out
            have n31 := n13.symm
            have n43 := n34.symm
            have n41 := n14.symm
            have fn := HI.out.bn.frozen
            have fd := HI.out.bd.frozen
            obtain ⟨k2, hk2⟩ : ∃ k2, place - x = k2 := ⟨_, rfl⟩
            have hk2i : (k2 : Int) ≤ 100000 := by omega
            have hpx : (place : Int) - (x : Int) = (k2 : Int) := by omega
            have hwr : IntKind.i64.wrap (k2 : Int) = (k2 : Int) := IntWalk.i64_in _ (by omega)
            have HFIN : Hid (∀ m, KeepsOthers W (((W.drewN m).setCell ⟨b3, 0, none⟩ (.int .i64 (g : Nat))).setCell ⟨b4, 0, none⟩ (.int .i64 (k2 : Nat))) ∧ ∃ n k, LongI w s b1 b2 b3 b4 (fun j => eqLen d place (place - j) lm) place lm Fp n k (Dists place (pre ++ [x])) (((W.drewN m).setCell ⟨b3, 0, none⟩ (.int .i64 (g : Nat))).setCell ⟨b4, 0, none⟩ (.int .i64 (k2 : Nat)))) := Lib.hid (fun m => by
              have h := HBK.out m
              exact ⟨((KeepsOthers.drewN _ _).trans (KeepsOthers.setCell _ _ _)).trans (KeepsOthers.setCell _ _ _), g, k2, (h.below.setCell HGE.out.1 _).setCell HGE.out.2 _, (h.bf.other _ n03).other _ n04, (h.bp.other _ n13).other _ n14, (h.bl.other _ n23).other _ n24, (h.bn.set _).other _ n34, (h.bd.other _ n43).set _, by rw [← hk2]; exact HGN.out hgn, by omega, by omega⟩)
            clear hk2
            gi_wp2
            gi_region
            all_goals gi_wp2
            all_goals (obtain ⟨hk, n', k', hst⟩ := HFIN.out (nq + nr + ns + 1); exact ⟨hk, n', k', hst, HD2.out⟩)
          · have hgn2 : decide ((n : Int) < (g : Int)) = false := by simp; omega
            have hgn3 : ¬ (n : Int) < (g : Int) := by omega
            gi_wp2
            obtain ⟨n', k', hst⟩ := HSK.out (by rw [HG.out]; omega) (nq + nr + ns)
            exact ⟨KeepsOthers.drewN _ _, n', k', hst, HD2.out⟩
        · have hne : ((v.toNat : Int) != (u.toNat : Int)) = true := by
            rw [bne_iff_ne]; intro h; exact huv (UInt8.toNat_inj.1 (by omega))
          have hne2 : ((v.toNat : Int) == (u.toNat : Int)) = false := by
            rw [beq_eq_false_iff_ne]; intro h; exact huv (UInt8.toNat_inj.1 (by omega))
          have hcut : Hid (eqLen d place x lm ≤ n) := Lib.hid (eqLen_cut (by rw [HE12.out.1, HE12.out.2]; exact huv))
          clear huv
          gi_wp2
          refine wpIn_quiet_round rfl (by kernel_rfl) (by kernel_rfl) (by kernel_rfl) ?_
          repeat (gi_big_quiet_step (fail))
          refine wpQuietIn_nil ?_
          rintro _ ⟨nq, rfl⟩
          gi_wp2
          refine wpIn_quiet_round rfl (by kernel_rfl) (by kernel_rfl) (by kernel_rfl) ?_
          repeat (gi_big_quiet_step (fail))
          refine wpQuietIn_nil ?_
          rintro _ ⟨nr, rfl⟩
          gi_wp2
          rw [World.drewN_drewN]
          obtain ⟨n', k', hst⟩ := HSK.out hcut.out (nq + nr)
          exact ⟨KeepsOthers.drewN _ _, n', k', hst, HD2.out⟩
  case done =>
    rintro D W hD ⟨n, k, hI, hdict⟩ hK
    have HDN : Hid (LongI w s b1 b2 b3 b4 (fun j => eqLen d place (place - j) lm) place lm Fp n k (fun j => (j : Int) ≤ dict ∧ Dists place L j) W) := Lib.hid (hI.to (hI.best.iff fun j => by
      constructor
      · exact fun h => h.2
      · rintro ⟨y, hy, rfl⟩
        have h1 := hdict y hy
        have h2 := HL.out y hy
        exact ⟨by omega, y, hy, rfl⟩))
    obtain ⟨cf, cp, cl, cn, cd⟩ := HDN.out.cells
    clear hI hdict
    gi_wp2
    refine wpIn_region_quiet_lit rfl (by kernel_rfl) (by kernel_rfl) ?_
    repeat (gi_big_quiet_step (fail))
    refine wpQuietIn_nil ?_
    rintro _ ⟨nq, rfl⟩
    gi_wp2
    refine ⟨by simp, .inl ⟨_, _, rfl, run_takeDeferred (b := D) (ds := []) hK, ?_⟩⟩
    refine ⟨_, results_tmp2 rfl _ _ _, n, k, rfl, HDN.out.best, ?_⟩
    have hbq := (HDN.out.drewN nq).below
    exact hbq.grown (grownBy_putObj' (W.drewN nq) D (.deferred none)) hbq.size (fun k e => by cases e; exact Nat.le_trans hb0.size hD)
  case stop =>
    rintro D _ W hD ⟨rfl, n, k, hI⟩ hK
    obtain ⟨cf, cp, cl, cn, cd⟩ := hI.cells
    have HDN := Lib.hid hI
    clear hI
    gi_wp2
    refine wpIn_region_quiet_lit rfl (by kernel_rfl) (by kernel_rfl) ?_
    repeat (gi_big_quiet_step (fail))
    refine wpQuietIn_nil ?_
    rintro _ ⟨nq, rfl⟩
    gi_wp2
    refine ⟨by simp, .inl ⟨_, _, rfl, run_takeDeferred (b := D) (ds := []) hK, ?_⟩⟩
    refine ⟨_, results_tmp2 rfl _ _ _, n, k, rfl, HDN.out.best, ?_⟩
    have hbq := (HDN.out.drewN nq).below
    exact hbq.grown (grownBy_putObj' (W.drewN nq) D (.deferred none)) hbq.size (fun k e => by cases e; exact Nat.le_trans hb0.size hD)
end Go.Proofs.Ytkckjjchfccdjaa
