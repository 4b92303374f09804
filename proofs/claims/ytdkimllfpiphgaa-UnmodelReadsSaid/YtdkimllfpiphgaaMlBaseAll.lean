/- Several texts in one: MlBase, MlOpen. -/
import Derived.Test.YtdkimllfpiphgaaMdPure
import Derived.Test.YtdkimllfpiphgaaMdPut
import Derived.Test.YtdkimllfpiphgaaMlGrow
import Derived.Test.YtdkimllfpiphgaaCoBecAll
import Derived.Test.YtdkimllfpiphgaaMbSimAll
import Derived.Test.YtdkimllfpiphgaaCoGrow
import Derived.Test.YtdkimllfpiphgaaMdNewAll
import Derived.Test.YtdkimllfpiphgaaLift
import Derived.Deep.Slices
import Derived.Deep.Fields
import Derived.ChangeSame
import Derived.Lib.SmallJoins
/- What laws of symbols share. -/
namespace Go.Proofs.Ytdkimllfpiphgaa
open Go.RowKit

theorem Only.below_of {X : List Nat} {w0 w w' : World} (hb : Below w0.heap.size w0 w) (h : Only X w w') (hX : ∀ i ∈ X, w0.heap.size ≤ i) : Below w0.heap.size w0 w' := hb.trans (h.below hb.size hX)
theorem MS.ltall {io : Io} {w : World} {C L lc lp pb st : Nat} {r : R4} {x : io.S} {X : List Nat} (h : MS io w C L lc lp pb st r x X) : ∀ i ∈ C :: L :: X, i < w.heap.size := by
  intro i hi
  simp only [List.mem_cons] at hi
  rcases hi with rfl | rfl | hi
  · exact h.mod.clt
  · exact h.mod.llt
  · exact io.lt h.io i hi
/-- A symbol as the law holds it. -/
structure SyI where
  k : Int
  b : UInt8
  l : Int
  d : Int
  r : Int
def Syms (w : World) (A : Option Addr) (l : List SyI) : Prop := l = [] ∨ ∃ b off, A = some ⟨b, off, none⟩ ∧ b < w.heap.size ∧ ∀ i (h : i < l.length), w.cell? ⟨b, off + i * 5, none⟩ = some (.int .i64 l[i].k) ∧ w.cell? ⟨b, off + i * 5 + 1, none⟩ = some (.int .u8 (l[i].b.toNat : Nat)) ∧ w.cell? ⟨b, off + i * 5 + 2, none⟩ = some (.int .i64 l[i].l) ∧ w.cell? ⟨b, off + i * 5 + 3, none⟩ = some (.int .i64 l[i].d) ∧ w.cell? ⟨b, off + i * 5 + 4, none⟩ = some (.int .i64 l[i].r)
theorem stateAfter_lt {st : Nat} {k l : Int} {st' : Nat} (hst : st < 12) (h : ((st' : Nat) : Int) = stateAfter (st : Nat) k l) : st' < 12 := by
  unfold stateAfter at h
  split at h
  · split at h
    · omega
    · split at h <;> omega
  · split at h
    · split at h <;> omega
    · split at h
      · omega
      · split at h <;> omega
theorem enc_ok_small {g : Nat} {s : Rc.St} (h : (encIo g).ok s 100) : s.v < 256 ^ (4 + s.k) ∧ 1 + s.k + 4 ≤ 140737488355328 ∧ 4 + s.k + 1 ≤ 140737488355328 := by
  obtain ⟨⟨⟨h1, h2⟩, h3⟩, h4⟩ := h
  refine ⟨?_, by omega, by omega⟩
  have : s.v + s.r ≤ 256 ^ (4 + s.k) := h1
  omega
theorem syms_at {w : World} {A1 : Option Addr} {l : List SyI} (h : Syms w A1 l) {n : Nat} (hn : n < l.length) : ∃ b off, A1 = some ⟨b, off, none⟩ ∧ ∀ W, Below w.heap.size w W → W.cell? ⟨b, off + n * 5, none⟩ = some (.int .i64 l[n].k) ∧ W.cell? ⟨b, off + n * 5 + 1, none⟩ = some (.int .u8 (l[n].b.toNat : Nat)) ∧ W.cell? ⟨b, off + n * 5 + 2, none⟩ = some (.int .i64 l[n].l) ∧ W.cell? ⟨b, off + n * 5 + 3, none⟩ = some (.int .i64 l[n].d) ∧ W.cell? ⟨b, off + n * 5 + 4, none⟩ = some (.int .i64 l[n].r) := by
  rcases h with rfl | ⟨b, off, hA, hb, hc⟩
  · simp at hn
  · refine ⟨b, off, hA, fun W hW => ?_⟩
    obtain ⟨c0, c1, c2, c3, c4⟩ := hc n hn
    exact ⟨(hW.cell (p := ⟨b, _, none⟩) hb).trans c0, (hW.cell (p := ⟨b, _, none⟩) hb).trans c1, (hW.cell (p := ⟨b, _, none⟩) hb).trans c2, (hW.cell (p := ⟨b, _, none⟩) hb).trans c3, (hW.cell (p := ⟨b, _, none⟩) hb).trans c4⟩
theorem dist_back {r : R4} {H : List UInt8} {k l d q : Int} (hr : rGood r) (hf : fitsZ r (H.length : Int) k l d q = true) : ∃ bk : Nat, distZ r k d q = (bk : Int) ∧ (k ≠ 0 → 1 ≤ bk ∧ bk ≤ H.length) ∧ (k = 2 → 0 ≤ q ∧ q ≤ 3) ∧ (k ≠ 0 → 1 ≤ l ∧ l ≤ 273) := by
  rcases fitsZ_cases hf with rfl | ⟨rfl, h2, h3, h4, h5, h6⟩ | ⟨rfl, h0, h1, h4, h5⟩
  · exact ⟨0, rfl, fun h => absurd rfl h, fun h => absurd h (by decide), fun h => absurd rfl h⟩
  · refine ⟨d.toNat, ?_, fun _ => by omega, fun h => absurd h (by decide), fun _ => by omega⟩
    unfold distZ
    rw [if_pos rfl]; omega
  · have hq : 1 ≤ rAt r q := by
      obtain ⟨⟨a1, a2, a3, a4⟩, _⟩ := hr
      unfold rAt
      rcases (by omega : q = 0 ∨ q = 1 ∨ q = 2 ∨ q = 3) with rfl | rfl | rfl | rfl
      · exact a1
      · exact a2
      · exact a3
      · exact a4
    refine ⟨(rAt r q).toNat, ?_, fun _ => by omega, fun _ => ⟨h0, h1⟩, fun _ => by omega⟩
    unfold distZ
    rw [if_neg (by decide), if_pos rfl]; omega
theorem grow_length {H : List UInt8} {k : Int} {b : UInt8} {l back : Nat} (hl : k ≠ 0 → l ≤ 273) : (growS H k b l back).length ≤ H.length + 300 := by
  unfold growS
  by_cases h : k = 0
  · rw [if_pos h]; simp
  · rw [if_neg h, growN_length]; have := hl h; omega
set_option maxRecDepth 100000 in
set_option maxHeartbeats 1000000 in
theorem may_any (lc lp pb : Int) (w : World) : Calls Try.prog 5 #[.int .i64 lc, .int .i64 lp, .int .i64 pb] w fun e w' => e = .returned (.bool (permB lc lp pb)) ∧ w = w' := by
  obtain ⟨R, hR⟩ : ∃ R, permB lc lp pb = R := ⟨_, rfl⟩
  rw [hR]
  by_cases hlc0 : 0 ≤ lc
  case neg =>
    have HRv : Hid (R = false) := Lib.hid (by rw [← hR]; exact decide_eq_false (by omega))
    clear hR
    go_enter Try.func5, Try.ntmps5
    go_wp2_with fail
    go_ret
    exact ⟨by rw [HRv.out]; rfl, rfl⟩
  by_cases hlc4 : lc ≤ 4
  case neg =>
    have HRv : Hid (R = false) := Lib.hid (by rw [← hR]; exact decide_eq_false (by omega))
    clear hR
    go_enter Try.func5, Try.ntmps5
    go_wp2_with fail
    go_ret
    exact ⟨by rw [HRv.out]; rfl, rfl⟩
  by_cases hlp0 : 0 ≤ lp
  case neg =>
    have HRv : Hid (R = false) := Lib.hid (by rw [← hR]; exact decide_eq_false (by omega))
    clear hR
    go_enter Try.func5, Try.ntmps5
    go_wp2_with fail
    go_ret
    exact ⟨by rw [HRv.out]; rfl, rfl⟩
  by_cases hlp4 : lp ≤ 4
  case neg =>
    have HRv : Hid (R = false) := Lib.hid (by rw [← hR]; exact decide_eq_false (by omega))
    clear hR
    go_enter Try.func5, Try.ntmps5
    go_wp2_with fail
    go_ret
    exact ⟨by rw [HRv.out]; rfl, rfl⟩
  by_cases hs4 : lc + lp ≤ 4
  case neg =>
    have HRv : Hid (R = false) := Lib.hid (by rw [← hR]; exact decide_eq_false (by omega))
    clear hR
    go_enter Try.func5, Try.ntmps5
    go_wp2_with fail
    go_ret
    exact ⟨by rw [HRv.out]; rfl, rfl⟩
  by_cases hpb0 : 0 ≤ pb
  case neg =>
    have HRv : Hid (R = false) := Lib.hid (by rw [← hR]; exact decide_eq_false (by omega))
    clear hR
    go_enter Try.func5, Try.ntmps5
    go_wp2_with fail
    go_ret
    exact ⟨by rw [HRv.out]; rfl, rfl⟩
  by_cases hpb4 : pb ≤ 4
  case neg =>
    have HRv : Hid (R = false) := Lib.hid (by rw [← hR]; exact decide_eq_false (by omega))
    clear hR
    go_enter Try.func5, Try.ntmps5
    go_wp2_with fail
    go_ret
    exact ⟨by rw [HRv.out]; rfl, rfl⟩
  have HRv : Hid (R = true) := Lib.hid (by rw [← hR]; exact decide_eq_true (by omega))
  clear hR
  go_enter Try.func5, Try.ntmps5
  go_wp2_with fail
  go_ret
  exact ⟨by rw [HRv.out]; rfl, rfl⟩
theorem rGood1 : rGood (1, 1, 1, 1) := by unfold rGood; decide
theorem ms_start {g o cap C L lc lp pb : Nat} {w1 w2 : World} (hM : ModAt w1 C L lc lp pb 0 (1, 1, 1, 1) (fun _ => 1024)) (hb : Below w1.heap.size w1 w2) (hE : EncAt w2 g o cap st0) (hg : w1.heap.size ≤ g) (ho : w1.heap.size ≤ o) : MS (encIo g) w2 C L lc lp pb 0 (1, 1, 1, 1) (fun _ => 1024, st0) [g, o] := by
  have h1 := hM.clt
  have h2 := hM.llt
  refine ⟨hM.keep (hb.block _ h1) (hb.block _ h2), ⟨o, cap, rfl, hE⟩, ?_, ?_⟩
  · simp; omega
  · simp; omega
theorem st0_oks (g n : Nat) (h : n ≤ 1000000) : (encIo g).ok st0 n := ⟨st0_ok, by show 1 + 0 + 2 * n ≤ _; omega⟩
theorem sy_grow {w : World} {A : Option Addr} {H : List UInt8} {c : Nat} {k : Int} {b : UInt8} {l d q : Int} {bk : Nat} (hB : Bytes w A H) (hc : H.length ≤ c) (hH : H.length ≤ 1000000) (h1 : k ≠ 0 → 1 ≤ bk ∧ bk ≤ H.length) (h2 : k ≠ 0 → 1 ≤ l ∧ l ≤ 273) :
    (growS H k b l.toNat bk).length ≤ H.length + 300 ∧ Calls Try.prog 23 #[.slice A H.length c, SyV k b l d q, .int .i64 (bk : Nat)] w (GrowDone (growS H k b l.toNat bk) w) := by
  by_cases hk : k = 0
  · subst hk
    refine ⟨grow_length (fun h => absurd rfl h), ?_⟩
    rw [growS_zero H b l.toNat 0 bk bk]
    exact grow_lit A H c b l d q bk w hB hc hH
  · obtain ⟨m, rfl⟩ : ∃ m : Nat, l = (m : Int) := ⟨l.toNat, by have := h2 hk; omega⟩
    have hm := h2 hk
    rw [Int.toNat_natCast]
    exact ⟨grow_length (fun _ => by omega), grow_any A H c k b m d q bk w hB hc hH (by omega) h1⟩
end Go.Proofs.Ytdkimllfpiphgaa

/- What came in: symbols, and bytes with the block where they lie. -/
namespace Go.Proofs.Ytdkimllfpiphgaa
open Go.ChangeShapes Go.WideShapes Go.ChangeAt Go.RowKit Go.Joins

set_option maxRecDepth 100000 in
theorem has_block {W : World} {b0 : Nat} {t e : TypeId} {a : Addr} {len cap : Nat} (ht : Try.prog.underlying t = some (.slice e)) (h : Value.okWide Try.prog W .any b0 t (.slice (some a) len cap)) : a.block < W.heap.size := by
  simp only [Value.okWide, ht, Cell.okWide, Cell.ok, World.has] at h
  obtain ⟨_, _, _, _, row, cells, hs, _⟩ := h
  rcases Nat.lt_or_ge a.block W.heap.size with h | h
  · exact h
  · unfold World.shape? at hs
    rw [Array.getElem?_eq_none h] at hs
    cases hs
set_option maxRecDepth 100000 in
theorem open_bytesb {H : Type} {enc : TypeId × Value → H} {W : World} {b0 : Nat} {v : Value} {d : DataW H} {p : List MemPlace}
    (hval : Value.okWide Try.prog W .any b0 22 v) (h : DataW.Trod enc Try.prog W 0 (fun _ => true) true 22 v d p) :
    ∃ (A : Option Addr) (l : List UInt8) (c : Nat), v = .slice A l.length c ∧ l.length ≤ c ∧ c ≤ 9223372036854775807 ∧ (Bytes W A l ∧ ∀ a, A = some a → a.block < W.heap.size) := by
  obtain ⟨A, l, c, rfl, h1, h2, h3⟩ := open_bytes hval h
  refine ⟨A, l, c, rfl, h1, h2, h3, fun a e => ?_⟩
  subst e
  exact has_block Try.underlying22 hval
theorem cellsSym : Try.prog.cellsOf 58 = 5 := by kernel_rfl
set_option maxRecDepth 100000 in
theorem one_field {H : Type} {enc : TypeId × Value → H} {W : World} {n : Nat} {t : TypeId} {k : IntKind} {cs : List Value} {j : Nat} {y : Option (DataW H × List MemPlace)} (hk : Try.prog.underlying t = some (.int k)) (hl : j < cs.length)
    (hy : y.isSome = true) (h : DataW.trod enc Try.prog W 0 (fun _ => true) true n t ((cs.drop j).take 1) = y) : ∃ z, cs[j]? = some (.int k z) ∧ (Lit.int k z).wf = true := by
  obtain ⟨x, rfl⟩ := Option.isSome_iff_exists.1 hy
  obtain ⟨z, hz, _, hw⟩ := DataW.trod_int hk h
  refine ⟨z, ?_, hw⟩
  have e : (cs.drop j).take 1 = [cs[j]] := by rw [List.drop_eq_getElem_cons hl]; rfl
  rw [e] at hz
  injection hz with hz
  rw [List.getElem?_eq_getElem hl, hz]
theorem add_none (b o k : Nat) : (⟨b, o, none⟩ : Addr).add k = ⟨b, o + k, none⟩ := by
  unfold Addr.add; split <;> simp_all
theorem wf_byte {z : Int} (h : (Lit.int .u8 z).wf = true) : ∃ b : UInt8, z = (b.toNat : Nat) := by
  have h1 : IntKind.u8.min = 0 := rfl
  have h2 : IntKind.u8.max = 255 := rfl
  simp [Lit.wf] at h
  exact ⟨UInt8.ofNat z.toNat, by rw [UInt8.toNat_ofNat']; omega⟩
instance : Inhabited SyI := ⟨⟨0, 0, 0, 0, 0⟩⟩
set_option maxRecDepth 100000 in
theorem open_syms {H : Type} {enc : TypeId × Value → H} {W : World} {b0 : Nat} {v : Value} {d : DataW H} {p : List MemPlace}
    (hval : Value.okWide Try.prog W .any b0 53 v) (h : DataW.Trod enc Try.prog W 0 (fun _ => true) true 53 v d p) :
    ∃ (A : Option Addr) (l : List SyI) (c : Nat), v = .slice A l.length c ∧ l.length ≤ c ∧ c ≤ 9223372036854775807 ∧ Syms W A l := by
  obtain ⟨fuel, hf⟩ := h
  obtain ⟨a0, len, cap, rfl⟩ := okWide_slice Try.underlying53 hval
  rcases Go.Deep.open_slice Try.underlying53 hf with ⟨hcs, _⟩ | ⟨a, len', cap', m, n, D, Pl, hcs, _, hl, hm, hmm, _, hi⟩
  · simp [Value.cells] at hcs
    obtain ⟨rfl, rfl, rfl⟩ := hcs
    exact ⟨none, [], 0, rfl, by simp, by omega, .inl rfl⟩
  · simp [Value.cells] at hcs
    obtain ⟨rfl, rfl, rfl⟩ := hcs
    simp only [if_true] at hmm
    unfold maxLen at hm
    obtain ⟨b, off, spot⟩ := a
    have hsp : 0 < len → spot = none := by
      intro hpos
      obtain ⟨cs', hc, _⟩ := hi 0 (by omega)
      rw [cellsSym] at hc
      obtain ⟨_, hcl, hat⟩ := World.cells?_some hc
      have := World.cell?_spot ((hat 0 (by omega)).trans (List.getElem?_eq_getElem (by omega)))
      simpa [Addr.add] using this
    have key : ∀ i, i < len → spot = none ∧ b < W.heap.size ∧ ∃ f : SyI, W.cell? ⟨b, off + i * 5, none⟩ = some (.int .i64 f.k) ∧ W.cell? ⟨b, off + i * 5 + 1, none⟩ = some (.int .u8 (f.b.toNat : Nat)) ∧ W.cell? ⟨b, off + i * 5 + 2, none⟩ = some (.int .i64 f.l) ∧ W.cell? ⟨b, off + i * 5 + 3, none⟩ = some (.int .i64 f.d) ∧ W.cell? ⟨b, off + i * 5 + 4, none⟩ = some (.int .i64 f.r) := by
      intro i hil
      obtain ⟨cs', hc, ht⟩ := hi i (by omega)
      rw [cellsSym] at hc
      obtain ⟨_, hcl, hat⟩ := World.cells?_some hc
      obtain ⟨ys, n', _, _, _, hyl, hf⟩ := DataW.trod_struct Try.underlying58 ht
      have hsome : ∀ j, j < 5 → ys[j]?.isSome = true := fun j hj => by
        rw [List.getElem?_eq_getElem (by rw [hyl]; exact hj)]; rfl
      obtain ⟨z0, e0, w0⟩ := one_field (j := 0) Try.underlying3 (by omega) (hsome 0 (by omega)) (hf 0 _ rfl)
      obtain ⟨z1, e1, w1⟩ := one_field (j := 1) Try.underlying5 (by omega) (hsome 1 (by omega)) (hf 1 _ rfl)
      obtain ⟨z2, e2, w2⟩ := one_field (j := 2) Try.underlying3 (by omega) (hsome 2 (by omega)) (hf 2 _ rfl)
      obtain ⟨z3, e3, w3⟩ := one_field (j := 3) Try.underlying3 (by omega) (hsome 3 (by omega)) (hf 3 _ rfl)
      obtain ⟨z4, e4, w4⟩ := one_field (j := 4) Try.underlying3 (by omega) (hsome 4 (by omega)) (hf 4 _ rfl)
      have hspot : spot = none := hsp (by omega)
      subst hspot
      have hadd : ∀ j, ((⟨b, off, none⟩ : Addr).add (i * 5)).add j = ⟨b, off + i * 5 + j, none⟩ := by
        intro j; rw [add_none, add_none]
      have h0 := (hat 0 (by omega)).trans e0
      have h1 := (hat 1 (by omega)).trans e1
      have h2 := (hat 2 (by omega)).trans e2
      have h3 := (hat 3 (by omega)).trans e3
      have h4 := (hat 4 (by omega)).trans e4
      rw [hadd] at h0 h1 h2 h3 h4
      obtain ⟨y, rfl⟩ := wf_byte w1
      exact ⟨rfl, block_lt_of_cell h0, ⟨z0, y, z2, z3, z4⟩, h0, h1, h2, h3, h4⟩
    refine ⟨some ⟨b, off, spot⟩, (List.range len).map (fun i => if h : i < len then Classical.choose (key i h).2.2 else default), cap, by simp, by simpa using hl, hm, ?_⟩
    rcases Nat.eq_zero_or_pos len with h0 | hpos
    · subst h0; exact .inl rfl
    · obtain ⟨rfl, hb, _⟩ := key 0 hpos
      refine .inr ⟨b, off, rfl, hb, fun i hil => ?_⟩
      have hil' : i < len := by simpa using hil
      have := Classical.choose_spec (key i hil').2.2
      rw [List.getElem_map, List.getElem_range, dif_pos hil']
      exact this
theorem trodAll_five {H : Type} {enc : TypeId × Value → H} {P : Program} {w : World} {base : Nat} {spare : Nat → Bool} {held : Bool} {t t' t'' t3 t4 : TypeId} {args : Array Value} {ds : List (DataW H)} {ps : List MemPlace} (h : DataW.TrodAll enc P w base spare held [t, t', t'', t3, t4] args.toList ds ps) :
    ∃ v v' v'' v3 v4 d d' d'' d3 d4 p p' p'' p3 p4, args = #[v, v', v'', v3, v4] ∧ ds = [d, d', d'', d3, d4] ∧ ps = p ++ p' ++ p'' ++ p3 ++ p4 ∧ DataW.Trod enc P w base spare held t v d p ∧ DataW.Trod enc P w base spare held t' v' d' p' ∧ DataW.Trod enc P w base spare held t'' v'' d'' p'' ∧ DataW.Trod enc P w base spare held t3 v3 d3 p3 ∧ DataW.Trod enc P w base spare held t4 v4 d4 p4 := by
  obtain ⟨v, vs, d, ds', p, q, hargs, rfl, rfl, hd, hrest⟩ := trodAll_cons h
  obtain ⟨v', vs', d', ds'', p', q', rfl, rfl, rfl, hd', hrest'⟩ := trodAll_cons hrest
  obtain ⟨v'', vs'', d'', ds''', p'', q'', rfl, rfl, rfl, hd'', hrest''⟩ := trodAll_cons hrest'
  obtain ⟨v3, vs3, d3, ds3, p3, q3, rfl, rfl, rfl, hd3, hrest3⟩ := trodAll_cons hrest''
  obtain ⟨v4, vs4, d4, ds4, p4, q4, rfl, rfl, rfl, hd4, hrest4⟩ := trodAll_cons hrest3
  obtain ⟨rfl, rfl, rfl⟩ := trodAll_nil hrest4
  exact ⟨v, v', v'', v3, v4, d, d', d'', d3, d4, p, p', p'', p3, p4, by cases args; simp_all, rfl, by simp, hd, hd', hd'', hd3, hd4⟩
end Go.Proofs.Ytdkimllfpiphgaa
