/- Several texts in one: MlGrow, MlBase, UmReached, UcMath, UmBackM, FdPure, FdScan. -/
import Derived.Test.YtkckjjchfccdjaaMg13
import Derived.Test.YtkckjjchfccdjaaMg14
import Derived.Test.YtkckjjchfccdjaaMg15
import Derived.Test.YtkckjjchfccdjaaMg12
import Derived.Laws.BitsAllLaws
import Derived.Test.YtkckjjchfccdjaaMg16
import Derived.Test.YtkckjjchfccdjaaMg7
import Derived.Test.YtkckjjchfccdjaaSy0
/- Grow by a literal, whatever else the symbol says. -/
namespace Go.Proofs.Ytkckjjchfccdjaa
set_option maxRecDepth 100000
open Go.RowKit

end Go.Proofs.Ytkckjjchfccdjaa

/- What laws of symbols share. -/
namespace Go.Proofs.Ytkckjjchfccdjaa
set_option maxRecDepth 100000
open Go.RowKit

theorem Only.below_of {X : List Nat} {w0 w w' : World} (hb : Below w0.heap.size w0 w) (h : Only X w w') (hX : ∀ i ∈ X, w0.heap.size ≤ i) : Below w0.heap.size w0 w' := hb.trans (h.below hb.size hX)
theorem MS.ltall {io : Io} {w : World} {C L lc lp pb st : Nat} {r : R4} {x : io.S} {X : List Nat} (h : MS io w C L lc lp pb st r x X) : ∀ i ∈ C :: L :: X, i < w.heap.size := by
  intro i hi
  simp only [List.mem_cons] at hi
  rcases hi with rfl | rfl | hi
  · exact h.mod.clt
  · exact h.mod.llt
  · exact io.lt h.io i hi
/-- A symbol as the law holds it. -/
structure SyI where
  k : Int
  b : UInt8
  l : Int
  d : Int
  r : Int
def Syms (w : World) (A : Option Addr) (l : List SyI) : Prop := l = [] ∨ ∃ b off, A = some ⟨b, off, none⟩ ∧ b < w.heap.size ∧ ∀ i (h : i < l.length), w.cell? ⟨b, off + i * 5, none⟩ = some (.int .i64 l[i].k) ∧ w.cell? ⟨b, off + i * 5 + 1, none⟩ = some (.int .u8 (l[i].b.toNat : Nat)) ∧ w.cell? ⟨b, off + i * 5 + 2, none⟩ = some (.int .i64 l[i].l) ∧ w.cell? ⟨b, off + i * 5 + 3, none⟩ = some (.int .i64 l[i].d) ∧ w.cell? ⟨b, off + i * 5 + 4, none⟩ = some (.int .i64 l[i].r)
theorem stateAfter_lt {st : Nat} {k l : Int} {st' : Nat} (hst : st < 12) (h : ((st' : Nat) : Int) = stateAfter (st : Nat) k l) : st' < 12 := by
  unfold stateAfter at h
  split at h
  · split at h
    · omega
    · split at h <;> omega
  · split at h
    · split at h <;> omega
    · split at h
      · omega
      · split at h <;> omega
theorem enc_ok_small {g : Nat} {s : Rc.St} (h : (encIo g).ok s 100) : s.v < 256 ^ (4 + s.k) ∧ 1 + s.k + 4 ≤ 140737488355328 ∧ 4 + s.k + 1 ≤ 140737488355328 := by
  obtain ⟨⟨⟨h1, h2⟩, h3⟩, h4⟩ := h
  refine ⟨?_, by omega, by omega⟩
  have : s.v + s.r ≤ 256 ^ (4 + s.k) := h1
  omega
theorem syms_at {w : World} {A1 : Option Addr} {l : List SyI} (h : Syms w A1 l) {n : Nat} (hn : n < l.length) : ∃ b off, A1 = some ⟨b, off, none⟩ ∧ ∀ W, Below w.heap.size w W → W.cell? ⟨b, off + n * 5, none⟩ = some (.int .i64 l[n].k) ∧ W.cell? ⟨b, off + n * 5 + 1, none⟩ = some (.int .u8 (l[n].b.toNat : Nat)) ∧ W.cell? ⟨b, off + n * 5 + 2, none⟩ = some (.int .i64 l[n].l) ∧ W.cell? ⟨b, off + n * 5 + 3, none⟩ = some (.int .i64 l[n].d) ∧ W.cell? ⟨b, off + n * 5 + 4, none⟩ = some (.int .i64 l[n].r) := by
  rcases h with rfl | ⟨b, off, hA, hb, hc⟩
  · simp at hn
  · refine ⟨b, off, hA, fun W hW => ?_⟩
    obtain ⟨c0, c1, c2, c3, c4⟩ := hc n hn
    exact ⟨(hW.cell (p := ⟨b, _, none⟩) hb).trans c0, (hW.cell (p := ⟨b, _, none⟩) hb).trans c1, (hW.cell (p := ⟨b, _, none⟩) hb).trans c2, (hW.cell (p := ⟨b, _, none⟩) hb).trans c3, (hW.cell (p := ⟨b, _, none⟩) hb).trans c4⟩
theorem dist_back {r : R4} {H : List UInt8} {k l d q : Int} (hr : rGood r) (hf : fitsZ r (H.length : Int) k l d q = true) : ∃ bk : Nat, distZ r k d q = (bk : Int) ∧ (k ≠ 0 → 1 ≤ bk ∧ bk ≤ H.length) ∧ (k = 2 → 0 ≤ q ∧ q ≤ 3) ∧ (k ≠ 0 → 1 ≤ l ∧ l ≤ 273) := by
  rcases fitsZ_cases hf with rfl | ⟨rfl, h2, h3, h4, h5, h6⟩ | ⟨rfl, h0, h1, h4, h5⟩
  · exact ⟨0, rfl, fun h => absurd rfl h, fun h => absurd h (by decide), fun h => absurd rfl h⟩
  · refine ⟨d.toNat, ?_, fun _ => by omega, fun h => absurd h (by decide), fun _ => by omega⟩
    unfold distZ
    rw [if_pos rfl]; omega
  · have hq : 1 ≤ rAt r q := by
      obtain ⟨⟨a1, a2, a3, a4⟩, _⟩ := hr
      unfold rAt
      rcases (by omega : q = 0 ∨ q = 1 ∨ q = 2 ∨ q = 3) with rfl | rfl | rfl | rfl
      · exact a1
      · exact a2
      · exact a3
      · exact a4
    refine ⟨(rAt r q).toNat, ?_, fun _ => by omega, fun _ => ⟨h0, h1⟩, fun _ => by omega⟩
    unfold distZ
    rw [if_neg (by decide), if_pos rfl]; omega
theorem grow_length {H : List UInt8} {k : Int} {b : UInt8} {l back : Nat} (hl : k ≠ 0 → l ≤ 273) : (growS H k b l back).length ≤ H.length + 300 := by
  unfold growS
  by_cases h : k = 0
  · rw [if_pos h]; simp
  · rw [if_neg h, growN_length]; have := hl h; omega
set_option maxRecDepth 100000 in
set_option maxHeartbeats 1000000 in
theorem may_any (lc lp pb : Int) (w : World) : Calls Try.prog 15 #[.int .i64 lc, .int .i64 lp, .int .i64 pb] w fun e w' => e = .returned (.bool (permB lc lp pb)) ∧ w = w' := by
  obtain ⟨R, hR⟩ : ∃ R, permB lc lp pb = R := ⟨_, rfl⟩
  rw [hR]
  by_cases hlc0 : 0 ≤ lc
  case neg =>
    have HRv : Hid (R = false) := Lib.hid (by rw [← hR]; exact decide_eq_false (by omega))
    clear hR
    go_enter Try.func15, Try.ntmps15
    go_wp2_with fail
    go_ret
    exact ⟨by rw [HRv.out]; rfl, rfl⟩
  by_cases hlc4 : lc ≤ 4
  case neg =>
    have HRv : Hid (R = false) := Lib.hid (by rw [← hR]; exact decide_eq_false (by omega))
    clear hR
    go_enter Try.func15, Try.ntmps15
    go_wp2_with fail
    go_ret
    exact ⟨by rw [HRv.out]; rfl, rfl⟩
  by_cases hlp0 : 0 ≤ lp
  case neg =>
    have HRv : Hid (R = false) := Lib.hid (by rw [← hR]; exact decide_eq_false (by omega))
    clear hR
    go_enter Try.func15, Try.ntmps15
    go_wp2_with fail
    go_ret
    exact ⟨by rw [HRv.out]; rfl, rfl⟩
  by_cases hlp4 : lp ≤ 4
  case neg =>
    have HRv : Hid (R = false) := Lib.hid (by rw [← hR]; exact decide_eq_false (by omega))
    clear hR
    go_enter Try.func15, Try.ntmps15
    go_wp2_with fail
    go_ret
    exact ⟨by rw [HRv.out]; rfl, rfl⟩
  by_cases hs4 : lc + lp ≤ 4
  case neg =>
    have HRv : Hid (R = false) := Lib.hid (by rw [← hR]; exact decide_eq_false (by omega))
    clear hR
    go_enter Try.func15, Try.ntmps15
    go_wp2_with fail
    go_ret
    exact ⟨by rw [HRv.out]; rfl, rfl⟩
  by_cases hpb0 : 0 ≤ pb
  case neg =>
    have HRv : Hid (R = false) := Lib.hid (by rw [← hR]; exact decide_eq_false (by omega))
    clear hR
    go_enter Try.func15, Try.ntmps15
    go_wp2_with fail
    go_ret
    exact ⟨by rw [HRv.out]; rfl, rfl⟩
  by_cases hpb4 : pb ≤ 4
  case neg =>
    have HRv : Hid (R = false) := Lib.hid (by rw [← hR]; exact decide_eq_false (by omega))
    clear hR
    go_enter Try.func15, Try.ntmps15
    go_wp2_with fail
    go_ret
    exact ⟨by rw [HRv.out]; rfl, rfl⟩
  have HRv : Hid (R = true) := Lib.hid (by rw [← hR]; exact decide_eq_true (by omega))
  clear hR
  go_enter Try.func15, Try.ntmps15
  go_wp2_with fail
  go_ret
  exact ⟨by rw [HRv.out]; rfl, rfl⟩
theorem rGood1 : rGood (1, 1, 1, 1) := by unfold rGood; decide
theorem ms_start {g o cap C L lc lp pb : Nat} {w1 w2 : World} (hM : ModAt w1 C L lc lp pb 0 (1, 1, 1, 1) (fun _ => 1024)) (hb : Below w1.heap.size w1 w2) (hE : EncAt w2 g o cap st0) (hg : w1.heap.size ≤ g) (ho : w1.heap.size ≤ o) : MS (encIo g) w2 C L lc lp pb 0 (1, 1, 1, 1) (fun _ => 1024, st0) [g, o] := by
  have h1 := hM.clt
  have h2 := hM.llt
  refine ⟨hM.keep (hb.block _ h1) (hb.block _ h2), ⟨o, cap, rfl, hE⟩, ?_, ?_⟩
  · simp; omega
  · simp; omega
theorem st0_oks (g n : Nat) (h : n ≤ 1000000) : (encIo g).ok st0 n := ⟨st0_ok, by show 1 + 0 + 2 * n ≤ _; omega⟩
end Go.Proofs.Ytkckjjchfccdjaa

/- unmodel's reached: a history's end. -/
namespace Go.Proofs.Ytkckjjchfccdjaa
set_option maxRecDepth 100000
open Go.RowKit

theorem and_high (x : Nat) (hx : x < 2 ^ 64) : x &&& (18446744073709551615 - 15) = x / 16 * 16 := by
  have e1 : (18446744073709551615 - 15 : Nat) = (2 ^ 60 - 1) * 2 ^ 4 := by decide
  rw [e1]
  apply Nat.eq_of_testBit_eq
  intro i
  have e2 : x / 16 * 16 = x / 2 ^ 4 * 2 ^ 4 := rfl
  rw [e2, Nat.testBit_and, Nat.testBit_mul_two_pow, Nat.testBit_mul_two_pow, Nat.testBit_two_pow_sub_one, Nat.testBit_div_two_pow]
  by_cases h4 : 4 ≤ i
  · have e3 : i - 4 + 4 = i := by omega
    rw [e3]
    by_cases h60 : i - 4 < 60
    · simp [h4, h60]
    · have hb : x.testBit i = false := Nat.testBit_lt_two_pow (Nat.lt_of_lt_of_le hx (Nat.pow_le_pow_right (by decide) (by omega)))
      simp [hb]
  · simp [h4]
theorem andNot15 (n : Nat) (hn : n < 9223372036854775808) : bits .andNot .i64 (n : Int) 15 = ((n / 16 * 16 : Nat) : Int) := by
  show IntKind.i64.wrap ((BitVec.ofInt 64 (n : Int) &&& ~~~BitVec.ofInt 64 15).toNat : Int) = _
  have h1 : (BitVec.ofInt 64 (n : Int)).toNat = n := by
    rw [BitVec.toNat_ofInt]; omega
  have h2 : (BitVec.ofInt 64 (15 : Int)).toNat = 15 := by decide
  rw [BitVec.toNat_and, BitVec.toNat_not, h1, h2]
  have e : 2 ^ 64 - 1 - 15 = 18446744073709551615 - 15 := by decide
  rw [e, and_high n (by omega)]
  have hle : n / 16 * 16 ≤ n := Nat.div_mul_le_self n 16
  generalize n / 16 * 16 = q at *
  unfold IntKind.wrap
  simp [IntKind.bits, IntKind.signed]
  omega
def cutOf (n : Nat) (back : Int) : Nat := (max ((n : Int) - back) 0).toNat / 16 * 16
theorem cutOf_le (n : Nat) {back : Int} (h : 0 ≤ back) : cutOf n back ≤ n := by
  unfold cutOf
  have := Nat.div_mul_le_self (max ((n : Int) - back) 0).toNat 16
  omega
set_option maxRecDepth 100000 in
set_option maxHeartbeats 1000000 in
theorem reached_any (A : Option Addr) (H : List UInt8) (c : Nat) (back : Int) (w : World) (hc : H.length ≤ c) (hH : H.length ≤ 1000000000) (h1 : 1 ≤ back) (h2 : back ≤ 9223372036854775807) :
    Calls Try.prog 71 #[.slice A H.length c, .int .i64 back] w fun e w' => e = .returned (.slice (if c = cutOf H.length back then A else A.map (·.add (cutOf H.length back))) (H.length - cutOf H.length back) (c - cutOf H.length back)) ∧ w = w' := by
  obtain ⟨n, hn⟩ : ∃ n, H.length = n := ⟨_, rfl⟩
  rw [hn] at hc hH ⊢
  obtain ⟨m, hm⟩ : ∃ m : Nat, (max ((n : Int) - back) 0).toNat = m := ⟨_, rfl⟩
  have hmi : max ((n : Int) - back) 0 = (m : Int) := by omega
  have hmn : m ≤ n := by omega
  have hcut : cutOf n back = m / 16 * 16 := by unfold cutOf; rw [hm]
  have hb := andNot15 m (by omega)
  have hle : m / 16 * 16 ≤ m := Nat.div_mul_le_self m 16
  rw [hcut]
  generalize m / 16 * 16 = q at *
  have hni : (n : Int) ≤ 1000000000 := by omega
  have hqn : (q : Int) ≤ (n : Int) := by omega
  have hci : (n : Int) ≤ (c : Int) := by omega
  have hsb : wrap64 ((n : Int) - back) = (n : Int) - back := by unfold wrap64; omega
  obtain ⟨AT, hAT⟩ : ∃ AT, (if c = q then A else A.map (·.add q)) = AT := ⟨_, rfl⟩
  rw [hAT]
  have HAT := Lib.hid hAT
  clear hn hm hcut hAT
  go_enter Try.func71, Try.ntmps71
  go_wp2_with fail
  · go_ret
    refine ⟨?_, rfl⟩
    rw [← HAT.out, if_pos (by first | assumption | omega)]; rfl
  · go_ret
    refine ⟨?_, rfl⟩
    rw [← HAT.out, if_neg (by assumption)]; rfl
end Go.Proofs.Ytkckjjchfccdjaa

/- Chunks read back: what they come to, as mathematics. -/
namespace Go.Proofs.Ytkckjjchfccdjaa
set_option maxRecDepth 100000
open Go.RowKit

/-- What a chunk leaves to the next one. -/
structure CkS where
  out : List UInt8
  start : Nat
  clear : Bool
  asked : Bool
  lc : Nat
  lp : Nat
  pb : Nat
  st : Nat
  r : R4
  P : Nat → Nat
/-- What a chunk comes to: an error, or the place behind it and what it leaves. -/
inductive CkR where
  | bad (n : Nat)
  | go (pos : Nat) (s : CkS)
def ck0 : CkS := ⟨[], 0, false, false, 0, 0, 0, 0, (1, 1, 1, 1), fun _ => 1024⟩
def ckTwo (B : List UInt8) (i : Nat) : Nat := 256 * (B.getD i 0).toNat + (B.getD (i + 1) 0).toNat
theorem ckTwo_lt (B : List UInt8) (i : Nat) : ckTwo B i < 65536 := by
  unfold ckTwo
  have h1 := (B.getD i 0).toNat_lt
  have h2 := (B.getD (i + 1) 0).toNat_lt
  omega
theorem ckTwo_cut (B : List UInt8) {k n i : Nat} (h : i + 2 ≤ n) : ckTwo ((B.drop k).take n) i = ckTwo B (k + i) := by
  unfold ckTwo
  have e : ∀ j, j < n → ((B.drop k).take n).getD j 0 = B.getD (k + j) 0 := fun j hj => by
    simp only [List.getD_eq_getElem?_getD, List.getElem?_take, List.getElem?_drop, hj, if_true]
  rw [e i (by omega), e (i + 1) (by omega)]; rfl
def unstore (B : List UInt8) (pos : Nat) (s : CkS) : CkR :=
  if B.length < pos + 2 then .bad 2
  else if B.length < pos + 2 + (ckTwo B pos + 1) then .bad 2
  else .go (pos + 2 + (ckTwo B pos + 1)) { s with out := s.out ++ (B.drop (pos + 2)).take (ckTwo B pos + 1) }
/-- What the decoded bytes make of it. -/
def unmore (L : List UInt8) (h : Nat) (pos : Nat) (s : CkS) : Option (List UInt8 × Nat × R4 × PD) → CkR
  | none => .bad 6
  | some (T, st, r, y) => if y.2.done L = true then .go pos { s with out := s.out ++ T.drop h, st := st, r := r, P := y.1 } else .bad 6
def undecode (L : List UInt8) (size : Nat) (dict : Int) (pos : Nat) (s : CkS) : CkR :=
  if L.length < 5 then .bad 6
  else if L.getD 0 0 ≠ 0 then .bad 6
  else unmore L (s.out.drop s.start).length pos s (uread 0 0 0 L s.lc s.lp s.pb dict ((s.out.drop s.start).length + size) size (s.out.drop s.start) s.st s.r (s.P, Rd.start L))
def unprops (c : Nat) (B : List UInt8) (pos : Nat) (s : CkS) : CkR :=
  if c < 192 then .go pos s
  else if B.length < pos + 1 then .bad 2
  else .go (pos + 1) { s with lc := (B.getD pos 0).toNat % 9, lp := (B.getD pos 0).toNat / 9 % 5, pb := (B.getD pos 0).toNat / 45, asked := false }
def ckFresh (s : CkS) : CkS := { s with st := 0, r := (1, 1, 1, 1), P := fun _ => 1024 }
def unnew (c : Nat) (pos : Nat) (s : CkS) : CkR :=
  if c < 160 then .go pos s
  else if permB (s.lc : Nat) (s.lp : Nat) (s.pb : Nat) = false then .bad 6
  else .go pos (ckFresh s)
def unbytes (B : List UInt8) (many size : Nat) (dict : Int) (pos : Nat) (s : CkS) : CkR :=
  if B.length < pos + many then .bad 2 else undecode ((B.drop pos).take many) size dict (pos + many) s
def CkR.then (x : CkR) (f : Nat → CkS → CkR) : CkR :=
  match x with
  | .bad n => .bad n
  | .go pos s => f pos s
def unpackC (B : List UInt8) (dict : Int) (c pos : Nat) (s : CkS) : CkR :=
  if B.length < pos + 4 then .bad 2
  else ((unprops c B (pos + 4) s).then (unnew c)).then (unbytes B (ckTwo B (pos + 2) + 1) (65536 * (c % 32) + ckTwo B pos + 1) dict)
def unclear (c : Nat) (s : CkS) : CkS := if c = 1 ∨ 224 ≤ c then { s with start := s.out.length, clear := true, asked := true } else s
def unchunk1 (B : List UInt8) (dict : Int) (c pos : Nat) (s : CkS) : CkR :=
  if s.clear = false ∨ (2 < c ∧ c < 128) then .bad 6
  else if c ≤ 2 then unstore B pos s
  else if c < 192 ∧ s.asked = true then .bad 6
  else unpackC B dict c pos s
def unchunkC (B : List UInt8) (dict : Int) (c pos : Nat) (s : CkS) : CkR := unchunk1 B dict c pos (unclear c s)
/-- All chunks: what was read, how many bytes they are, an error's number. -/
def unchunkAll (B : List UInt8) (dict : Int) : Nat → Nat → CkS → List UInt8 × Nat × Nat
  | 0, _, _ => ([], 0, 2)
  | f + 1, pos, s =>
    if B.length < pos + 1 then ([], 0, 2)
    else if (B.getD pos 0).toNat = 0 then (s.out, pos + 1, 0)
    else match unchunkC B dict (B.getD pos 0).toNat (pos + 1) s with
      | .bad n => ([], 0, n)
      | .go p t => unchunkAll B dict f p t
/-- None of it is longer than this, on the way. -/
def CkShort (B : List UInt8) (dict : Int) : Nat → Nat → CkS → Prop
  | 0, _, s => s.out.length ≤ 400000000
  | f + 1, pos, s => s.out.length ≤ 400000000 ∧ (pos < B.length → (B.getD pos 0).toNat ≠ 0 →
    match unchunkC B dict (B.getD pos 0).toNat (pos + 1) s with
    | .bad _ => True
    | .go p t => CkShort B dict f p t)
/-- What is read doesn't hang on where the decoder lies. -/
theorem uread_addr {gd o cap : Nat} {L : List UInt8} {lc lp pb : Nat} {dict : Int} {fin : Nat} : ∀ (f : Nat) (T : List UInt8) (st : Nat) (r : R4) (y : PD), uread gd o cap L lc lp pb dict fin f T st r y = uread 0 0 0 L lc lp pb dict fin f T st r y := by
  intro f
  induction f with
  | zero => intro T st r y; rfl
  | succ f ih =>
    intro T st r y
    obtain ⟨⟨s, st', r', y'⟩, ht⟩ : ∃ t, Md.sym (decIo gd o cap L) lc lp pb st r T 0 0 0 0 0 y = t := ⟨_, rfl⟩
    have ht0 : Md.sym (decIo 0 0 0 L) lc lp pb st r T 0 0 0 0 0 y = (s, st', r', y') := (sym_a gd o cap L lc lp pb st r T 0 0 0 0 0 y).symm.trans ht
    by_cases h : fin ≤ T.length
    · rw [uread_end h, uread_end h]
    · have h1 : T.length < fin := by omega
      by_cases ho : y'.2.out = true
      · rw [uread_out h1 ht ho, uread_out h1 ht0 ho]
      · have ho' : y'.2.out = false := by simpa using ho
        by_cases hk : s.k = 0
        · rw [uread_lit h1 ht ho' hk, uread_lit h1 ht0 ho' hk]; exact ih _ _ _ _
        · by_cases hb : min (T.length : Int) dict < r'.1 ∨ fin - T.length < s.l
          · rw [uread_bad h1 ht hk hb, uread_bad h1 ht0 hk hb]
          · rw [uread_far h1 ht ho' hk hb, uread_far h1 ht0 ho' hk hb]; exact ih _ _ _ _
theorem uread_cutG {gd o cap : Nat} {L : List UInt8} {lc lp pb : Nat} {dict : Int} (hlp : lp ≤ 4) (hpb : pb ≤ 4) (H : List UInt8) (many : Nat) (st : Nat) (r : R4) (y : PD) (hr : rPos r) :
    uread gd o cap L lc lp pb dict (H.length - cutOf H.length (max dict r.1) + many) many (H.drop (cutOf H.length (max dict r.1))) st r y = (uread gd o cap L lc lp pb dict (H.length + many) many H st r y).map fun q => (q.1.drop (cutOf H.length (max dict r.1)), q.2) := by
  have hr1 : 1 ≤ r.1 := hr.1
  have hle := cutOf_le H.length (show 0 ≤ max dict r.1 by omega)
  have hu := uread_trim (gd := gd) (o := o) (cap := cap) (L := L) (lc := lc) (lp := lp) (pb := pb) (cut := cutOf H.length (max dict r.1)) (dict := dict) (fin := H.length - cutOf H.length (max dict r.1) + many) hlp hpb many H st r y hr (by
    unfold cutOf
    generalize hx : (max ((H.length : Int) - max dict r.1) 0).toNat = x
    by_cases h0 : x / 16 * 16 = 0
    · exact .inl h0
    · refine .inr ⟨by omega, ?_, ?_, ?_⟩
      · omega
      · omega
      · omega)
  rw [hu, show H.length - cutOf H.length (max dict r.1) + many + cutOf H.length (max dict r.1) = H.length + many by omega]
theorem uread_grow {gd o cap : Nat} {L : List UInt8} {lc lp pb : Nat} {dict : Int} {fin : Nat} : ∀ (f : Nat) (T : List UInt8) (st : Nat) (r : R4) (y : PD) {q : List UInt8 × Nat × R4 × PD}, uread gd o cap L lc lp pb dict fin f T st r y = some q → T.length ≤ q.1.length ∧ (T.length ≤ fin → q.1.length ≤ fin)
  | 0, T, st, r, y, q, h => by
    unfold uread at h
    split at h
    · injection h with h; rw [← h]; exact ⟨Nat.le_refl _, fun h => h⟩
    · cases h
  | f + 1, T, st, r, y, q, h => by
    unfold uread at h
    split at h
    · injection h with h; rw [← h]; exact ⟨Nat.le_refl _, fun h => h⟩
    · split at h
      · cases h
      · split at h
        · have := uread_grow f _ _ _ _ h
          rw [List.length_append, List.length_singleton] at this
          omega
        · split at h
          · cases h
          · have := uread_grow f _ _ _ _ h
            rw [growN_length] at this
            omega
end Go.Proofs.Ytkckjjchfccdjaa

/- UnmodelBack: the mathematics. -/
namespace Go.Proofs.Ytkckjjchfccdjaa
set_option maxRecDepth 100000
open Go.RowKit

theorem first_at {P : Nat → Prop} : ∀ (n : Nat), (∃ t, t < n ∧ P t) → ∃ t, t < n ∧ P t ∧ ∀ i, i < t → ¬ P i
  | 0, h => by obtain ⟨t, h1, _⟩ := h; omega
  | n + 1, h => by
    by_cases hn : ∃ t, t < n ∧ P t
    · obtain ⟨t, h1, h2, h3⟩ := first_at n hn
      exact ⟨t, by omega, h2, h3⟩
    · obtain ⟨t, h1, h2⟩ := h
      refine ⟨t, h1, h2, fun i hi hp => hn ⟨i, ?_, hp⟩⟩
      omega
theorem cut_ok {n : Nat} {dict r1 : Int} (hr : 1 ≤ r1) : cutOf n (max dict r1) = 0 ∨ (cutOf n (max dict r1) % 16 = 0 ∧ cutOf n (max dict r1) < n ∧ r1 ≤ ((n - cutOf n (max dict r1) : Nat) : Int) ∧ dict ≤ ((n - cutOf n (max dict r1) : Nat) : Int)) := by
  unfold cutOf
  obtain ⟨m, hm⟩ : ∃ m, (max ((n : Int) - max dict r1) 0).toNat = m := ⟨_, rfl⟩
  rw [hm]
  have h16 : m / 16 * 16 % 16 = 0 := Nat.mul_mod_left _ _
  have hle : m / 16 * 16 ≤ m := Nat.div_mul_le_self m 16
  generalize m / 16 * 16 = q at *
  omega
section
variable {g lc lp pb : Nat} {ss : List Sy} {M : Nat → MSt} {L : List UInt8} {gd o cap : Nat} {H0 : List UInt8} {dict : Int}
theorem Chain.mono (h : Chain g lc lp pb ss M) {i j : Nat} (hij : i ≤ j) (hj : j ≤ ss.length) : (M i).H.length + (j - i) ≤ (M j).H.length := by
  have := h.longer (j - i) i (by omega)
  rw [show i + (j - i) = j by omega] at this
  exact this
theorem fair0 : Fair (fun _ => 1024) := fun _ => ⟨show 1 ≤ 1024 by decide, show 1024 ≤ 2047 by decide⟩
theorem um_ok (h : Chain g lc lp pb ss M) (h0 : M 0 = ⟨H0, 0, (1, 1, 1, 1), (fun _ => 1024, st0)⟩) (hok : (M ss.length).x.2.ok) (hL : L = Rc.be (5 + (M ss.length).x.2.k) (M ss.length).x.2.v) (hlp : lp ≤ 4) (hpb : pb ≤ 4)
    (hd : ∀ i (hi : i < ss.length), ss[i].k ≠ 0 → distZ (M i).r (ss[i].k : Nat) (ss[i].d : Nat) (ss[i].r : Nat) ≤ dict) {many : Nat} (hm : H0.length + many = (M ss.length).H.length) :
    ∃ y', Sim (M ss.length).x.2 L (M ss.length).x y' ∧ uread gd o cap L lc lp pb dict (H0.length - cutOf H0.length (max dict 1) + many) many (H0.drop (cutOf H0.length (max dict 1))) 0 (1, 1, 1, 1) (fun _ => 1024, Rd.start L) = some ((M ss.length).H.drop (cutOf H0.length (max dict 1)), (M ss.length).st, (M ss.length).r, y') := by
  have hf0 : Fair (M 0).x.1 := by rw [h0]; exact fair0
  have hs0 : Sim (M ss.length).x.2 L (M 0).x (fun _ => 1024, Rd.start L) := by rw [h0]; exact sim_start hok hL
  have hcl := cutOf_le H0.length (show 0 ≤ max dict 1 by omega)
  have hM0 : (M 0).H.length = H0.length := by rw [h0]
  have hlong := h.mono (Nat.zero_le _) (Nat.le_refl _)
  obtain ⟨y', hs, hu⟩ := h.reads (gd := gd) (o := o) (cap := cap) (dict := dict) (fin := (M ss.length).H.length) hf0 hok hL hs0 ss.length (Nat.le_refl _) (fun i hi => ⟨by have := h.mono (show i + 1 ≤ ss.length from hi) (Nat.le_refl _); omega, hd i hi⟩)
  refine ⟨y', hs, ?_⟩
  rw [uread_trim hlp hpb many H0 0 (1, 1, 1, 1) _ (by unfold rPos; decide) (cut_ok (by decide))]
  have e1 : H0.length - cutOf H0.length (max dict 1) + many + cutOf H0.length (max dict 1) = (M ss.length).H.length := by omega
  have hu2 := hu (many - ss.length)
  rw [show many - ss.length + ss.length = many by omega, uread_end (Nat.le_refl _), h0] at hu2
  rw [e1]
  simp only at hu2
  rw [hu2]; rfl
theorem um_bad (h : Chain g lc lp pb ss M) (h0 : M 0 = ⟨H0, 0, (1, 1, 1, 1), (fun _ => 1024, st0)⟩) (hok : (M ss.length).x.2.ok) (hL : L = Rc.be (5 + (M ss.length).x.2.k) (M ss.length).x.2.v) (hlp : lp ≤ 4) (hpb : pb ≤ 4) {many t : Nat} (ht : t < ss.length)
    (hd : ∀ i (hi : i < t), (M (i + 1)).H.length ≤ H0.length + many ∧ (ss[i].k ≠ 0 → distZ (M i).r (ss[i].k : Nat) (ss[i].d : Nat) (ss[i].r : Nat) ≤ dict)) (h1 : (M t).H.length < H0.length + many) (hk : ss[t].k ≠ 0) (hb : dict < distZ (M t).r (ss[t].k : Nat) (ss[t].d : Nat) (ss[t].r : Nat) ∨ H0.length + many - (M t).H.length < ss[t].l) :
    uread gd o cap L lc lp pb dict (H0.length - cutOf H0.length (max dict 1) + many) many (H0.drop (cutOf H0.length (max dict 1))) 0 (1, 1, 1, 1) (fun _ => 1024, Rd.start L) = none := by
  have hf0 : Fair (M 0).x.1 := by rw [h0]; exact fair0
  have hs0 : Sim (M ss.length).x.2 L (M 0).x (fun _ => 1024, Rd.start L) := by rw [h0]; exact sim_start hok hL
  have hcl := cutOf_le H0.length (show 0 ≤ max dict 1 by omega)
  have hM0 : (M 0).H.length = H0.length := by rw [h0]
  have hlong := h.mono (Nat.zero_le t) (Nat.le_of_lt ht)
  obtain ⟨y', hs, hu⟩ := h.reads (gd := gd) (o := o) (cap := cap) (dict := dict) (fin := H0.length + many) hf0 hok hL hs0 t (Nat.le_of_lt ht) hd
  have hfail := h.fails (gd := gd) (o := o) (cap := cap) (dict := dict) (fin := H0.length + many) hf0 hok hL ht hs h1 hk hb (many - t)
  rw [uread_trim hlp hpb many H0 0 (1, 1, 1, 1) _ (by unfold rPos; decide) (cut_ok (by decide))]
  have e1 : H0.length - cutOf H0.length (max dict 1) + many + cutOf H0.length (max dict 1) = H0.length + many := by omega
  have hu2 := hu (many - t)
  rw [show many - t + t = many by omega, hfail, h0] at hu2
  rw [e1]
  simp only at hu2
  rw [hu2]; rfl
end
end Go.Proofs.Ytkckjjchfccdjaa

/- The best of all distances: the mathematics. -/
namespace Go.Proofs.Ytkckjjchfccdjaa
set_option maxRecDepth 100000
open Go.RowKit

/-- The best of the distances 1 to D: the first of the greatest. -/
def bestTo (f : Nat → Nat) : Nat → Nat × Nat
  | 0 => (0, 0)
  | D + 1 => if (bestTo f D).1 < f (D + 1) then (f (D + 1), D + 1) else bestTo f D
/-- What P9.1 says of a place that there is. -/
def bestOf (l : List UInt8) (dict nice : Int) (p : Nat) (most : Int) : Nat × Nat :=
  if (bestTo (fun k => eqLen l p (p - k) (lim l p (min nice most))) (min (p : Int) dict).toNat).1 < 2 then (0, 0) else bestTo (fun k => eqLen l p (p - k) (lim l p (min nice most))) (min (p : Int) dict).toNat
/-- The best of all distances, told without an order: the greatest length, the least distance that has it. -/
structure BestIs (f : Nat → Nat) (D n k : Nat) : Prop where
  le : ∀ j, 1 ≤ j → j ≤ D → f j ≤ n
  lt : ∀ j, 1 ≤ j → j < k → f j < n
  at_ : (n = 0 ∧ k = 0) ∨ (1 ≤ k ∧ k ≤ D ∧ f k = n ∧ 0 < n)
theorem bestTo_is (f : Nat → Nat) : ∀ D, BestIs f D (bestTo f D).1 (bestTo f D).2
  | 0 => ⟨fun j h1 h2 => by omega, fun j h1 h2 => by simp [bestTo] at h2, .inl ⟨rfl, rfl⟩⟩
  | D + 1 => by
    have ih := bestTo_is f D
    unfold bestTo
    by_cases h : (bestTo f D).1 < f (D + 1)
    · rw [if_pos h]
      refine ⟨fun j h1 h2 => ?_, fun j h1 h2 => ?_, .inr ⟨by simp, by simp, rfl, by show 0 < f (D + 1); omega⟩⟩
      · show f j ≤ f (D + 1)
        rcases Nat.lt_or_ge j (D + 1) with h3 | h3
        · have := ih.le j h1 (by omega); omega
        · obtain rfl : j = D + 1 := by omega
          exact Nat.le_refl _
      · have h2 : j < D + 1 := h2
        show f j < f (D + 1)
        have := ih.le j h1 (by omega); omega
    · rw [if_neg h]
      refine ⟨fun j h1 h2 => ?_, ih.lt, ?_⟩
      · rcases Nat.lt_or_ge j (D + 1) with h3 | h3
        · exact ih.le j h1 (by omega)
        · obtain rfl : j = D + 1 := by omega
          omega
      · rcases ih.at_ with e | ⟨e1, e2, e3⟩
        · exact .inl e
        · exact .inr ⟨e1, by omega, e3⟩
theorem BestIs.unique {f : Nat → Nat} {D n k n' k' : Nat} (h : BestIs f D n k) (h' : BestIs f D n' k') : n = n' ∧ k = k' := by
  have hn : n = n' := by
    rcases h.at_ with ⟨e1, e2⟩ | ⟨e1, e2, e3, e4⟩
    · rcases h'.at_ with ⟨e1', _⟩ | ⟨a1, a2, a3, a4⟩
      · omega
      · have := h.le k' a1 a2; omega
    · rcases h'.at_ with ⟨a1, _⟩ | ⟨a1, a2, a3, a4⟩
      · have := h'.le k e1 e2; omega
      · have b1 := h.le k' a1 a2
        have b2 := h'.le k e1 e2
        omega
  refine ⟨hn, ?_⟩
  subst hn
  rcases h.at_ with ⟨e1, e2⟩ | ⟨e1, e2, e3, e4⟩
  · rcases h'.at_ with ⟨_, a2⟩ | ⟨a1, a2, a3, a4⟩
    · omega
    · omega
  · rcases h'.at_ with ⟨a1, _⟩ | ⟨a1, a2, a3, a4⟩
    · omega
    · rcases Nat.lt_trichotomy k k' with hlt | e | hlt
      · have := h'.lt k e1 hlt; omega
      · exact e
      · have := h.lt k' a1 hlt; omega
end Go.Proofs.Ytkckjjchfccdjaa

/- What longest comes to, over a rising list of distances. -/
namespace Go.Proofs.Ytkckjjchfccdjaa
set_option maxRecDepth 100000

/-- The best of the distances in S. -/
structure BestOn (S : Nat → Prop) (f : Nat → Nat) (n k : Nat) : Prop where
  le : ∀ j, S j → f j ≤ n
  lt : ∀ j, S j → j < k → f j < n
  at_ : (n = 0 ∧ k = 0) ∨ (S k ∧ f k = n ∧ 0 < n)
theorem BestOn.none (f : Nat → Nat) : BestOn (fun _ => False) f 0 0 := ⟨fun _ h => h.elim, fun _ h => h.elim, .inl ⟨rfl, rfl⟩⟩
theorem BestOn.iff {S T : Nat → Prop} {f : Nat → Nat} {n k : Nat} (h : BestOn S f n k) (e : ∀ j, T j ↔ S j) : BestOn T f n k :=
  ⟨fun j hj => h.le j ((e j).1 hj), fun j hj => h.lt j ((e j).1 hj), h.at_.imp id fun ⟨a, b⟩ => ⟨(e k).2 a, b⟩⟩
/-- One distance more that isn't better. -/
theorem BestOn.skip {S : Nat → Prop} {f : Nat → Nat} {n k j : Nat} (h : BestOn S f n k) (hj : ∀ s, S s → s < j) (hf : f j ≤ n) : BestOn (fun x => S x ∨ x = j) f n k := by
  refine ⟨?_, ?_, ?_⟩
  · rintro x (hx | rfl)
    · exact h.le x hx
    · exact hf
  · rintro x (hx | rfl) hlt
    · exact h.lt x hx hlt
    · rcases h.at_ with ⟨_, e⟩ | ⟨e, _⟩
      · omega
      · have := hj k e; omega
  · rcases h.at_ with e | ⟨e, e2⟩
    · exact .inl e
    · exact .inr ⟨.inl e, e2⟩
/-- One that is. -/
theorem BestOn.take {S : Nat → Prop} {f : Nat → Nat} {n k j : Nat} (h : BestOn S f n k) (hj : ∀ s, S s → s < j) (hf : n < f j) : BestOn (fun x => S x ∨ x = j) f (f j) j := by
  refine ⟨?_, ?_, .inr ⟨.inr rfl, rfl, by omega⟩⟩
  · rintro x (hx | rfl)
    · have := h.le x hx; omega
    · exact Nat.le_refl _
  · rintro x (hx | rfl) hlt
    · have := h.le x hx; omega
    · omega
/-- No more than the limit. -/
theorem eqLen_le (d : List UInt8) (p q L : Nat) : eqLen d p q L ≤ L := (isLen_eqLen d L p q).le
/-- It cannot be longer where the next byte differs. -/
theorem eqLen_cut {d : List UInt8} {p q L n : Nat} (h : d.getD (q + n) 0 ≠ d.getD (p + n) 0) : eqLen d p q L ≤ n := by
  rcases Nat.lt_or_ge n (eqLen d p q L) with hl | hl
  · exact absurd ((isLen_eqLen d L p q).eq n hl).symm h
  · exact hl
/-- Of all distances that count, only those of S are long: the best of S is the best of all, where it is long enough. -/
theorem BestOn.all {S : Nat → Prop} {f : Nat → Nat} {n k D m : Nat} (h : BestOn S f n k) (hS : ∀ j, S j → 1 ≤ j ∧ j ≤ D) (hm : ∀ j, 1 ≤ j → j ≤ D → m ≤ f j → S j) (hn : m ≤ n) (h0 : 0 < m) : BestIs f D n k := by
  refine ⟨fun j h1 h2 => ?_, fun j h1 h2 => ?_, ?_⟩
  · rcases Nat.lt_or_ge (f j) m with h3 | h3
    · omega
    · exact h.le j (hm j h1 h2 h3)
  · rcases h.at_ with ⟨e, _⟩ | ⟨e, _⟩
    · omega
    · have hk := (hS k e).2
      rcases Nat.lt_or_ge (f j) m with h3 | h3
      · omega
      · exact h.lt j (hm j h1 (by omega) h3) h2
  · rcases h.at_ with e | ⟨e, e2, e3⟩
    · omega
    · exact .inr ⟨(hS k e).1, (hS k e).2, e2, e3⟩
/-- A lesser limit tells alike, where none is as long. -/
theorem eqLen_limit {d : List UInt8} {p q L M : Nat} (hM : M ≤ L) : eqLen d p q M = min (eqLen d p q L) M := by
  have h := isLen_eqLen d L p q
  refine (IsLen.is (n := min (eqLen d p q L) M) ⟨Nat.min_le_right _ _, fun i hi => h.eq i (by omega), ?_⟩).symm
  rcases Nat.lt_or_ge (eqLen d p q L) M with hl | hl
  · rw [Nat.min_eq_left (by omega)]
    rcases h.stop with e | e
    · omega
    · exact .inr e
  · exact .inl (by omega)
end Go.Proofs.Ytkckjjchfccdjaa
