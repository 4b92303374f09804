/- A finder in memory; its same, has, Like; the reference's Back. -/
import Derived.Test.YtnglkipjiojipaaFdPure
import Derived.Lib.MinMax
namespace Go.Proofs.Ytnglkipjiojipaa
open Go.RowKit

abbrev PF (F : Nat) : Value := .pointer (some ⟨F, 0, none⟩)
structure FinderAt (w : World) (F : Nat) (A : Option Addr) (c : Nat) (d : List UInt8) (dict nice : Int) (mp : Nat) (v4 : Value) : Prop where
  box : w.heap[F]? = some (.cells [.slice A d.length c, .int .i64 dict, .int .i64 nice, .map (some mp), v4].toArray 46 (0, 0))
  bytes : Bytes w A d
  cap : d.length ≤ c
  small : d.length ≤ 100000
theorem FinderAt.lt {w : World} {F : Nat} {A : Option Addr} {c : Nat} {d : List UInt8} {dict nice : Int} {mp : Nat} {v4 : Value} (h : FinderAt w F A c d dict nice mp v4) : F < w.heap.size := (Array.getElem?_eq_some_iff.1 h.box).1
theorem FinderAt.below {w w' : World} {F : Nat} {A : Option Addr} {c : Nat} {d : List UInt8} {dict nice : Int} {mp : Nat} {v4 : Value} (h : FinderAt w F A c d dict nice mp v4) (hb : Below w.heap.size w w') : FinderAt w' F A c d dict nice mp v4 :=
  ⟨(hb.block _ h.lt).trans h.box, h.bytes.below hb, h.cap, h.small⟩
theorem FinderAt.drewN {w : World} {F : Nat} {A : Option Addr} {c : Nat} {d : List UInt8} {dict nice : Int} {mp : Nat} {v4 : Value} (h : FinderAt w F A c d dict nice mp v4) (m : Nat) : FinderAt (w.drewN m) F A c d dict nice mp v4 := h.below (below_drewN (Below.refl _ _) m)
theorem FinderAt.cells {w : World} {F : Nat} {A : Option Addr} {c : Nat} {d : List UInt8} {dict nice : Int} {mp : Nat} {v4 : Value} (h : FinderAt w F A c d dict nice mp v4) : w.cell? ⟨F, 0, none⟩ = some (.slice A d.length c) ∧ w.cell? ⟨F, 1, none⟩ = some (.int .i64 dict) ∧ w.cell? ⟨F, 2, none⟩ = some (.int .i64 nice) ∧ w.cell? ⟨F, 3, none⟩ = some (.map (some mp)) ∧ w.cell? ⟨F, 4, none⟩ = some v4 := by
  refine ⟨?_, ?_, ?_, ?_, ?_⟩ <;> (rw [cell_of_row w F _ _ _ _ h.box]; rfl)
set_option maxRecDepth 100000 in
set_option maxHeartbeats 2000000 in
theorem same_any (F : Nat) (A : Option Addr) (c : Nat) (d : List UInt8) (dict nice : Int) (mp : Nat) (v4 : Value) (p q : Nat) (lm : Int) (w : World) (hF : FinderAt w F A c d dict nice mp v4) (hp : p + lm.toNat ≤ d.length) (hq : q ≤ p) :
    Calls Try.prog 26 #[PF F, .int .i64 (p : Nat), .int .i64 (q : Nat), .int .i64 lm] w fun e w' => e = .returned (.int .i64 (eqLen d p q lm.toNat : Nat)) ∧ ∃ m, w' = w.drewN m := by
  obtain ⟨c0, _, _, _, _⟩ := hF.cells
  have HAD := Lib.hid (fun (h : 0 < d.length) => hF.bytes.addr h)
  have hli : (d.length : Int) ≤ 100000 := by have := hF.small; omega
  have hci : (d.length : Int) ≤ (c : Int) := by have := hF.cap; omega
  obtain ⟨L, hL⟩ : ∃ L, lm.toNat = L := ⟨_, rfl⟩
  rw [hL] at hp ⊢
  have HL : Hid (∀ n : Nat, n < L ↔ (n : Int) < lm) := Lib.hid (fun n => by omega)
  have HU := Lib.hid (fun n (h : IsLen d p q L n) => h.is)
  obtain ⟨E, hE⟩ : ∃ E, eqLen d p q L = E := ⟨_, rfl⟩
  rw [hE] at HU ⊢
  have HPQ := Lib.hid (And.intro hp hq)
  clear hF hL hE hp hq
  go_enter Try.func26, Try.ntmps26
  go_wp2_with fail
  go_loopw [9] (fun i wr => ∃ (n m : Nat), n ≤ L ∧ i = .int .i64 (n : Nat) ∧ Hid (∀ i, i < n → d.getD (p + i) 0 = d.getD (q + i) 0) ∧ wr = w.drewN m) (fun i _ => L - (intOf i).toNat)
  case atStart => exact ⟨0, 0, by omega, rfl, Lib.hid (fun i h => by cases h), rfl⟩
  case round =>
    obtain ⟨n, m, hn, rfl, HEQ, rfl⟩ := hrel
    by_cases hnl : n < L
    · have h1 := (HL.out n).1 hnl
      obtain ⟨b, off, rfl, _, hat⟩ := HAD.out (by have := HPQ.out; omega)
      obtain ⟨x, hx⟩ : ∃ x : Nat, p + n = x := ⟨_, rfl⟩
      have hxi : (p : Int) + (n : Int) = (x : Int) := by omega
      obtain ⟨y, hy⟩ : ∃ y : Nat, q + n = y := ⟨_, rfl⟩
      have hyi : (q : Int) + (n : Int) = (y : Int) := by omega
      have hxl : (x : Int) < (d.length : Int) := by have := HPQ.out; omega
      have hyl : (y : Int) < (d.length : Int) := by have := HPQ.out; omega
      have cx := hat x (by omega)
      have cy := hat y (by omega)
      have HX : Hid (p + n = x ∧ q + n = y) := Lib.hid ⟨hx, hy⟩
      have hni : (n : Int) ≤ 100000 := by omega
      have e1 := getD_of (d := d) (i := x) (by omega)
      have e2 := getD_of (d := d) (i := y) (by omega)
      generalize d[x]'(by omega) = u at *
      generalize d[y]'(by omega) = v at *
      have HE12 := Lib.hid (And.intro e1 e2)
      clear e1 e2 hx hy hat HAD
      by_cases huv : u = v
      · have huv' : ((u.toNat : Int) == (v.toNat : Int)) = true := by rw [huv]; simp
        have HQ : Hid (∀ i, i < n + 1 → d.getD (p + i) 0 = d.getD (q + i) 0) := Lib.hid (fun i hi => by
          rcases Nat.lt_or_ge i n with h | h
          · exact HEQ.out i h
          · obtain rfl : i = n := by omega
            rw [HX.out.1, HX.out.2, HE12.out.1, HE12.out.2, huv])
        clear huv
        go_wp2_with fail
        go_quiet (fail)
        go_wp2_with fail
        exact ⟨⟨n + 1, _, by omega, by go_num, HQ, rfl⟩, by simp [intOf]; omega⟩
      · have huv' : ((u.toNat : Int) == (v.toNat : Int)) = false := by
          rw [beq_eq_false_iff_ne]; intro h; exact huv (UInt8.toNat_inj.1 (by omega))
        have HN : Hid (n = E) := Lib.hid (HU.out n ⟨by omega, HEQ.out, .inr (by rw [HX.out.1, HX.out.2, HE12.out.1, HE12.out.2]; exact huv)⟩)
        clear huv
        go_wp2_with fail
        go_quiet (fail)
        go_wp2_with fail
        go_ret
        exact ⟨by rw [HN.out]; rfl, _, World.drewN_drewN ..⟩
    · obtain rfl : n = L := by omega
      have HN : Hid (n = E) := Lib.hid (HU.out n ⟨by omega, HEQ.out, .inl rfl⟩)
      have h1 : decide ((n : Int) < lm) = false := decide_eq_false (mt (HL.out n).2 hnl)
      clear HAD hnl hn
      go_wp2_with fail
      go_quiet (fail)
      go_wp2_with fail
      go_ret
      exact ⟨by rw [HN.out]; rfl, _, World.drewN_drewN ..⟩
/-- Is there a place? -/
def hasB (d : List UInt8) (place : Int) : Bool := decide (0 ≤ place) && decide (place < (d.length : Int))
set_option maxRecDepth 100000 in
theorem has_any (F : Nat) (A : Option Addr) (c : Nat) (d : List UInt8) (dict nice : Int) (mp : Nat) (v4 : Value) (place : Int) (w : World) (hF : FinderAt w F A c d dict nice mp v4) :
    Calls Try.prog 22 #[PF F, .int .i64 place] w fun e w' => e = .returned (.bool (hasB d place)) ∧ w = w' := by
  obtain ⟨c0, _, _, _, _⟩ := hF.cells
  clear hF
  unfold hasB
  by_cases h1 : 0 ≤ place
  · by_cases h2 : place < (d.length : Int)
    · have e : (decide (0 ≤ place) && decide (place < (d.length : Int))) = true := by simp [h1, h2]
      rw [e]
      clear e
      go_enter Try.func22, Try.ntmps22
      go_wp2_with fail
      go_ret
      exact ⟨rfl, rfl⟩
    · have e : (decide (0 ≤ place) && decide (place < (d.length : Int))) = false := by simp [h2]
      rw [e]
      clear e
      go_enter Try.func22, Try.ntmps22
      go_wp2_with fail
      go_ret
      exact ⟨rfl, rfl⟩
  · have e : (decide (0 ≤ place) && decide (place < (d.length : Int))) = false := by simp [h1]
    rw [e]
    clear e
    go_enter Try.func22, Try.ntmps22
    go_wp2_with fail
    go_ret
    exact ⟨rfl, rfl⟩
set_option maxRecDepth 100000 in
theorem has_nil (place : Int) (w : World) : Calls Try.prog 22 #[.pointer none, .int .i64 place] w fun e w' => e = .returned (.bool false) ∧ w = w' := by
  go_enter Try.func22, Try.ntmps22
  go_wp2_with fail
  go_ret
  exact ⟨rfl, rfl⟩
theorem run_min3 (w : World) (ts : Array TypeId) (t : TypeId) (x y z : Int) : (Builtin.min_ ts t #[.int .i64 x, .int .i64 y, .int .i64 z]).run Try.prog w = .ok (.int .i64 (min (min x y) z)) w := by
  have e : ∀ x y : Int, (if y < x then y else x) = min x y := fun x y => by
    rw [Int.min_def]
    split <;> split <;> omega
  simp [Builtin.min_, Builtin.min2, e]
/-- What P9.2 says. -/
def backOf (d : List UInt8) (dict place dist most : Int) : Nat :=
  if 0 ≤ place ∧ place < (d.length : Int) ∧ 1 ≤ dist ∧ dist ≤ place ∧ dist ≤ dict then eqLen d place.toNat (place.toNat - dist.toNat) (lim d place.toNat (min 273 most)) else 0
set_option maxRecDepth 100000 in
set_option maxHeartbeats 1500000 in
theorem Like_any (F : Nat) (A : Option Addr) (c : Nat) (d : List UInt8) (dict nice : Int) (mp : Nat) (v4 : Value) (place dist most : Int) (w : World) (hF : FinderAt w F A c d dict nice mp v4) :
    Calls Try.prog 19 #[PF F, .int .i64 place, .int .i64 dist, .int .i64 most] w fun e w' => e = .returned (.int .i64 (backOf d dict place dist most : Nat)) ∧ ∃ m, w' = w.drewN m := by
  obtain ⟨c0, c1, _, _, _⟩ := hF.cells
  have HH := Lib.hid (has_any F A c d dict nice mp v4 place w hF)
  have hli : (d.length : Int) ≤ 100000 := by have := hF.small; omega
  have hln : d.length ≤ 100000 := hF.small
  unfold backOf
  by_cases h1 : 0 ≤ place ∧ place < (d.length : Int)
  case neg =>
    have hh : hasB d place = false := by
      unfold hasB
      cases h : (decide (0 ≤ place) && decide (place < (d.length : Int))) with
      | false => rfl
      | true => simp at h; exact absurd h h1
    rw [hh] at HH
    rw [if_neg (fun h => h1 ⟨h.1, h.2.1⟩)]
    clear h1 hh hF
    go_enter Try.func19, Try.ntmps19
    go_wp2_with fail
    refine HH.out.mono ?_
    rintro e w1 ⟨rfl, rfl⟩
    go_wp2_with fail
    go_ret
    exact ⟨rfl, 0, rfl⟩
  have hh : hasB d place = true := by unfold hasB; simp [h1.1, h1.2]
  rw [hh] at HH
  by_cases h2 : 1 ≤ dist
  case neg =>
    rw [if_neg (fun h => h2 h.2.2.1)]
    have b2 : decide (dist < 1) = true := decide_eq_true (by omega)
    clear h1 hh hF h2
    go_enter Try.func19, Try.ntmps19
    go_wp2_with fail
    refine HH.out.mono ?_
    rintro e w1 ⟨rfl, rfl⟩
    go_wp2_with fail
    go_ret
    exact ⟨rfl, 0, rfl⟩
  have b2 : decide (dist < 1) = false := decide_eq_false (by omega)
  obtain ⟨MN, hmn⟩ : ∃ MN : Int, min place dict = MN := ⟨_, rfl⟩
  by_cases h3 : dist ≤ place ∧ dist ≤ dict
  case neg =>
    rw [if_neg (fun h => h3 ⟨h.2.2.2.1, h.2.2.2.2⟩)]
    have b3 : decide (MN < dist) = true := decide_eq_true (by omega)
    clear h1 hh hF h2 h3
    go_enter Try.func19, Try.ntmps19
    go_wp2_with fail
    refine HH.out.mono ?_
    rintro e w1 ⟨rfl, rfl⟩
    go_wp2_with fail
    go_ret
    exact ⟨rfl, 0, rfl⟩
  have b3 : decide (MN < dist) = false := decide_eq_false (by omega)
  rw [if_pos ⟨h1.1, h1.2, h2, h3.1, h3.2⟩]
  obtain ⟨p, hp⟩ : ∃ p : Nat, place = (p : Int) := ⟨place.toNat, by omega⟩
  obtain ⟨k, hk⟩ : ∃ k : Nat, dist = (k : Int) := ⟨dist.toNat, by omega⟩
  subst hp; subst hk
  simp only [Int.toNat_natCast]
  obtain ⟨q, hq⟩ : ∃ q : Nat, p - k = q := ⟨_, rfl⟩
  have hqi : (p : Int) - (k : Int) = (q : Int) := by omega
  have hpi : (p : Int) ≤ 100000 := by omega
  have hp2 : (p : Int) < (d.length : Int) := h1.2
  have hki : (k : Int) ≤ (p : Int) := h3.1
  obtain ⟨E, hE⟩ : ∃ E, eqLen d p (p - k) (lim d p (min 273 most)) = E := ⟨_, rfl⟩
  rw [hE]
  obtain ⟨X, hX⟩ : ∃ X : Int, (d.length : Int) - (p : Int) = X := ⟨_, rfl⟩
  have key : ∀ M : Int, min (min 273 most) X = M → Hid (Calls Try.prog 26 #[PF F, .int .i64 (p : Nat), .int .i64 (q : Nat), .int .i64 M] w fun e w' => e = .returned (.int .i64 (E : Nat)) ∧ ∃ m, w' = w.drewN m) := fun M hM => Lib.hid (by
    have h := same_any F A c d dict nice mp v4 p q M w hF (by omega) (by omega)
    have e : eqLen d p q M.toNat = E := by rw [← hE, hq]; congr 1; unfold lim; rw [hX, hM]
    rw [e] at h; exact h)
  clear h1 hh hF h2 h3 hq hE
  by_cases g1 : most < 273
  · by_cases g2 : X < most
    · have HSA := key X (by omega)
      clear key
      go_enter Try.func19, Try.ntmps19
      go_wp2_with fail
      refine HH.out.mono ?_
      rintro e w1 ⟨rfl, rfl⟩
      go_wp2_with fail
      refine HSA.out.mono ?_
      rintro e w1 ⟨rfl, m, rfl⟩
      go_wp2_with fail
      go_ret
      exact ⟨rfl, _, rfl⟩
    · have HSA := key most (by omega)
      clear key
      go_enter Try.func19, Try.ntmps19
      go_wp2_with fail
      refine HH.out.mono ?_
      rintro e w1 ⟨rfl, rfl⟩
      go_wp2_with fail
      refine HSA.out.mono ?_
      rintro e w1 ⟨rfl, m, rfl⟩
      go_wp2_with fail
      go_ret
      exact ⟨rfl, _, rfl⟩
  · by_cases g2 : X < 273
    · have HSA := key X (by omega)
      clear key
      go_enter Try.func19, Try.ntmps19
      go_wp2_with fail
      refine HH.out.mono ?_
      rintro e w1 ⟨rfl, rfl⟩
      go_wp2_with fail
      refine HSA.out.mono ?_
      rintro e w1 ⟨rfl, m, rfl⟩
      go_wp2_with fail
      go_ret
      exact ⟨rfl, _, rfl⟩
    · have HSA := key 273 (by omega)
      clear key
      go_enter Try.func19, Try.ntmps19
      go_wp2_with fail
      refine HH.out.mono ?_
      rintro e w1 ⟨rfl, rfl⟩
      go_wp2_with fail
      refine HSA.out.mono ?_
      rintro e w1 ⟨rfl, m, rfl⟩
      go_wp2_with fail
      go_ret
      exact ⟨rfl, _, rfl⟩
end Go.Proofs.Ytnglkipjiojipaa
