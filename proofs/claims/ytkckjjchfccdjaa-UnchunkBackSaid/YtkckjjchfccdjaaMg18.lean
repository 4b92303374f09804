/- Several texts in one: FdMem, FdFours. -/
import Derived.Test.YtkckjjchfccdjaaMg17
import Derived.Lib.MinMax
import Derived.Test.YtkckjjchfccdjaaSy0
import Derived.Test.YtkckjjchfccdjaaMg7
import Derived.Maps.OwnOps
/- A finder in memory; its same, has, Like; the reference's Back. -/
namespace Go.Proofs.Ytkckjjchfccdjaa
set_option maxRecDepth 100000
open Go.RowKit

structure FinderAt (w : World) (F : Nat) (A : Option Addr) (c : Nat) (d : List UInt8) (dict nice : Int) (mp : Nat) (v4 : Value) : Prop where
  box : w.heap[F]? = some (.cells [.slice A d.length c, .int .i64 dict, .int .i64 nice, .map (some mp), v4].toArray 80 (0, 0))
  bytes : Bytes w A d
  cap : d.length ≤ c
  small : d.length ≤ 100000
theorem FinderAt.lt {w : World} {F : Nat} {A : Option Addr} {c : Nat} {d : List UInt8} {dict nice : Int} {mp : Nat} {v4 : Value} (h : FinderAt w F A c d dict nice mp v4) : F < w.heap.size := (Array.getElem?_eq_some_iff.1 h.box).1
theorem FinderAt.below {w w' : World} {F : Nat} {A : Option Addr} {c : Nat} {d : List UInt8} {dict nice : Int} {mp : Nat} {v4 : Value} (h : FinderAt w F A c d dict nice mp v4) (hb : Below w.heap.size w w') : FinderAt w' F A c d dict nice mp v4 :=
  ⟨(hb.block _ h.lt).trans h.box, h.bytes.below hb, h.cap, h.small⟩
theorem FinderAt.drewN {w : World} {F : Nat} {A : Option Addr} {c : Nat} {d : List UInt8} {dict nice : Int} {mp : Nat} {v4 : Value} (h : FinderAt w F A c d dict nice mp v4) (m : Nat) : FinderAt (w.drewN m) F A c d dict nice mp v4 := h.below (below_drewN (Below.refl _ _) m)
theorem FinderAt.cells {w : World} {F : Nat} {A : Option Addr} {c : Nat} {d : List UInt8} {dict nice : Int} {mp : Nat} {v4 : Value} (h : FinderAt w F A c d dict nice mp v4) : w.cell? ⟨F, 0, none⟩ = some (.slice A d.length c) ∧ w.cell? ⟨F, 1, none⟩ = some (.int .i64 dict) ∧ w.cell? ⟨F, 2, none⟩ = some (.int .i64 nice) ∧ w.cell? ⟨F, 3, none⟩ = some (.map (some mp)) ∧ w.cell? ⟨F, 4, none⟩ = some v4 := by
  refine ⟨?_, ?_, ?_, ?_, ?_⟩ <;> (rw [cell_of_row w F _ _ _ _ h.box]; rfl)
set_option maxRecDepth 100000 in
set_option maxHeartbeats 2000000 in
theorem same_any (F : Nat) (A : Option Addr) (c : Nat) (d : List UInt8) (dict nice : Int) (mp : Nat) (v4 : Value) (p q : Nat) (lm : Int) (w : World) (hF : FinderAt w F A c d dict nice mp v4) (hp : p + lm.toNat ≤ d.length) (hq : q ≤ p) :
    Calls Try.prog 87 #[PF F, .int .i64 (p : Nat), .int .i64 (q : Nat), .int .i64 lm] w fun e w' => e = .returned (.int .i64 (eqLen d p q lm.toNat : Nat)) ∧ ∃ m, w' = w.drewN m := by
  obtain ⟨c0, _, _, _, _⟩ := hF.cells
  have HAD := Lib.hid (fun (h : 0 < d.length) => hF.bytes.addr h)
  have hli : (d.length : Int) ≤ 100000 := by have := hF.small; omega
  have hci : (d.length : Int) ≤ (c : Int) := by have := hF.cap; omega
  obtain ⟨L, hL⟩ : ∃ L, lm.toNat = L := ⟨_, rfl⟩
  rw [hL] at hp ⊢
  have HL : Hid (∀ n : Nat, n < L ↔ (n : Int) < lm) := Lib.hid (fun n => by omega)
  have HU := Lib.hid (fun n (h : IsLen d p q L n) => h.is)
  obtain ⟨E, hE⟩ : ∃ E, eqLen d p q L = E := ⟨_, rfl⟩
  rw [hE] at HU ⊢
  have HPQ := Lib.hid (And.intro hp hq)
  clear hF hL hE hp hq
  go_enter Try.func87, Try.ntmps87
  go_wp2_with fail
  go_loopw [9] (fun i wr => ∃ (n m : Nat), n ≤ L ∧ i = .int .i64 (n : Nat) ∧ Hid (∀ i, i < n → d.getD (p + i) 0 = d.getD (q + i) 0) ∧ wr = w.drewN m) (fun i _ => L - (intOf i).toNat)
  case atStart => exact ⟨0, 0, by omega, rfl, Lib.hid (fun i h => by cases h), rfl⟩
  case round =>
    obtain ⟨n, m, hn, rfl, HEQ, rfl⟩ := hrel
    by_cases hnl : n < L
    · have h1 := (HL.out n).1 hnl
      obtain ⟨b, off, rfl, _, hat⟩ := HAD.out (by have := HPQ.out; omega)
      obtain ⟨x, hx⟩ : ∃ x : Nat, p + n = x := ⟨_, rfl⟩
      have hxi : (p : Int) + (n : Int) = (x : Int) := by omega
      obtain ⟨y, hy⟩ : ∃ y : Nat, q + n = y := ⟨_, rfl⟩
      have hyi : (q : Int) + (n : Int) = (y : Int) := by omega
      have hxl : (x : Int) < (d.length : Int) := by have := HPQ.out; omega
      have hyl : (y : Int) < (d.length : Int) := by have := HPQ.out; omega
      have cx := hat x (by omega)
      have cy := hat y (by omega)
      have HX : Hid (p + n = x ∧ q + n = y) := Lib.hid ⟨hx, hy⟩
      have hni : (n : Int) ≤ 100000 := by omega
      have e1 := getD_of (d := d) (i := x) (by omega)
      have e2 := getD_of (d := d) (i := y) (by omega)
      generalize d[x]'(by omega) = u at *
      generalize d[y]'(by omega) = v at *
      have HE12 := Lib.hid (And.intro e1 e2)
      clear e1 e2 hx hy hat HAD
      by_cases huv : u = v
      · have huv' : ((u.toNat : Int) == (v.toNat : Int)) = true := by rw [huv]; simp
        have HQ : Hid (∀ i, i < n + 1 → d.getD (p + i) 0 = d.getD (q + i) 0) := Lib.hid (fun i hi => by
          rcases Nat.lt_or_ge i n with h | h
          · exact HEQ.out i h
          · obtain rfl : i = n := by omega
            rw [HX.out.1, HX.out.2, HE12.out.1, HE12.out.2, huv])
        clear huv
        go_wp2_with fail
        go_quiet (fail)
        go_wp2_with fail
        exact ⟨⟨n + 1, _, by omega, by go_num, HQ, rfl⟩, by simp [intOf]; omega⟩
      · have huv' : ((u.toNat : Int) == (v.toNat : Int)) = false := by
          rw [beq_eq_false_iff_ne]; intro h; exact huv (UInt8.toNat_inj.1 (by omega))
        have HN : Hid (n = E) := Lib.hid (HU.out n ⟨by omega, HEQ.out, .inr (by rw [HX.out.1, HX.out.2, HE12.out.1, HE12.out.2]; exact huv)⟩)
        clear huv
        go_wp2_with fail
        go_quiet (fail)
        go_wp2_with fail
        go_ret
        exact ⟨by rw [HN.out]; rfl, _, World.drewN_drewN ..⟩
    · obtain rfl : n = L := by omega
      have HN : Hid (n = E) := Lib.hid (HU.out n ⟨by omega, HEQ.out, .inl rfl⟩)
      have h1 : decide ((n : Int) < lm) = false := decide_eq_false (mt (HL.out n).2 hnl)
      clear HAD hnl hn
      go_wp2_with fail
      go_quiet (fail)
      go_wp2_with fail
      go_ret
      exact ⟨by rw [HN.out]; rfl, _, World.drewN_drewN ..⟩
/-- Is there a place? -/
def hasB (d : List UInt8) (place : Int) : Bool := decide (0 ≤ place) && decide (place < (d.length : Int))
set_option maxRecDepth 100000 in
theorem has_any (F : Nat) (A : Option Addr) (c : Nat) (d : List UInt8) (dict nice : Int) (mp : Nat) (v4 : Value) (place : Int) (w : World) (hF : FinderAt w F A c d dict nice mp v4) :
    Calls Try.prog 83 #[PF F, .int .i64 place] w fun e w' => e = .returned (.bool (hasB d place)) ∧ w = w' := by
  obtain ⟨c0, _, _, _, _⟩ := hF.cells
  clear hF
  unfold hasB
  by_cases h1 : 0 ≤ place
  · by_cases h2 : place < (d.length : Int)
    · have e : (decide (0 ≤ place) && decide (place < (d.length : Int))) = true := by simp [h1, h2]
      rw [e]
      clear e
      go_enter Try.func83, Try.ntmps83
      go_wp2_with fail
      go_ret
      exact ⟨rfl, rfl⟩
    · have e : (decide (0 ≤ place) && decide (place < (d.length : Int))) = false := by simp [h2]
      rw [e]
      clear e
      go_enter Try.func83, Try.ntmps83
      go_wp2_with fail
      go_ret
      exact ⟨rfl, rfl⟩
  · have e : (decide (0 ≤ place) && decide (place < (d.length : Int))) = false := by simp [h1]
    rw [e]
    clear e
    go_enter Try.func83, Try.ntmps83
    go_wp2_with fail
    go_ret
    exact ⟨rfl, rfl⟩
set_option maxRecDepth 100000 in
theorem has_nil (place : Int) (w : World) : Calls Try.prog 83 #[.pointer none, .int .i64 place] w fun e w' => e = .returned (.bool false) ∧ w = w' := by
  go_enter Try.func83, Try.ntmps83
  go_wp2_with fail
  go_ret
  exact ⟨rfl, rfl⟩
theorem run_min3 (w : World) (ts : Array TypeId) (t : TypeId) (x y z : Int) : (Builtin.min_ ts t #[.int .i64 x, .int .i64 y, .int .i64 z]).run Try.prog w = .ok (.int .i64 (min (min x y) z)) w := by
  have e : ∀ x y : Int, (if y < x then y else x) = min x y := fun x y => by
    rw [Int.min_def]
    split <;> split <;> omega
  simp [Builtin.min_, Builtin.min2, e]
/-- What P9.2 says. -/
def backOf (d : List UInt8) (dict place dist most : Int) : Nat :=
  if 0 ≤ place ∧ place < (d.length : Int) ∧ 1 ≤ dist ∧ dist ≤ place ∧ dist ≤ dict then eqLen d place.toNat (place.toNat - dist.toNat) (lim d place.toNat (min 273 most)) else 0
set_option maxRecDepth 100000 in
set_option maxHeartbeats 1500000 in
theorem Like_any (F : Nat) (A : Option Addr) (c : Nat) (d : List UInt8) (dict nice : Int) (mp : Nat) (v4 : Value) (place dist most : Int) (w : World) (hF : FinderAt w F A c d dict nice mp v4) :
    Calls Try.prog 67 #[PF F, .int .i64 place, .int .i64 dist, .int .i64 most] w fun e w' => e = .returned (.int .i64 (backOf d dict place dist most : Nat)) ∧ ∃ m, w' = w.drewN m := by
  obtain ⟨c0, c1, _, _, _⟩ := hF.cells
  have HH := Lib.hid (has_any F A c d dict nice mp v4 place w hF)
  have hli : (d.length : Int) ≤ 100000 := by have := hF.small; omega
  have hln : d.length ≤ 100000 := hF.small
  unfold backOf
  by_cases h1 : 0 ≤ place ∧ place < (d.length : Int)
  case neg =>
    have hh : hasB d place = false := by
      unfold hasB
      cases h : (decide (0 ≤ place) && decide (place < (d.length : Int))) with
      | false => rfl
      | true => simp at h; exact absurd h h1
    rw [hh] at HH
    rw [if_neg (fun h => h1 ⟨h.1, h.2.1⟩)]
    clear h1 hh hF
    go_enter Try.func67, Try.ntmps67
    go_wp2_with fail
    refine HH.out.mono ?_
    rintro e w1 ⟨rfl, rfl⟩
    go_wp2_with fail
    go_ret
    exact ⟨rfl, 0, rfl⟩
  have hh : hasB d place = true := by unfold hasB; simp [h1.1, h1.2]
  rw [hh] at HH
  by_cases h2 : 1 ≤ dist
  case neg =>
    rw [if_neg (fun h => h2 h.2.2.1)]
    have b2 : decide (dist < 1) = true := decide_eq_true (by omega)
    clear h1 hh hF h2
    go_enter Try.func67, Try.ntmps67
    go_wp2_with fail
    refine HH.out.mono ?_
    rintro e w1 ⟨rfl, rfl⟩
    go_wp2_with fail
    go_ret
    exact ⟨rfl, 0, rfl⟩
  have b2 : decide (dist < 1) = false := decide_eq_false (by omega)
  obtain ⟨MN, hmn⟩ : ∃ MN : Int, min place dict = MN := ⟨_, rfl⟩
  by_cases h3 : dist ≤ place ∧ dist ≤ dict
  case neg =>
    rw [if_neg (fun h => h3 ⟨h.2.2.2.1, h.2.2.2.2⟩)]
    have b3 : decide (MN < dist) = true := decide_eq_true (by omega)
    clear h1 hh hF h2 h3
    go_enter Try.func67, Try.ntmps67
    go_wp2_with fail
    refine HH.out.mono ?_
    rintro e w1 ⟨rfl, rfl⟩
    go_wp2_with fail
    go_ret
    exact ⟨rfl, 0, rfl⟩
  have b3 : decide (MN < dist) = false := decide_eq_false (by omega)
  rw [if_pos ⟨h1.1, h1.2, h2, h3.1, h3.2⟩]
  obtain ⟨p, hp⟩ : ∃ p : Nat, place = (p : Int) := ⟨place.toNat, by omega⟩
  obtain ⟨k, hk⟩ : ∃ k : Nat, dist = (k : Int) := ⟨dist.toNat, by omega⟩
  subst hp; subst hk
  simp only [Int.toNat_natCast]
  obtain ⟨q, hq⟩ : ∃ q : Nat, p - k = q := ⟨_, rfl⟩
  have hqi : (p : Int) - (k : Int) = (q : Int) := by omega
  have hpi : (p : Int) ≤ 100000 := by omega
  have hp2 : (p : Int) < (d.length : Int) := h1.2
  have hki : (k : Int) ≤ (p : Int) := h3.1
  obtain ⟨E, hE⟩ : ∃ E, eqLen d p (p - k) (lim d p (min 273 most)) = E := ⟨_, rfl⟩
  rw [hE]
  obtain ⟨X, hX⟩ : ∃ X : Int, (d.length : Int) - (p : Int) = X := ⟨_, rfl⟩
  have key : ∀ M : Int, min (min 273 most) X = M → Hid (Calls Try.prog 87 #[PF F, .int .i64 (p : Nat), .int .i64 (q : Nat), .int .i64 M] w fun e w' => e = .returned (.int .i64 (E : Nat)) ∧ ∃ m, w' = w.drewN m) := fun M hM => Lib.hid (by
    have h := same_any F A c d dict nice mp v4 p q M w hF (by omega) (by omega)
    have e : eqLen d p q M.toNat = E := by rw [← hE, hq]; congr 1; unfold lim; rw [hX, hM]
    rw [e] at h; exact h)
  clear h1 hh hF h2 h3 hq hE
  by_cases g1 : most < 273
  · by_cases g2 : X < most
    · have HSA := key X (by omega)
      clear key
      go_enter Try.func67, Try.ntmps67
      go_wp2_with fail
      refine HH.out.mono ?_
      rintro e w1 ⟨rfl, rfl⟩
      go_wp2_with fail
      refine HSA.out.mono ?_
      rintro e w1 ⟨rfl, m, rfl⟩
      go_wp2_with fail
      go_ret
      exact ⟨rfl, _, rfl⟩
    · have HSA := key most (by omega)
      clear key
      go_enter Try.func67, Try.ntmps67
      go_wp2_with fail
      refine HH.out.mono ?_
      rintro e w1 ⟨rfl, rfl⟩
      go_wp2_with fail
      refine HSA.out.mono ?_
      rintro e w1 ⟨rfl, m, rfl⟩
      go_wp2_with fail
      go_ret
      exact ⟨rfl, _, rfl⟩
  · by_cases g2 : X < 273
    · have HSA := key X (by omega)
      clear key
      go_enter Try.func67, Try.ntmps67
      go_wp2_with fail
      refine HH.out.mono ?_
      rintro e w1 ⟨rfl, rfl⟩
      go_wp2_with fail
      refine HSA.out.mono ?_
      rintro e w1 ⟨rfl, m, rfl⟩
      go_wp2_with fail
      go_ret
      exact ⟨rfl, _, rfl⟩
    · have HSA := key 273 (by omega)
      clear key
      go_enter Try.func67, Try.ntmps67
      go_wp2_with fail
      refine HH.out.mono ?_
      rintro e w1 ⟨rfl, rfl⟩
      go_wp2_with fail
      refine HSA.out.mono ?_
      rintro e w1 ⟨rfl, m, rfl⟩
      go_wp2_with fail
      go_ret
      exact ⟨rfl, _, rfl⟩
end Go.Proofs.Ytkckjjchfccdjaa

/- The finder's list of places with the same four bytes before. -/
namespace Go.Proofs.Ytkckjjchfccdjaa
set_option maxRecDepth 100000
open Go.RowKit Go.Maps

theorem heap_of_full32 {w : World} {base n : Nat} {t : TypeId} {g : Nat} {xs : List Value} (h : w.ownsRow base t 1 (.slice (some ⟨g, 0, none⟩) n n) n xs) : w.heap[g]? = some (.cells xs.toArray t (0, 0)) := by
  obtain ⟨hl, ⟨h, _⟩ | ⟨g', cap, cur, e, _, hg, _, _, hsz, ht⟩⟩ := h
  · cases h
  · injection e with e1 _ e3
    injection e1 with e1
    injection e1 with e1
    subst e1; subst e3
    rw [Nat.mul_one] at hl hsz ht
    have : cur.toList = xs := by rw [← ht, List.take_of_length_le (by simp; omega)]
    rw [hg, ← this]
theorem madeI32 (n : Nat) : (madeCells (Value.int .i32 0).cells (n * 1)).toList = List.replicate n (Value.int .i32 0) := by
  rw [Nat.mul_one, show (Value.int .i32 0).cells = #[Value.int .i32 0] from rfl, toList_madeCells_one]
theorem infoI32 : (Try.prog.info? 21).map (fun i => (i.zero, i.size, i.bytes)) = some (some (.int .i32 0), 1, 4) := by kernel_rfl
theorem wpList_make_i32 {ops : Array Oper} {rest : List Oper} {o : Oper} {a : Act} {Q : Exit → Act → World → Prop} (hgd : o.guard = none) (x y : Operand) (ho : o.op = .makeSlice 78 x y)
    (n : Nat) (w : World) (hx : a.eval x = .int .i64 (n : Nat)) (hy : a.eval y = .int .i64 (n : Nat)) (hn : n ≤ 1000000)
    (h : ∀ w', w'.heap[w.heap.size]? = some (.cells (List.replicate n (Value.int .i32 0)).toArray 21 (0, 0)) → w.grownBy w' none → wpList Try.prog ops Q rest (a.put o.dst (.slice (some ⟨w.heap.size, 0, none⟩) n n)) w') : wpList Try.prog ops Q (o :: rest) a w := by
  refine wpList_plain hgd fun K hK => ?_
  obtain ⟨i, hi, hz0, hz1, hz2⟩ := info_parts infoI32
  obtain ⟨w', hr, h1, h2⟩ := run_make_full (P := Try.prog) w w.heap.size 78 21 i (.int .i32 0) 1 Try.underlying78 hi hz0 hz1 .i64 .i64 n (by rw [hz2]; omega) (by unfold maxLen; omega) (Nat.le_refl _)
  rw [madeI32] at h1
  unfold Oper.wp execOp
  simp only [ho, hx, hy, Sem.run_bind, Sem.run_pure, Result.andThen_ok, hr]
  exact hK _ _ (h w' (heap_of_full32 h1) h2)
/-- The last place before i with the same four bytes; below 0: none. -/
def four (d : List UInt8) (i : Nat) : UInt8 × UInt8 × UInt8 × UInt8 := (d.getD i 0, d.getD (i + 1) 0, d.getD (i + 2) 0, d.getD (i + 3) 0)
/-- The last place below n where four bytes x stand. -/
def lastAt (d : List UInt8) (x : UInt8 × UInt8 × UInt8 × UInt8) : Nat → Int
  | 0 => -1
  | n + 1 => if four d n = x then (n : Int) else lastAt d x n
theorem lastAt_bounds (d : List UInt8) (x : UInt8 × UInt8 × UInt8 × UInt8) : ∀ n, -1 ≤ lastAt d x n ∧ lastAt d x n < (n : Int) ∨ n = 0 ∧ lastAt d x n = -1
  | 0 => .inr ⟨rfl, rfl⟩
  | n + 1 => by
    unfold lastAt
    split
    · left; omega
    · rcases lastAt_bounds d x n with h | ⟨h, e⟩
      · left; omega
      · left; rw [e]; omega
def prevs (d : List UInt8) (n : Nat) : List Value := (List.range n).map fun i => Value.int .i32 (lastAt d (four d i) i)
/-- The map of the last places. -/
def LastAt (w : World) (b : Nat) (d : List UInt8) (n : Nat) : Prop :=
  ∃ D : DataW Unit, w.ownsMap Try.prog 124 (plainElem Try.prog 21) b n D ∧
    ∀ x : UInt8 × UInt8 × UInt8 × UInt8, (Maps.has D (lit4 x.1 x.2.1 x.2.2.1 x.2.2.2) = true ↔ 0 ≤ lastAt d x n) ∧ (0 ≤ lastAt d x n → D.atKey (lit4 x.1 x.2.1 x.2.2.1 x.2.2.2) (.lit (.int .i32 0)) = .lit (.int .i32 (lastAt d x n)))
theorem LastAt.keep {w w' : World} {b n : Nat} {d : List UInt8} (h : LastAt w b d n) (hb : w'.heap[b]? = w.heap[b]?) : LastAt w' b d n := by
  obtain ⟨D, ⟨es, clock, h1, r⟩, h2⟩ := h
  exact ⟨D, ⟨es, clock, hb.trans h1, r⟩, h2⟩
theorem LastAt.lt {w : World} {b n : Nat} {d : List UInt8} (h : LastAt w b d n) : b < w.heap.size := by
  obtain ⟨D, h1, _⟩ := h
  exact h1.lt
theorem LastAt.made (w : World) (d : List UInt8) : LastAt (w.alloc (.map #[] 0)) w.heap.size d 0 :=
  ⟨_, World.ownsMap_made w Try.prog _ _, fun x => ⟨by simp [Maps.has, lastAt], fun h => by simp [lastAt] at h⟩⟩
noncomputable abbrev litOf (x : UInt8 × UInt8 × UInt8 × UInt8) : Lit := lit4 x.1 x.2.1 x.2.2.1 x.2.2.2
abbrev keyOf4 (x : UInt8 × UInt8 × UInt8 × UInt8) : Value := fourV x.1 x.2.1 x.2.2.1 x.2.2.2
theorem litOf_inj {x y : UInt8 × UInt8 × UInt8 × UInt8} (h : litOf x = litOf y) : x = y := by
  obtain ⟨h1, h2, h3, h4⟩ := lit4_inj h
  obtain ⟨a, b, c, d⟩ := x
  obtain ⟨a', b', c', d'⟩ := y
  simp_all
theorem zeroI32 (w : World) : (zeroValue 21).run Try.prog w = .ok (.int .i32 0) w := by
  first | rfl | simp [zeroValue]
theorem wf32 {z : Int} (h0 : -1 ≤ z) (h1 : z ≤ 1000000) : (Lit.int .i32 z).wf = true := by
  have e1 : IntKind.i32.min = -2147483648 := rfl
  have e2 : IntKind.i32.max = 2147483647 := rfl
  simp [Lit.wf, e1, e2]; omega
/-- What the look-up gives. -/
def seen (d : List UInt8) (x : UInt8 × UInt8 × UInt8 × UInt8) (n : Nat) : Bool := decide (0 ≤ lastAt d x n)
theorem LastAt.look {w : World} {b n : Nat} {d : List UInt8} (h : LastAt w b d n) (x : UInt8 × UInt8 × UInt8 × UInt8) : ∃ c : Int, (Instr.lookup 123 (.map (some b)) (keyOf4 x) true).run Try.prog w = .ok (.tuple #[.int .i32 c, .bool (seen d x n)]) w ∧ (seen d x n = true → c = lastAt d x n) := by
  obtain ⟨D, h1, h2⟩ := h
  obtain ⟨v, ps, hr, hv⟩ := h1.look_ok keyed4 Try.underlying123 (zeroI32 w) (plainElem_int (H := Unit) Try.underlying21 (wf32 (by omega) (by omega))) (lit4_spec x.1 x.2.1 x.2.2.1 x.2.2.2)
  obtain ⟨c, rfl, hc, _⟩ := plainElem_int_inv Try.underlying21 hv
  have e : Maps.has D (lit4 x.1 x.2.1 x.2.2.1 x.2.2.2) = seen d x n := by
    rw [Bool.eq_iff_iff, (h2 x).1]; simp [seen]
  refine ⟨c, by rw [hr, e], fun hs => ?_⟩
  have hs : 0 ≤ lastAt d x n := by simpa [seen] using hs
  have e2 := (h2 x).2 hs
  have e3 := congrArg Prod.fst hc
  simp only at e3
  rw [e2] at e3
  injection e3 with e3
  injection e3 with _ e3
  exact e3.symm
theorem LastAt.put {w : World} {b n : Nat} {d : List UInt8} (h : LastAt w b d n) (hn : n ≤ 100000) : ∃ w', (Instr.mapUpdate 123 (.map (some b)) (keyOf4 (four d n)) (.int .i32 (n : Nat))).run Try.prog w = .ok () w' ∧ LastAt w' b d (n + 1) ∧ w.mapTurned w' b := by
  obtain ⟨D, h1, h2⟩ := h
  obtain ⟨w', hr, ho, ht⟩ := h1.store keyed4 Try.underlying123 (by unfold maxLen; omega) (lit4_spec (four d n).1 (four d n).2.1 (four d n).2.2.1 (four d n).2.2.2) (plainElem_int (H := Unit) Try.underlying21 (a := (n : Nat)) (wf32 (by omega) (by omega)))
  have hk := keyed4.key (lit4_spec (four d n).1 (four d n).2.1 (four d n).2.2.1 (four d n).2.2.2)
  refine ⟨w', hr, ⟨_, ho, fun x => ?_⟩, ht⟩
  by_cases hx : four d n = x
  · subst hx
    rw [has_put_same h1.isMap hk, atKey_put_same h1.isMap hk]
    simp [lastAt]
  · have hne : litOf x ≠ litOf (four d n) := fun e => hx (litOf_inj e).symm
    have e : lastAt d x (n + 1) = lastAt d x n := by rw [lastAt, if_neg hx]
    rw [e, has_put_other hne, atKey_put_other hne]
    exact h2 x
theorem prevs_len (d : List UInt8) (k : Nat) : (prevs d k).length = k := by simp [prevs]
theorem prevs_set (d : List UInt8) (n k : Nat) (hk : k < n) (z : Int) (hz : z = lastAt d (four d k) k) : ((prevs d k) ++ List.replicate (n - k) (Value.int .i32 0)).set k (.int .i32 z) = prevs d (k + 1) ++ List.replicate (n - (k + 1)) (Value.int .i32 0) := by
  have e : n - k = (n - (k + 1)) + 1 := by omega
  rw [e, List.replicate_succ, List.set_append_right _ _ (by rw [prevs_len]; exact Nat.le_refl _), prevs_len, Nat.sub_self, List.set_cons_zero, hz]
  have e2 : prevs d (k + 1) = prevs d k ++ [.int .i32 (lastAt d (four d k) k)] := by simp [prevs, List.range_succ]
  rw [e2, List.append_assoc]
  rfl
end Go.Proofs.Ytkckjjchfccdjaa
