/- Filters as data: chain's may and May, the reference's Fits and May. -/
import Derived.Test.YtaggkcgeddoogaaDoorSmSum
namespace Go.Proofs.YtaggkcgeddoogaaDoor
open Go.RowKit

def bytesOf (low : Bool) (W : Nat) : List UInt8 := if low then [UInt8.ofNat (W % 256), UInt8.ofNat (W / 256 % 256), UInt8.ofNat (W / 65536 % 256), UInt8.ofNat (W / 16777216 % 256)] else [UInt8.ofNat (W / 16777216 % 256), UInt8.ofNat (W / 65536 % 256), UInt8.ofNat (W / 256 % 256), UInt8.ofNat (W % 256)]
theorem of_nat (n : Nat) : ((UInt8.ofNat (n % 256)).toNat : Nat) = n % 256 := by
  have : n % 256 < 256 := by omega
  simp [Nat.mod_eq_of_lt this]
def numTo (y0 y1 y2 y3 : Nat) : Nat → Nat
  | 0 => 0
  | 1 => y0
  | 2 => 256 * y0 + y1
  | 3 => 256 * (256 * y0 + y1) + y2
  | _ => 256 * (256 * (256 * y0 + y1) + y2) + y3
theorem lit4 (w : World) (a b c d : UInt8) (base : Nat) (hb : base ≤ w.heap.size) : Own base (w.alloc (.cells #[.int .u8 (a.toNat : Nat), .int .u8 (b.toNat : Nat), .int .u8 (c.toNat : Nat), .int .u8 (d.toNat : Nat)] 5)) (.slice (some ⟨w.heap.size, 0, none⟩) 4 4) [a, b, c, d] :=
  Own.lit w [a, b, c, d] hb (by simp)
def isId (id : Int) : Prop := id = 5 ∨ id = 7 ∨ id = 9 ∨ id = 10
def mayB (id : Int) (start : Nat) : Bool := (id == 5 || id == 7 || id == 9 || id == 10) && start % 4 == 0
theorem mayB_iff (id : Int) (start : Nat) : mayB id start = true ↔ isId id ∧ start % 4 = 0 := by
  unfold mayB isId; simp [or_assoc]
set_option maxHeartbeats 400000 in
theorem may_any (id : Int) (start : Nat) (w : World) : Calls Tryd.prog 57 #[.int .i64 id, .int .u32 (start : Nat)] w fun e w' => e = .returned (.bool (mayB id start)) ∧ w = w' := by
  have hs : ((start : Int) % 4 == 0) = (start % 4 == 0) := by rw [Bool.eq_iff_iff]; simp; omega
  have hm : mayB id start = ((id == 5 || id == 7 || id == 9 || id == 10) && start % 4 == 0) := rfl
  generalize mayB id start = M at *
  generalize (start % 4 == 0) = T at *
  by_cases h5 : id = 5
  · subst h5
    simp only [show ((5 : Int) == 5) = true from rfl, Bool.true_or, Bool.true_and] at hm
    subst hm
    go_enter Tryd.func57, Tryd.ntmps57
    go_wp2_with fail
    go_ret
    exact ⟨rfl, rfl⟩
  · have b5 : (id == 5) = false := by simp [h5]
    by_cases h7 : id = 7
    · subst h7
      simp only [show ((7 : Int) == 7) = true from rfl, Bool.or_true, Bool.true_or, Bool.true_and] at hm
      subst hm
      clear h5 b5
      go_enter Tryd.func57, Tryd.ntmps57
      go_wp2_with fail
      go_ret
      exact ⟨rfl, rfl⟩
    · have b7 : (id == 7) = false := by simp [h7]
      by_cases h9 : id = 9
      · subst h9
        simp only [show ((9 : Int) == 9) = true from rfl, Bool.or_true, Bool.true_or, Bool.true_and] at hm
        subst hm
        clear h5 b5 h7 b7
        go_enter Tryd.func57, Tryd.ntmps57
        go_wp2_with fail
        go_ret
        exact ⟨rfl, rfl⟩
      · have b9 : (id == 9) = false := by simp [h9]
        rw [b5, b7, b9] at hm
        simp only [Bool.false_or] at hm
        by_cases h10 : id = 10
        · subst h10
          simp only [show ((10 : Int) == 10) = true from rfl, Bool.true_and] at hm
          subst hm
          clear h5 b5 h7 b7 h9 b9
          go_enter Tryd.func57, Tryd.ntmps57
          go_wp2_with fail
          go_ret
          exact ⟨rfl, rfl⟩
        · have b10 : (id == 10) = false := by simp [h10]
          rw [b10] at hm
          simp only [Bool.false_and] at hm
          subst hm
          clear h5 h7 h9 h10
          go_enter Tryd.func57, Tryd.ntmps57
          go_wp2_with fail
          go_ret
          exact ⟨rfl, rfl⟩

/-- A filter. -/
structure Fil where
  id : Int
  n : Nat
def Fil.ok (f : Fil) : Prop := -9223372036854775808 ≤ f.id ∧ f.id ≤ 9223372036854775807 ∧ f.n < 4294967296
abbrev Fil.agg (f : Fil) : Value := .agg #[.int .i64 f.id, .int .u32 (f.n : Nat)]

/-- A filter's two cells from an offset on. -/
structure FilAt (w : World) (b o : Nat) (f : Fil) : Prop where
  c0 : w.cell? ⟨b, o, none⟩ = some (.int .i64 f.id)
  c1 : w.cell? ⟨b, o + 1, none⟩ = some (.int .u32 (f.n : Nat))
  ok : f.ok

def Fils (w : World) (A : Option Addr) (l : List Fil) : Prop :=
  l = [] ∨ ∃ b off, A = some ⟨b, off, none⟩ ∧ b < w.heap.size ∧ ∀ i (h : i < l.length), FilAt w b (off + i * 2) l[i]

theorem FilAt.below {w w' : World} {b o B : Nat} {f : Fil} (h : FilAt w b o f) (hb : Below B w w') (hlt : b < B) : FilAt w' b o f :=
  ⟨(hb.cell (p := ⟨b, o, none⟩) hlt).trans h.c0, (hb.cell (p := ⟨b, o + 1, none⟩) hlt).trans h.c1, h.ok⟩
theorem Fils.below {w w' : World} {A : Option Addr} {l : List Fil} (h : Fils w A l) (hb : Below w.heap.size w w') : Fils w' A l := by
  rcases h with h | ⟨b, off, rfl, hlt, h⟩
  · exact .inl h
  · exact .inr ⟨b, off, rfl, Nat.lt_of_lt_of_le hlt hb.size, fun i hi => (h i hi).below hb hlt⟩
theorem Fils.addr {w : World} {A : Option Addr} {l : List Fil} (h : Fils w A l) (hl : 0 < l.length) : ∃ b off, A = some ⟨b, off, none⟩ ∧ b < w.heap.size ∧ ∀ i (h : i < l.length), FilAt w b (off + i * 2) l[i] := by
  rcases h with rfl | h
  · simp at hl
  · exact h

/-- May a filter be in a chain? -/
def fitB (f : Fil) : Bool := if f.id = 3 then decide (1 ≤ f.n) && decide (f.n ≤ 256) else mayB f.id f.n
def mayL (l : List Fil) : Bool := decide (l.length ≤ 3) && l.all fitB
def isIdB (id : Int) : Bool := id == 5 || id == 7 || id == 9 || id == 10

theorem below_box (w : World) (o : Obj) : Below w.heap.size w (w.alloc o) := (Below.refl _ _).alloc (Nat.le_refl _) _

set_option maxHeartbeats 400000 in
theorem isBranch_any (id : Int) (w : World) : Calls Tryd.prog 48 #[.int .i64 id] w fun e w' => e = .returned (.bool (isIdB id)) ∧ w = w' := by
  have hm : isIdB id = (id == 5 || id == 7 || id == 9 || id == 10) := rfl
  generalize isIdB id = M at *
  by_cases h5 : id = 5
  · subst h5
    simp only [show ((5 : Int) == 5) = true from rfl, Bool.true_or] at hm
    subst hm
    go_enter Tryd.func48, Tryd.ntmps48
    go_wp2_with fail
    go_ret
    exact ⟨rfl, rfl⟩
  · have b5 : (id == 5) = false := by simp [h5]
    by_cases h7 : id = 7
    · subst h7
      simp only [show ((7 : Int) == 7) = true from rfl, Bool.or_true, Bool.true_or] at hm
      subst hm
      clear h5 b5
      go_enter Tryd.func48, Tryd.ntmps48
      go_wp2_with fail
      go_ret
      exact ⟨rfl, rfl⟩
    · have b7 : (id == 7) = false := by simp [h7]
      by_cases h9 : id = 9
      · subst h9
        simp only [show ((9 : Int) == 9) = true from rfl, Bool.or_true, Bool.true_or] at hm
        subst hm
        clear h5 b5 h7 b7
        go_enter Tryd.func48, Tryd.ntmps48
        go_wp2_with fail
        go_ret
        exact ⟨rfl, rfl⟩
      · have b9 : (id == 9) = false := by simp [h9]
        rw [b5, b7, b9] at hm
        simp only [Bool.false_or] at hm
        clear h5 h7 h9
        generalize hT : (id == 10) = T at *
        subst hm
        have HT := Lib.hid hT
        cases M
        all_goals
          go_enter Tryd.func48, Tryd.ntmps48
          go_wp2_with fail
          go_ret
          exact ⟨rfl, rfl⟩

theorem mayB_is (id : Int) (n : Nat) : mayB id n = (isIdB id && n % 4 == 0) := rfl

set_option maxHeartbeats 400000 in
theorem fits_any (f : Fil) (hf : f.ok) (w : World) : Calls Tryd.prog 39 #[f.agg] w fun e w' => e = .returned (.bool (fitB f)) ∧ Below w.heap.size w w' := by
  obtain ⟨id, n⟩ := f
  obtain ⟨h1, h2, h3⟩ := hf
  simp only at h1 h2 h3
  have hb := below_box w
  have HM := Lib.hid (may_any id n)
  by_cases hid : id = 3
  · subst hid
    have hfb : fitB ⟨3, n⟩ = (decide (1 ≤ n) && decide (n ≤ 256)) := rfl
    generalize fitB ⟨3, n⟩ = R at *
    by_cases hn : 1 ≤ n
    · have d1 : decide ((1 : Int) ≤ (n : Int)) = true := by simp; omega
      have hfb' : R = decide (n ≤ 256) := by rw [hfb]; simp [hn]
      clear hfb
      by_cases hn2 : n ≤ 256
      · have d2 : decide ((n : Int) ≤ 256) = true := by simp; omega
        rw [decide_eq_true hn2] at hfb'
        subst hfb'
        go_enter Tryd.func39, Tryd.ntmps39
        go_wp2_with fail
        go_ret
        exact ⟨rfl, hb _⟩
      · have d2 : decide ((n : Int) ≤ 256) = false := by simp; omega
        rw [decide_eq_false hn2] at hfb'
        subst hfb'
        go_enter Tryd.func39, Tryd.ntmps39
        go_wp2_with fail
        go_ret
        exact ⟨rfl, hb _⟩
    · have d1 : decide ((1 : Int) ≤ (n : Int)) = false := by simp; omega
      have hfb' : R = false := by rw [hfb]; simp [hn]
      subst hfb'
      clear hfb
      go_enter Tryd.func39, Tryd.ntmps39
      go_wp2_with fail
      go_ret
      exact ⟨rfl, hb _⟩
  · have hfb : fitB ⟨id, n⟩ = mayB id n := by unfold fitB; rw [if_neg hid]
    rw [hfb]
    generalize mayB id n = R at *
    clear hfb
    go_enter Tryd.func39, Tryd.ntmps39
    go_wp2_with fail
    refine (HM.out _).mono ?_
    rintro e w' ⟨rfl, rfl⟩
    go_wp2_with fail
    go_ret
    exact ⟨rfl, hb _⟩

set_option maxHeartbeats 400000 in
theorem fmay_any (f : Fil) (hf : f.ok) (w : World) : Calls Tryd.prog 36 #[f.agg] w fun e w' => e = .returned (.bool (fitB f)) ∧ Below w.heap.size w w' := by
  obtain ⟨id, n⟩ := f
  obtain ⟨h1, h2, h3⟩ := hf
  simp only at h1 h2 h3
  have hb := below_box w
  have HM := Lib.hid (isBranch_any id)
  by_cases hid : id = 3
  · subst hid
    have hfb : fitB ⟨3, n⟩ = (decide (1 ≤ n) && decide (n ≤ 256)) := rfl
    generalize fitB ⟨3, n⟩ = R at *
    by_cases hn : 1 ≤ n
    · have d1 : decide ((1 : Int) ≤ (n : Int)) = true := by simp; omega
      have hfb' : R = decide (n ≤ 256) := by rw [hfb]; simp [hn]
      clear hfb
      by_cases hn2 : n ≤ 256
      · have d2 : decide ((n : Int) ≤ 256) = true := by simp; omega
        rw [decide_eq_true hn2] at hfb'
        subst hfb'
        go_enter Tryd.func36, Tryd.ntmps36
        go_wp2_with fail
        go_ret
        exact ⟨rfl, hb _⟩
      · have d2 : decide ((n : Int) ≤ 256) = false := by simp; omega
        rw [decide_eq_false hn2] at hfb'
        subst hfb'
        go_enter Tryd.func36, Tryd.ntmps36
        go_wp2_with fail
        go_ret
        exact ⟨rfl, hb _⟩
    · have d1 : decide ((1 : Int) ≤ (n : Int)) = false := by simp; omega
      have hfb' : R = false := by rw [hfb]; simp [hn]
      subst hfb'
      clear hfb
      go_enter Tryd.func36, Tryd.ntmps36
      go_wp2_with fail
      go_ret
      exact ⟨rfl, hb _⟩
  · have hfb : fitB ⟨id, n⟩ = (isIdB id && n % 4 == 0) := by unfold fitB; rw [if_neg hid]; rfl
    rw [hfb]
    generalize isIdB id = R at *
    clear hfb
    have hT : ((n : Int) % 4 == 0) = (n % 4 == 0) := by rw [Bool.eq_iff_iff]; simp; omega
    generalize (n % 4 == 0) = T at *
    cases R
    all_goals
      go_enter Tryd.func36, Tryd.ntmps36
      go_wp2_with fail
      refine (HM.out _).mono ?_
      rintro e w' ⟨rfl, rfl⟩
      go_wp2_with fail
      go_ret
      exact ⟨rfl, hb _⟩

theorem all_take (l : List Fil) (k : Nat) (h : k < l.length) (ha : (l.take k).all fitB = true) : (l.take (k + 1)).all fitB = fitB l[k] := by
  rw [List.take_succ_eq_append_getElem h, List.all_append, ha]; simp
theorem all_no (l : List Fil) (k : Nat) (h : k < l.length) (hf : fitB l[k] = false) : l.all fitB = false := by
  rw [List.all_eq_false]; exact ⟨_, List.getElem_mem h, by simp [hf]⟩

set_option maxRecDepth 100000 in
set_option maxHeartbeats 400000 in
theorem rmayL_any (A : Option Addr) (l : List Fil) (c : Nat) (w : World) (hF : Fils w A l) (hl : l.length ≤ 20) :
    Calls Tryd.prog 20 #[.slice A l.length c] w fun e w' => e = .returned (.bool (mayL l)) ∧ Below w.heap.size w w' := by
  have hm : mayL l = (decide (l.length ≤ 3) && l.all fitB) := rfl
  have HM := Lib.hid hm
  clear hm
  generalize mayL l = M at *
  go_enter Tryd.func20, Tryd.ntmps20
  go_wp2_with fail
  go_loopw [3] (fun i wr => ∃ k : Nat, k ≤ l.length ∧ i = .int .i64 k ∧ (l.take k).all fitB = true ∧ Below w.heap.size w wr) (fun i _ => l.length - (intOf i).toNat)
  case atStart => exact ⟨0, by omega, rfl, by simp, Below.refl _ _⟩
  case round =>
    obtain ⟨k, hk, rfl, hall, hb⟩ := hrel
    by_cases hlt : k < l.length
    · obtain ⟨b, off, rfl, hbl, hat⟩ := (hF.below hb).addr (by omega)
      have hk1 := hat k hlt
      have hsn := Lib.hid (all_take l k hlt hall)
      have hno := Lib.hid (all_no l k hlt)
      have HFI := Lib.hid (fits_any l[k] hk1.ok wr)
      have h0 := hk1.c0
      have h1 := hk1.c1
      have hok := hk1.ok
      generalize l[k] = f at *
      obtain ⟨id, n⟩ := f
      clear hat hall hk1
      simp only [Fil.ok] at hok
      simp only at h0 h1
      cases hfb : fitB ⟨id, n⟩ with
      | true =>
        rw [hfb] at HFI hsn
        clear hfb hno
        go_wp2_with fail
        refine HFI.out.mono ?_
        rintro e w1 ⟨rfl, hb1⟩
        go_wp2_with fail
        go_roundw
        case rel => exact ⟨k + 1, by omega, by go_num, hsn.out, hb.trans (hb1.mono hb.size)⟩
        case measure => simp [intOf]; omega
      | false =>
        have hx := hno.out hfb
        have hm := HM.out
        rw [hx, Bool.and_false] at hm
        subst hm
        rw [hfb] at HFI
        clear hfb hsn hx
        go_wp2_with fail
        refine HFI.out.mono ?_
        rintro e w1 ⟨rfl, hb1⟩
        go_wp2_with fail
        go_ret
        exact ⟨rfl, hb.trans (hb1.mono hb.size)⟩
    · obtain rfl : k = l.length := by omega
      have hx : l.all fitB = true := by rw [List.take_length] at hall; exact hall
      have hm := HM.out
      rw [hx, Bool.and_true] at hm
      have hd : decide ((l.length : Int) ≤ 3) = decide (l.length ≤ 3) := by rw [decide_eq_decide]; omega
      generalize decide (l.length ≤ 3) = D at *
      clear hx hall
      subst hm
      go_wp2_with fail
      go_ret
      exact ⟨rfl, hb⟩

set_option maxRecDepth 100000 in
set_option maxHeartbeats 400000 in
theorem mayL_any (A : Option Addr) (l : List Fil) (c : Nat) (w : World) (hF : Fils w A l) (hl : l.length ≤ 20) :
    Calls Tryd.prog 32 #[.slice A l.length c] w fun e w' => e = .returned (.bool (mayL l)) ∧ Below w.heap.size w w' := by
  have hm : mayL l = (decide (l.length ≤ 3) && l.all fitB) := rfl
  by_cases h3 : l.length ≤ 3
  · rw [decide_eq_true h3, Bool.true_and] at hm
    have HM := Lib.hid hm
    clear hm
    generalize mayL l = M at *
    have hd : decide ((3 : Int) < (l.length : Int)) = false := by simp; omega
    go_enter Tryd.func32, Tryd.ntmps32
    go_wp2_with fail
    clear hd
    go_loopw [10] (fun i wr => ∃ k : Nat, k ≤ l.length ∧ i = .int .i64 k ∧ (l.take k).all fitB = true ∧ Below w.heap.size w wr) (fun i _ => l.length - (intOf i).toNat)
    case atStart => exact ⟨0, by omega, rfl, by simp, Below.refl _ _⟩
    case round =>
      obtain ⟨k, hk, rfl, hall, hb⟩ := hrel
      by_cases hlt : k < l.length
      · obtain ⟨b, off, rfl, hbl, hat⟩ := (hF.below hb).addr (by omega)
        have hk1 := hat k hlt
        have hsn := Lib.hid (all_take l k hlt hall)
        have hno := Lib.hid (all_no l k hlt)
        have HFI := Lib.hid (fmay_any l[k] hk1.ok)
        have h0 := hk1.c0
        have h1 := hk1.c1
        have hok := hk1.ok
        generalize l[k] = f at *
        obtain ⟨id, n⟩ := f
        clear hat hall hk1
        simp only [Fil.ok] at hok
        simp only at h0 h1
        have hba := fun o => hb.alloc hb.size o
        cases hfb : fitB ⟨id, n⟩ with
        | true =>
          rw [hfb] at HFI hsn
          clear hfb hno
          go_wp2_with fail
          refine (HFI.out _).mono ?_
          rintro e w1 ⟨rfl, hb1⟩
          go_wp2_with fail
          go_roundw
          case rel => exact ⟨k + 1, by omega, by go_num, hsn.out, (hba _).trans (hb1.mono (hba _).size)⟩
          case measure => simp [intOf]; omega
        | false =>
          have hx := hno.out hfb
          have hm := HM.out
          rw [hx] at hm
          subst hm
          rw [hfb] at HFI
          clear hfb hsn hx
          go_wp2_with fail
          refine (HFI.out _).mono ?_
          rintro e w1 ⟨rfl, hb1⟩
          go_wp2_with fail
          go_ret
          exact ⟨rfl, (hba _).trans (hb1.mono (hba _).size)⟩
      · obtain rfl : k = l.length := by omega
        have hx : l.all fitB = true := by rw [List.take_length] at hall; exact hall
        have hm := HM.out
        rw [hx] at hm
        clear hx hall
        subst hm
        go_wp2_with fail
        go_ret
        exact ⟨rfl, hb⟩
  · rw [decide_eq_false h3, Bool.false_and] at hm
    generalize mayL l = M at *
    subst hm
    have hd : decide ((3 : Int) < (l.length : Int)) = true := by simp; omega
    go_enter Tryd.func32, Tryd.ntmps32
    go_wp2_with fail
    go_ret
    exact ⟨rfl, Below.refl _ _⟩
theorem fit_id (f : Fil) (h : fitB f = true) : (f.id = 3 ∧ 1 ≤ f.n ∧ f.n ≤ 256) ∨ (f.id ≠ 3 ∧ isId f.id ∧ f.n % 4 = 0) := by
  unfold fitB at h
  by_cases h3 : f.id = 3
  · rw [if_pos h3] at h; simp at h; exact .inl ⟨h3, h⟩
  · rw [if_neg h3] at h; exact .inr ⟨h3, (mayB_iff _ _).1 h⟩
theorem drew_only (w : World) : Below w.heap.size w w.drew := (Below.refl _ _).drew
end Go.Proofs.YtaggkcgeddoogaaDoor
