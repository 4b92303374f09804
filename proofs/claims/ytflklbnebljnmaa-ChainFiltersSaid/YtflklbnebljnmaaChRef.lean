/- The reference's Send and Back of layer 15. -/
import Derived.Test.YtflklbnebljnmaaChThr
import Derived.Deep.RegionHeld3
namespace Go.Proofs.Ytflklbnebljnmaa
open Go.RowKit

theorem Fils.rest {w : World} {b off : Nat} {f : Fil} {l : List Fil} (h : Fils w (some ⟨b, off, none⟩) (f :: l)) : Fils w (some ⟨b, off + 2, none⟩) l := by
  rcases h with h | ⟨b', off', e, hlt, hat⟩
  · cases h
  · injection e with e; injection e with e1 e2; subst e1; subst e2
    refine .inr ⟨_, _, rfl, hlt, fun i hi => ?_⟩
    have := hat (i + 1) (by simp; omega)
    simp only [List.getElem_cons_succ] at this
    rw [show off + 2 + i * 2 = off + (i + 1) * 2 by omega]; exact this
theorem drew_only (w : World) : Below w.heap.size w w.drew := (Below.refl _ _).drew

/-- Bytes come back, one's own or others'. -/
def Reads (w : World) (l : List UInt8) (e : Ending) (w' : World) : Prop := ∃ A c, e = .returned (.slice A l.length c) ∧ l.length ≤ c ∧ c ≤ 9223372036854775807 ∧ Bytes w' A l ∧ Below w.heap.size w w'

def RSend (l : List Fil) : Prop := ∀ (A0 : Option Addr) (c0 : Nat) (A : Option Addr) (b : List UInt8) (c : Nat) (w : World), Fils w A0 l → Bytes w A b → b.length ≤ c → c ≤ 9223372036854775807 → b.length ≤ 1000000 → l.length ≤ c0 → c0 ≤ 9223372036854775807 →
    Calls Try.prog 10 #[.slice A0 l.length c0, .slice A b.length c] w (Reads w (sendL l b))
def RBack (l : List Fil) : Prop := ∀ (A0 : Option Addr) (c0 : Nat) (A : Option Addr) (b : List UInt8) (c : Nat) (w : World), Fils w A0 l → Bytes w A b → b.length ≤ c → c ≤ 9223372036854775807 → b.length ≤ 1000000 → l.length ≤ c0 → c0 ≤ 9223372036854775807 →
    Calls Try.prog 11 #[.slice A0 l.length c0, .slice A b.length c] w (Reads w (backL l b))

set_option maxHeartbeats 400000 in
theorem rsend_nil : RSend [] := by
  intro A0 c0 A b c w hF hB hc hm hl hl0 hm0
  go_enter Try.func10, Try.ntmps10
  go_wp2_with fail
  go_ret
  exact ⟨A, c, rfl, hc, hm, hB, Below.refl _ _⟩
set_option maxHeartbeats 400000 in
theorem rback_nil : RBack [] := by
  intro A0 c0 A b c w hF hB hc hm hl hl0 hm0
  go_enter Try.func11, Try.ntmps11
  go_wp2_with fail
  go_ret
  exact ⟨A, c, rfl, hc, hm, hB, Below.refl _ _⟩

/-- The rest of a slice of filters, as the model makes it. -/
theorem Fils.cut {w : World} {b off : Nat} {f : Fil} {l : List Fil} (h : Fils w (some ⟨b, off, none⟩) (f :: l)) (c : Nat) (hc : (f :: l).length ≤ c) : Fils w (if c = 1 then some ⟨b, off, none⟩ else some ⟨b, off + 2, none⟩) l := by
  by_cases e : c = 1
  · have : l = [] := by
      have : l.length = 0 := by simp at hc; omega
      exact List.eq_nil_of_length_eq_zero this
    exact .inl this
  · rw [if_neg e]; exact h.rest

set_option maxRecDepth 100000 in
set_option maxHeartbeats 2000000 in
theorem rsend_cons (f : Fil) (l : List Fil) (hfit : fitB f = true) (hl20 : l.length ≤ 20) (ih : RSend l) : RSend (f :: l) := by
  intro A0 c0 A b c w hF hB hc hm hb hl0 hm0
  obtain ⟨b0, off, rfl, hbl, hat⟩ := hF.addr (by simp)
  have hk1 := hat 0 (by simp)
  simp only [Nat.zero_mul, Nat.add_zero, List.getElem_cons_zero] at hk1
  have h0 := hk1.c0
  have h1 := hk1.c1
  obtain ⟨o1, o2, o3⟩ := hk1.ok
  have hxl := enc1_length f b
  have hs : sendL (f :: l) b = sendL l (enc1 f b) := rfl
  rw [hs]
  have IH : Hid (∀ (A0 : Option Addr) (A : Option Addr) (c : Nat) (w : World), Fils w A0 l → Bytes w A (enc1 f b) → (enc1 f b).length ≤ c → c ≤ 9223372036854775807 → Calls Try.prog 10 #[.slice A0 l.length (c0 - 1), .slice A (enc1 f b).length c] w (Reads w (sendL l (enc1 f b)))) := by
    apply Lib.hid
    intro A0 A c w k1 k2 k3 k4
    exact ih A0 (c0 - 1) A _ c w k1 k2 k3 k4 (by omega) (by simp at hl0; omega) (by omega)
  have hFr := hF.cut c0 hl0
  have hcl : (f :: l).length = l.length + 1 := rfl
  rw [hcl] at hl0 ⊢
  have hdr := drew_only w
  obtain ⟨id, n⟩ := f
  simp only at h0 h1 o1 o2 o3
  clear hs hat hk1 hxl hcl ih
  have e1 : (l.length + 1) - 1 = l.length := by omega
  rcases fit_id _ hfit with ⟨e, g1, g2⟩ | ⟨e, g1, g2⟩
  · simp only at e g1 g2
    subst e
    have hx : enc1 ⟨3, n⟩ b = Delta.enc b ((n : Int).toNat) := rfl
    rw [hx] at IH ⊢
    have HC := Lib.hid (fun (w' : World) (h : Bytes w' A b) => De.refenc_any A b c (n : Int) w' h (by omega) (by omega) (by omega))
    generalize Delta.enc b ((n : Int).toNat) = X at *
    generalize sendL l X = Y at *
    clear hx hfit
    by_cases hc1 : c0 = 1
    · subst hc1
      simp only [if_true] at hFr
      simp only [Nat.sub_self] at IH
      go_enter Try.func10, Try.ntmps10
      go_wp2_with fail
      refine wp_region_held_drew (S := fun w' => Below w.heap.size w w') (by kernel_rfl) hdr (fun hS => ?_)
      refine wpAnyH_take (i := 0) (oi := { dst := some 14, op := Op.move (Operand.tmp 0), type := 22, pos := "ref.go:35", after := #[], guard := none }) (v := ?va1) rfl (by kernel_rfl) (by kernel_rfl) (by kernel_rfl) (fun _ _ _ h => h) (Or.inl ⟨by rfl, ?ya1⟩) hS ?_
      case ya1 =>
        intro w hSw
        go_simp; all_goals (with_reducible rfl)
      simp only [Act.put, List.setIfInBounds_toArray, List.set_cons_zero, List.set_cons_succ]
      refine wpAnyH_take (i := 1) (oi := { dst := some 15, op := Op.slice 22 (Operand.tmp 14) (some (Operand.const (Value.int IntKind.i64 1))) none none, type := 22, pos := "ref.go:35", after := #[{ on := 0, ground := Ground.data }], guard := none }) (v := ?va2) rfl (by kernel_rfl) (by kernel_rfl) (by kernel_rfl) (fun _ _ _ h => h) (Or.inl ⟨by rfl, ?ya2⟩) hS ?_
      case ya2 =>
        intro w hSw
        have q1 : (1 : Int) ≤ (l.length : Int) + 1 := by omega
        go_simp; all_goals (with_reducible rfl)
      simp only [Act.put, List.setIfInBounds_toArray, List.set_cons_zero, List.set_cons_succ]
      refine wpAnyH_take (i := 2) (oi := { dst := some 16, op := Op.move (Operand.tmp 1), type := 23, pos := "ref.go:35", after := #[], guard := none }) (v := ?va3) rfl (by kernel_rfl) (by kernel_rfl) (by kernel_rfl) (fun _ _ _ h => h) (Or.inl ⟨by rfl, ?ya3⟩) hS ?_
      case ya3 =>
        intro w hSw
        go_simp; all_goals (with_reducible rfl)
      simp only [Act.put, List.setIfInBounds_toArray, List.set_cons_zero, List.set_cons_succ]
      refine wpAnyH_take (i := 3) (oi := { dst := some 17, op := Op.move (Operand.tmp 0), type := 22, pos := "ref.go:35", after := #[], guard := none }) (v := ?va4) rfl (by kernel_rfl) (by kernel_rfl) (by kernel_rfl) (fun _ _ _ h => h) (Or.inl ⟨by rfl, ?ya4⟩) hS ?_
      case ya4 =>
        intro w hSw
        go_simp; all_goals (with_reducible rfl)
      simp only [Act.put, List.setIfInBounds_toArray, List.set_cons_zero, List.set_cons_succ]
      refine wpAnyH_take (i := 4) (oi := { dst := some 18, op := Op.indexAddr 22 (Operand.tmp 17) (Operand.const (Value.int IntKind.i64 0)), type := 0, pos := "ref.go:35", after := #[{ on := 3, ground := Ground.data }], guard := none }) (v := ?va5) rfl (by kernel_rfl) (by kernel_rfl) (by kernel_rfl) (fun _ _ _ h => h) (Or.inl ⟨by rfl, ?ya5⟩) hS ?_
      case ya5 =>
        intro w hSw
        go_simp; all_goals (with_reducible rfl)
      simp only [Act.put, List.setIfInBounds_toArray, List.set_cons_zero, List.set_cons_succ]
      refine wpAnyH_take (i := 5) (oi := { dst := some 19, op := Op.fieldAddr 33 (Operand.tmp 18) 1, type := 0, pos := "ref.go:35", after := #[{ on := 4, ground := Ground.data }], guard := none }) (v := ?va6) rfl (by kernel_rfl) (by kernel_rfl) (by kernel_rfl) (fun _ _ _ h => h) (Or.inl ⟨by rfl, ?ya6⟩) hS ?_
      case ya6 =>
        intro w hSw
        go_simp; all_goals (with_reducible rfl)
      simp only [Act.put, List.setIfInBounds_toArray, List.set_cons_zero, List.set_cons_succ]
      refine wpAnyH_take (i := 6) (oi := { dst := some 20, op := Op.load 31 (Operand.tmp 19), type := 31, pos := "ref.go:35", after := #[{ on := 5, ground := Ground.data }], guard := none }) (v := ?va7) rfl (by kernel_rfl) (by kernel_rfl) (by kernel_rfl) (fun _ _ _ h => h) (Or.inl ⟨by rfl, ?ya7⟩) hS ?_
      case ya7 =>
        intro w hSw
        have j0 := (hSw.cell (p := ⟨b0, off, none⟩) hbl).trans h0
        have j1 := (hSw.cell (p := ⟨b0, off + 1, none⟩) hbl).trans h1
        go_simp; all_goals (with_reducible rfl)
      simp only [Act.put, List.setIfInBounds_toArray, List.set_cons_zero, List.set_cons_succ]
      refine wpAnyH_take (i := 7) (oi := { dst := some 21, op := Op.convert 31 3 (Operand.tmp 20), type := 3, pos := "ref.go:35", after := #[{ on := 6, ground := Ground.data }], guard := none }) (v := ?va8) rfl (by kernel_rfl) (by kernel_rfl) (by kernel_rfl) (fun _ _ _ h => h) (Or.inl ⟨by rfl, ?ya8⟩) hS ?_
      case ya8 =>
        intro w hSw
        have q2 : IntKind.i64.wrap (n : Int) = (n : Int) := IntWalk.i64_in _ (by omega)
        go_simp; all_goals (with_reducible rfl)
      simp only [Act.put, List.setIfInBounds_toArray, List.set_cons_zero, List.set_cons_succ]
      refine wpAnyH_ready (rs := [8]) (by kernel_rfl) (by simp) ?_
      refine (AllReadyH.cons (o := { dst := some 22, op := Op.call { callee := Callee.value (Operand.func 27), args := #[Operand.tmp 16, Operand.tmp 21], argTypes := #[23, 3] }, type := 23, pos := "ref.go:35", after := #[{ on := 2, ground := Ground.data }, { on := 7, ground := Ground.data }], guard := none }) rfl (fun K hK => ?_) AllReadyH.nil)
      go_simp
      refine (HC.out _ (hB.below hdr)).mono ?_
      rintro e w4 ⟨v4, rfl, ho4, hb4⟩
      obtain ⟨A4, c4, rfl, hc4, hm4, hB4⟩ := ho4.read
      have g4 := hdr.trans (hb4.mono hdr.size)
      clear ho4 hb4
      go_wp2_with fail
      refine hK.out _ _ g4 (fun _ => ?_)
      clear hK K
      refine wpAnyH_ready (rs := [9]) (by kernel_rfl) (by simp) ?_
      refine (AllReadyH.cons (o := { dst := some 23, op := Op.call { callee := Callee.value (Operand.func 10), args := #[Operand.tmp 15, Operand.tmp 22], argTypes := #[22, 23] }, type := 23, pos := "ref.go:35", after := #[{ on := 1, ground := Ground.data }, { on := 8, ground := Ground.data }, { on := 8, ground := Ground.chain }], guard := none }) rfl (fun K hK => ?_) AllReadyH.nil)
      go_simp
      refine (IH.out _ A4 c4 _ (hFr.below g4) hB4 hc4 hm4).mono ?_
      rintro e w5 ⟨A5, c5, rfl, hc5, hm5, hB5, hb5⟩
      have g5 := g4.trans (hb5.mono g4.size)
      go_wp2_with fail
      refine hK.out _ _ g5 (fun _ => ?_)
      clear hK K
      refine wpAnyH_take (i := 10) (oi := { dst := some 4, op := Op.assign (Operand.tmp 23), type := 23, pos := "ref.go:35", after := #[{ on := 9, ground := Ground.data }, { on := 9, ground := Ground.chain }, { on := 0, ground := Ground.phase }, { on := 1, ground := Ground.phase }, { on := 2, ground := Ground.phase }, { on := 3, ground := Ground.phase }, { on := 4, ground := Ground.phase }, { on := 5, ground := Ground.phase }, { on := 6, ground := Ground.phase }, { on := 7, ground := Ground.phase }, { on := 8, ground := Ground.phase }, { on := 9, ground := Ground.phase }], guard := none }) (v := ?va9) rfl (by kernel_rfl) (by kernel_rfl) (by kernel_rfl) (fun _ _ _ h => h) (Or.inl ⟨by rfl, ?ya9⟩) g5 ?_
      case ya9 =>
        intro w hSw
        go_simp; all_goals (with_reducible rfl)
      simp only [Act.put, List.setIfInBounds_toArray, List.set_cons_zero, List.set_cons_succ]
      refine wpAnyH_done (by kernel_rfl) ?_ _
      go_wp2_with fail
      go_ret
      exact ⟨A5, c5, rfl, hc5, hm5, hB5, g5⟩
    · rw [if_neg hc1] at hFr
      go_enter Try.func10, Try.ntmps10
      go_wp2_with fail
      refine wp_region_held_drew (S := fun w' => Below w.heap.size w w') (by kernel_rfl) hdr (fun hS => ?_)
      refine wpAnyH_take (i := 0) (oi := { dst := some 14, op := Op.move (Operand.tmp 0), type := 22, pos := "ref.go:35", after := #[], guard := none }) (v := ?vb10) rfl (by kernel_rfl) (by kernel_rfl) (by kernel_rfl) (fun _ _ _ h => h) (Or.inl ⟨by rfl, ?yb10⟩) hS ?_
      case yb10 =>
        intro w hSw
        go_simp; all_goals (with_reducible rfl)
      simp only [Act.put, List.setIfInBounds_toArray, List.set_cons_zero, List.set_cons_succ]
      refine wpAnyH_take (i := 1) (oi := { dst := some 15, op := Op.slice 22 (Operand.tmp 14) (some (Operand.const (Value.int IntKind.i64 1))) none none, type := 22, pos := "ref.go:35", after := #[{ on := 0, ground := Ground.data }], guard := none }) (v := ?vb11) rfl (by kernel_rfl) (by kernel_rfl) (by kernel_rfl) (fun _ _ _ h => h) (Or.inl ⟨by rfl, ?yb11⟩) hS ?_
      case yb11 =>
        intro w hSw
        have q1 : (1 : Int) ≤ (l.length : Int) + 1 := by omega
        go_simp; all_goals (with_reducible rfl)
      simp only [Act.put, List.setIfInBounds_toArray, List.set_cons_zero, List.set_cons_succ]
      refine wpAnyH_take (i := 2) (oi := { dst := some 16, op := Op.move (Operand.tmp 1), type := 23, pos := "ref.go:35", after := #[], guard := none }) (v := ?vb12) rfl (by kernel_rfl) (by kernel_rfl) (by kernel_rfl) (fun _ _ _ h => h) (Or.inl ⟨by rfl, ?yb12⟩) hS ?_
      case yb12 =>
        intro w hSw
        go_simp; all_goals (with_reducible rfl)
      simp only [Act.put, List.setIfInBounds_toArray, List.set_cons_zero, List.set_cons_succ]
      refine wpAnyH_take (i := 3) (oi := { dst := some 17, op := Op.move (Operand.tmp 0), type := 22, pos := "ref.go:35", after := #[], guard := none }) (v := ?vb13) rfl (by kernel_rfl) (by kernel_rfl) (by kernel_rfl) (fun _ _ _ h => h) (Or.inl ⟨by rfl, ?yb13⟩) hS ?_
      case yb13 =>
        intro w hSw
        go_simp; all_goals (with_reducible rfl)
      simp only [Act.put, List.setIfInBounds_toArray, List.set_cons_zero, List.set_cons_succ]
      refine wpAnyH_take (i := 4) (oi := { dst := some 18, op := Op.indexAddr 22 (Operand.tmp 17) (Operand.const (Value.int IntKind.i64 0)), type := 0, pos := "ref.go:35", after := #[{ on := 3, ground := Ground.data }], guard := none }) (v := ?vb14) rfl (by kernel_rfl) (by kernel_rfl) (by kernel_rfl) (fun _ _ _ h => h) (Or.inl ⟨by rfl, ?yb14⟩) hS ?_
      case yb14 =>
        intro w hSw
        go_simp; all_goals (with_reducible rfl)
      simp only [Act.put, List.setIfInBounds_toArray, List.set_cons_zero, List.set_cons_succ]
      refine wpAnyH_take (i := 5) (oi := { dst := some 19, op := Op.fieldAddr 33 (Operand.tmp 18) 1, type := 0, pos := "ref.go:35", after := #[{ on := 4, ground := Ground.data }], guard := none }) (v := ?vb15) rfl (by kernel_rfl) (by kernel_rfl) (by kernel_rfl) (fun _ _ _ h => h) (Or.inl ⟨by rfl, ?yb15⟩) hS ?_
      case yb15 =>
        intro w hSw
        go_simp; all_goals (with_reducible rfl)
      simp only [Act.put, List.setIfInBounds_toArray, List.set_cons_zero, List.set_cons_succ]
      refine wpAnyH_take (i := 6) (oi := { dst := some 20, op := Op.load 31 (Operand.tmp 19), type := 31, pos := "ref.go:35", after := #[{ on := 5, ground := Ground.data }], guard := none }) (v := ?vb16) rfl (by kernel_rfl) (by kernel_rfl) (by kernel_rfl) (fun _ _ _ h => h) (Or.inl ⟨by rfl, ?yb16⟩) hS ?_
      case yb16 =>
        intro w hSw
        have j0 := (hSw.cell (p := ⟨b0, off, none⟩) hbl).trans h0
        have j1 := (hSw.cell (p := ⟨b0, off + 1, none⟩) hbl).trans h1
        go_simp; all_goals (with_reducible rfl)
      simp only [Act.put, List.setIfInBounds_toArray, List.set_cons_zero, List.set_cons_succ]
      refine wpAnyH_take (i := 7) (oi := { dst := some 21, op := Op.convert 31 3 (Operand.tmp 20), type := 3, pos := "ref.go:35", after := #[{ on := 6, ground := Ground.data }], guard := none }) (v := ?vb17) rfl (by kernel_rfl) (by kernel_rfl) (by kernel_rfl) (fun _ _ _ h => h) (Or.inl ⟨by rfl, ?yb17⟩) hS ?_
      case yb17 =>
        intro w hSw
        have q2 : IntKind.i64.wrap (n : Int) = (n : Int) := IntWalk.i64_in _ (by omega)
        go_simp; all_goals (with_reducible rfl)
      simp only [Act.put, List.setIfInBounds_toArray, List.set_cons_zero, List.set_cons_succ]
      refine wpAnyH_ready (rs := [8]) (by kernel_rfl) (by simp) ?_
      refine (AllReadyH.cons (o := { dst := some 22, op := Op.call { callee := Callee.value (Operand.func 27), args := #[Operand.tmp 16, Operand.tmp 21], argTypes := #[23, 3] }, type := 23, pos := "ref.go:35", after := #[{ on := 2, ground := Ground.data }, { on := 7, ground := Ground.data }], guard := none }) rfl (fun K hK => ?_) AllReadyH.nil)
      go_simp
      refine (HC.out _ (hB.below hdr)).mono ?_
      rintro e w4 ⟨v4, rfl, ho4, hb4⟩
      obtain ⟨A4, c4, rfl, hc4, hm4, hB4⟩ := ho4.read
      have g4 := hdr.trans (hb4.mono hdr.size)
      clear ho4 hb4
      go_wp2_with fail
      refine hK.out _ _ g4 (fun _ => ?_)
      clear hK K
      refine wpAnyH_ready (rs := [9]) (by kernel_rfl) (by simp) ?_
      refine (AllReadyH.cons (o := { dst := some 23, op := Op.call { callee := Callee.value (Operand.func 10), args := #[Operand.tmp 15, Operand.tmp 22], argTypes := #[22, 23] }, type := 23, pos := "ref.go:35", after := #[{ on := 1, ground := Ground.data }, { on := 8, ground := Ground.data }, { on := 8, ground := Ground.chain }], guard := none }) rfl (fun K hK => ?_) AllReadyH.nil)
      go_simp
      refine (IH.out _ A4 c4 _ (hFr.below g4) hB4 hc4 hm4).mono ?_
      rintro e w5 ⟨A5, c5, rfl, hc5, hm5, hB5, hb5⟩
      have g5 := g4.trans (hb5.mono g4.size)
      go_wp2_with fail
      refine hK.out _ _ g5 (fun _ => ?_)
      clear hK K
      refine wpAnyH_take (i := 10) (oi := { dst := some 4, op := Op.assign (Operand.tmp 23), type := 23, pos := "ref.go:35", after := #[{ on := 9, ground := Ground.data }, { on := 9, ground := Ground.chain }, { on := 0, ground := Ground.phase }, { on := 1, ground := Ground.phase }, { on := 2, ground := Ground.phase }, { on := 3, ground := Ground.phase }, { on := 4, ground := Ground.phase }, { on := 5, ground := Ground.phase }, { on := 6, ground := Ground.phase }, { on := 7, ground := Ground.phase }, { on := 8, ground := Ground.phase }, { on := 9, ground := Ground.phase }], guard := none }) (v := ?vb18) rfl (by kernel_rfl) (by kernel_rfl) (by kernel_rfl) (fun _ _ _ h => h) (Or.inl ⟨by rfl, ?yb18⟩) g5 ?_
      case yb18 =>
        intro w hSw
        go_simp; all_goals (with_reducible rfl)
      simp only [Act.put, List.setIfInBounds_toArray, List.set_cons_zero, List.set_cons_succ]
      refine wpAnyH_done (by kernel_rfl) ?_ _
      go_wp2_with fail
      go_ret
      exact ⟨A5, c5, rfl, hc5, hm5, hB5, g5⟩
  · simp only at e g1 g2
    have hx : enc1 ⟨id, n⟩ b = coded (lowOf id) (cvOf id false) n b := by unfold enc1; rw [if_neg e]
    rw [hx] at IH ⊢
    have HC := Lib.hid (fun (w' : World) (h : Bytes w' A b) => rcode_any id g1 false n o3 A b c w' h hb hc hm)
    generalize coded (lowOf id) (cvOf id false) n b = X at *
    generalize sendL l X = Y at *
    have hd3 : (id == 3) = false := by simp [e]
    clear hx hfit g1 e
    by_cases hc1 : c0 = 1
    · subst hc1
      simp only [if_true] at hFr
      simp only [Nat.sub_self] at IH
      go_enter Try.func10, Try.ntmps10
      go_wp2_with fail
      refine wp_region_held_drew (S := fun w' => Below w.heap.size w w') (by kernel_rfl) hdr (fun hS => ?_)
      refine wpAnyH_take (i := 0) (oi := { dst := some 24, op := Op.move (Operand.tmp 0), type := 22, pos := "ref.go:37", after := #[], guard := none }) (v := ?vc19) rfl (by kernel_rfl) (by kernel_rfl) (by kernel_rfl) (fun _ _ _ h => h) (Or.inl ⟨by rfl, ?yc19⟩) hS ?_
      case yc19 =>
        intro w hSw
        go_simp; all_goals (with_reducible rfl)
      simp only [Act.put, List.setIfInBounds_toArray, List.set_cons_zero, List.set_cons_succ]
      refine wpAnyH_take (i := 1) (oi := { dst := some 25, op := Op.slice 22 (Operand.tmp 24) (some (Operand.const (Value.int IntKind.i64 1))) none none, type := 22, pos := "ref.go:37", after := #[{ on := 0, ground := Ground.data }], guard := none }) (v := ?vc20) rfl (by kernel_rfl) (by kernel_rfl) (by kernel_rfl) (fun _ _ _ h => h) (Or.inl ⟨by rfl, ?yc20⟩) hS ?_
      case yc20 =>
        intro w hSw
        have q1 : (1 : Int) ≤ (l.length : Int) + 1 := by omega
        go_simp; all_goals (with_reducible rfl)
      simp only [Act.put, List.setIfInBounds_toArray, List.set_cons_zero, List.set_cons_succ]
      refine wpAnyH_take (i := 2) (oi := { dst := some 26, op := Op.move (Operand.tmp 0), type := 22, pos := "ref.go:37", after := #[], guard := none }) (v := ?vc21) rfl (by kernel_rfl) (by kernel_rfl) (by kernel_rfl) (fun _ _ _ h => h) (Or.inl ⟨by rfl, ?yc21⟩) hS ?_
      case yc21 =>
        intro w hSw
        go_simp; all_goals (with_reducible rfl)
      simp only [Act.put, List.setIfInBounds_toArray, List.set_cons_zero, List.set_cons_succ]
      refine wpAnyH_take (i := 3) (oi := { dst := some 27, op := Op.indexAddr 22 (Operand.tmp 26) (Operand.const (Value.int IntKind.i64 0)), type := 0, pos := "ref.go:37", after := #[{ on := 2, ground := Ground.data }], guard := none }) (v := ?vc22) rfl (by kernel_rfl) (by kernel_rfl) (by kernel_rfl) (fun _ _ _ h => h) (Or.inl ⟨by rfl, ?yc22⟩) hS ?_
      case yc22 =>
        intro w hSw
        go_simp; all_goals (with_reducible rfl)
      simp only [Act.put, List.setIfInBounds_toArray, List.set_cons_zero, List.set_cons_succ]
      refine wpAnyH_take (i := 4) (oi := { dst := some 28, op := Op.fieldAddr 33 (Operand.tmp 27) 0, type := 0, pos := "ref.go:37", after := #[{ on := 3, ground := Ground.data }], guard := none }) (v := ?vc23) rfl (by kernel_rfl) (by kernel_rfl) (by kernel_rfl) (fun _ _ _ h => h) (Or.inl ⟨by rfl, ?yc23⟩) hS ?_
      case yc23 =>
        intro w hSw
        go_simp; all_goals (with_reducible rfl)
      simp only [Act.put, List.setIfInBounds_toArray, List.set_cons_zero, List.set_cons_succ]
      refine wpAnyH_take (i := 5) (oi := { dst := some 29, op := Op.load 3 (Operand.tmp 28), type := 3, pos := "ref.go:37", after := #[{ on := 4, ground := Ground.data }], guard := none }) (v := ?vc24) rfl (by kernel_rfl) (by kernel_rfl) (by kernel_rfl) (fun _ _ _ h => h) (Or.inl ⟨by rfl, ?yc24⟩) hS ?_
      case yc24 =>
        intro w hSw
        have j0 := (hSw.cell (p := ⟨b0, off, none⟩) hbl).trans h0
        have j1 := (hSw.cell (p := ⟨b0, off + 1, none⟩) hbl).trans h1
        go_simp; all_goals (with_reducible rfl)
      simp only [Act.put, List.setIfInBounds_toArray, List.set_cons_zero, List.set_cons_succ]
      refine wpAnyH_take (i := 6) (oi := { dst := some 30, op := Op.move (Operand.tmp 0), type := 22, pos := "ref.go:37", after := #[], guard := none }) (v := ?vc25) rfl (by kernel_rfl) (by kernel_rfl) (by kernel_rfl) (fun _ _ _ h => h) (Or.inl ⟨by rfl, ?yc25⟩) hS ?_
      case yc25 =>
        intro w hSw
        go_simp; all_goals (with_reducible rfl)
      simp only [Act.put, List.setIfInBounds_toArray, List.set_cons_zero, List.set_cons_succ]
      refine wpAnyH_take (i := 7) (oi := { dst := some 31, op := Op.indexAddr 22 (Operand.tmp 30) (Operand.const (Value.int IntKind.i64 0)), type := 0, pos := "ref.go:37", after := #[{ on := 6, ground := Ground.data }], guard := none }) (v := ?vc26) rfl (by kernel_rfl) (by kernel_rfl) (by kernel_rfl) (fun _ _ _ h => h) (Or.inl ⟨by rfl, ?yc26⟩) hS ?_
      case yc26 =>
        intro w hSw
        go_simp; all_goals (with_reducible rfl)
      simp only [Act.put, List.setIfInBounds_toArray, List.set_cons_zero, List.set_cons_succ]
      refine wpAnyH_take (i := 8) (oi := { dst := some 32, op := Op.fieldAddr 33 (Operand.tmp 31) 1, type := 0, pos := "ref.go:37", after := #[{ on := 7, ground := Ground.data }], guard := none }) (v := ?vc27) rfl (by kernel_rfl) (by kernel_rfl) (by kernel_rfl) (fun _ _ _ h => h) (Or.inl ⟨by rfl, ?yc27⟩) hS ?_
      case yc27 =>
        intro w hSw
        go_simp; all_goals (with_reducible rfl)
      simp only [Act.put, List.setIfInBounds_toArray, List.set_cons_zero, List.set_cons_succ]
      refine wpAnyH_take (i := 9) (oi := { dst := some 33, op := Op.load 31 (Operand.tmp 32), type := 31, pos := "ref.go:37", after := #[{ on := 8, ground := Ground.data }], guard := none }) (v := ?vc28) rfl (by kernel_rfl) (by kernel_rfl) (by kernel_rfl) (fun _ _ _ h => h) (Or.inl ⟨by rfl, ?yc28⟩) hS ?_
      case yc28 =>
        intro w hSw
        have j0 := (hSw.cell (p := ⟨b0, off, none⟩) hbl).trans h0
        have j1 := (hSw.cell (p := ⟨b0, off + 1, none⟩) hbl).trans h1
        go_simp; all_goals (with_reducible rfl)
      simp only [Act.put, List.setIfInBounds_toArray, List.set_cons_zero, List.set_cons_succ]
      refine wpAnyH_take (i := 10) (oi := { dst := some 34, op := Op.move (Operand.tmp 1), type := 23, pos := "ref.go:37", after := #[], guard := none }) (v := ?vc29) rfl (by kernel_rfl) (by kernel_rfl) (by kernel_rfl) (fun _ _ _ h => h) (Or.inl ⟨by rfl, ?yc29⟩) hS ?_
      case yc29 =>
        intro w hSw
        go_simp; all_goals (with_reducible rfl)
      simp only [Act.put, List.setIfInBounds_toArray, List.set_cons_zero, List.set_cons_succ]
      refine wpAnyH_ready (rs := [11]) (by kernel_rfl) (by simp) ?_
      refine (AllReadyH.cons (o := { dst := some 35, op := Op.call { callee := Callee.value (Operand.func 28), args := #[Operand.tmp 29, Operand.tmp 33, Operand.tmp 34, Operand.const (Value.bool false)], argTypes := #[3, 31, 23, 4] }, type := 23, pos := "ref.go:37", after := #[{ on := 5, ground := Ground.data }, { on := 9, ground := Ground.data }, { on := 10, ground := Ground.data }], guard := none }) rfl (fun K hK => ?_) AllReadyH.nil)
      go_simp
      refine (HC.out _ (hB.below hdr)).mono ?_
      rintro e w4 ⟨v4, rfl, ho4, hb4⟩
      obtain ⟨A4, c4, rfl, hc4, hm4, hB4⟩ := ho4.read
      have g4 := hdr.trans (hb4.mono hdr.size)
      clear ho4 hb4
      go_wp2_with fail
      refine hK.out _ _ g4 (fun _ => ?_)
      clear hK K
      refine wpAnyH_ready (rs := [12]) (by kernel_rfl) (by simp) ?_
      refine (AllReadyH.cons (o := { dst := some 36, op := Op.call { callee := Callee.value (Operand.func 10), args := #[Operand.tmp 25, Operand.tmp 35], argTypes := #[22, 23] }, type := 23, pos := "ref.go:37", after := #[{ on := 1, ground := Ground.data }, { on := 11, ground := Ground.data }, { on := 11, ground := Ground.chain }], guard := none }) rfl (fun K hK => ?_) AllReadyH.nil)
      go_simp
      refine (IH.out _ A4 c4 _ (hFr.below g4) hB4 hc4 hm4).mono ?_
      rintro e w5 ⟨A5, c5, rfl, hc5, hm5, hB5, hb5⟩
      have g5 := g4.trans (hb5.mono g4.size)
      go_wp2_with fail
      refine hK.out _ _ g5 (fun _ => ?_)
      clear hK K
      refine wpAnyH_take (i := 13) (oi := { dst := some 4, op := Op.assign (Operand.tmp 36), type := 23, pos := "ref.go:37", after := #[{ on := 12, ground := Ground.data }, { on := 12, ground := Ground.chain }, { on := 0, ground := Ground.phase }, { on := 1, ground := Ground.phase }, { on := 2, ground := Ground.phase }, { on := 3, ground := Ground.phase }, { on := 4, ground := Ground.phase }, { on := 5, ground := Ground.phase }, { on := 6, ground := Ground.phase }, { on := 7, ground := Ground.phase }, { on := 8, ground := Ground.phase }, { on := 9, ground := Ground.phase }, { on := 10, ground := Ground.phase }, { on := 11, ground := Ground.phase }, { on := 12, ground := Ground.phase }], guard := none }) (v := ?vc30) rfl (by kernel_rfl) (by kernel_rfl) (by kernel_rfl) (fun _ _ _ h => h) (Or.inl ⟨by rfl, ?yc30⟩) g5 ?_
      case yc30 =>
        intro w hSw
        go_simp; all_goals (with_reducible rfl)
      simp only [Act.put, List.setIfInBounds_toArray, List.set_cons_zero, List.set_cons_succ]
      refine wpAnyH_done (by kernel_rfl) ?_ _
      go_wp2_with fail
      go_ret
      exact ⟨A5, c5, rfl, hc5, hm5, hB5, g5⟩
    · rw [if_neg hc1] at hFr
      go_enter Try.func10, Try.ntmps10
      go_wp2_with fail
      refine wp_region_held_drew (S := fun w' => Below w.heap.size w w') (by kernel_rfl) hdr (fun hS => ?_)
      refine wpAnyH_take (i := 0) (oi := { dst := some 24, op := Op.move (Operand.tmp 0), type := 22, pos := "ref.go:37", after := #[], guard := none }) (v := ?vd31) rfl (by kernel_rfl) (by kernel_rfl) (by kernel_rfl) (fun _ _ _ h => h) (Or.inl ⟨by rfl, ?yd31⟩) hS ?_
      case yd31 =>
        intro w hSw
        go_simp; all_goals (with_reducible rfl)
      simp only [Act.put, List.setIfInBounds_toArray, List.set_cons_zero, List.set_cons_succ]
      refine wpAnyH_take (i := 1) (oi := { dst := some 25, op := Op.slice 22 (Operand.tmp 24) (some (Operand.const (Value.int IntKind.i64 1))) none none, type := 22, pos := "ref.go:37", after := #[{ on := 0, ground := Ground.data }], guard := none }) (v := ?vd32) rfl (by kernel_rfl) (by kernel_rfl) (by kernel_rfl) (fun _ _ _ h => h) (Or.inl ⟨by rfl, ?yd32⟩) hS ?_
      case yd32 =>
        intro w hSw
        have q1 : (1 : Int) ≤ (l.length : Int) + 1 := by omega
        go_simp; all_goals (with_reducible rfl)
      simp only [Act.put, List.setIfInBounds_toArray, List.set_cons_zero, List.set_cons_succ]
      refine wpAnyH_take (i := 2) (oi := { dst := some 26, op := Op.move (Operand.tmp 0), type := 22, pos := "ref.go:37", after := #[], guard := none }) (v := ?vd33) rfl (by kernel_rfl) (by kernel_rfl) (by kernel_rfl) (fun _ _ _ h => h) (Or.inl ⟨by rfl, ?yd33⟩) hS ?_
      case yd33 =>
        intro w hSw
        go_simp; all_goals (with_reducible rfl)
      simp only [Act.put, List.setIfInBounds_toArray, List.set_cons_zero, List.set_cons_succ]
      refine wpAnyH_take (i := 3) (oi := { dst := some 27, op := Op.indexAddr 22 (Operand.tmp 26) (Operand.const (Value.int IntKind.i64 0)), type := 0, pos := "ref.go:37", after := #[{ on := 2, ground := Ground.data }], guard := none }) (v := ?vd34) rfl (by kernel_rfl) (by kernel_rfl) (by kernel_rfl) (fun _ _ _ h => h) (Or.inl ⟨by rfl, ?yd34⟩) hS ?_
      case yd34 =>
        intro w hSw
        go_simp; all_goals (with_reducible rfl)
      simp only [Act.put, List.setIfInBounds_toArray, List.set_cons_zero, List.set_cons_succ]
      refine wpAnyH_take (i := 4) (oi := { dst := some 28, op := Op.fieldAddr 33 (Operand.tmp 27) 0, type := 0, pos := "ref.go:37", after := #[{ on := 3, ground := Ground.data }], guard := none }) (v := ?vd35) rfl (by kernel_rfl) (by kernel_rfl) (by kernel_rfl) (fun _ _ _ h => h) (Or.inl ⟨by rfl, ?yd35⟩) hS ?_
      case yd35 =>
        intro w hSw
        go_simp; all_goals (with_reducible rfl)
      simp only [Act.put, List.setIfInBounds_toArray, List.set_cons_zero, List.set_cons_succ]
      refine wpAnyH_take (i := 5) (oi := { dst := some 29, op := Op.load 3 (Operand.tmp 28), type := 3, pos := "ref.go:37", after := #[{ on := 4, ground := Ground.data }], guard := none }) (v := ?vd36) rfl (by kernel_rfl) (by kernel_rfl) (by kernel_rfl) (fun _ _ _ h => h) (Or.inl ⟨by rfl, ?yd36⟩) hS ?_
      case yd36 =>
        intro w hSw
        have j0 := (hSw.cell (p := ⟨b0, off, none⟩) hbl).trans h0
        have j1 := (hSw.cell (p := ⟨b0, off + 1, none⟩) hbl).trans h1
        go_simp; all_goals (with_reducible rfl)
      simp only [Act.put, List.setIfInBounds_toArray, List.set_cons_zero, List.set_cons_succ]
      refine wpAnyH_take (i := 6) (oi := { dst := some 30, op := Op.move (Operand.tmp 0), type := 22, pos := "ref.go:37", after := #[], guard := none }) (v := ?vd37) rfl (by kernel_rfl) (by kernel_rfl) (by kernel_rfl) (fun _ _ _ h => h) (Or.inl ⟨by rfl, ?yd37⟩) hS ?_
      case yd37 =>
        intro w hSw
        go_simp; all_goals (with_reducible rfl)
      simp only [Act.put, List.setIfInBounds_toArray, List.set_cons_zero, List.set_cons_succ]
      refine wpAnyH_take (i := 7) (oi := { dst := some 31, op := Op.indexAddr 22 (Operand.tmp 30) (Operand.const (Value.int IntKind.i64 0)), type := 0, pos := "ref.go:37", after := #[{ on := 6, ground := Ground.data }], guard := none }) (v := ?vd38) rfl (by kernel_rfl) (by kernel_rfl) (by kernel_rfl) (fun _ _ _ h => h) (Or.inl ⟨by rfl, ?yd38⟩) hS ?_
      case yd38 =>
        intro w hSw
        go_simp; all_goals (with_reducible rfl)
      simp only [Act.put, List.setIfInBounds_toArray, List.set_cons_zero, List.set_cons_succ]
      refine wpAnyH_take (i := 8) (oi := { dst := some 32, op := Op.fieldAddr 33 (Operand.tmp 31) 1, type := 0, pos := "ref.go:37", after := #[{ on := 7, ground := Ground.data }], guard := none }) (v := ?vd39) rfl (by kernel_rfl) (by kernel_rfl) (by kernel_rfl) (fun _ _ _ h => h) (Or.inl ⟨by rfl, ?yd39⟩) hS ?_
      case yd39 =>
        intro w hSw
        go_simp; all_goals (with_reducible rfl)
      simp only [Act.put, List.setIfInBounds_toArray, List.set_cons_zero, List.set_cons_succ]
      refine wpAnyH_take (i := 9) (oi := { dst := some 33, op := Op.load 31 (Operand.tmp 32), type := 31, pos := "ref.go:37", after := #[{ on := 8, ground := Ground.data }], guard := none }) (v := ?vd40) rfl (by kernel_rfl) (by kernel_rfl) (by kernel_rfl) (fun _ _ _ h => h) (Or.inl ⟨by rfl, ?yd40⟩) hS ?_
      case yd40 =>
        intro w hSw
        have j0 := (hSw.cell (p := ⟨b0, off, none⟩) hbl).trans h0
        have j1 := (hSw.cell (p := ⟨b0, off + 1, none⟩) hbl).trans h1
        go_simp; all_goals (with_reducible rfl)
      simp only [Act.put, List.setIfInBounds_toArray, List.set_cons_zero, List.set_cons_succ]
      refine wpAnyH_take (i := 10) (oi := { dst := some 34, op := Op.move (Operand.tmp 1), type := 23, pos := "ref.go:37", after := #[], guard := none }) (v := ?vd41) rfl (by kernel_rfl) (by kernel_rfl) (by kernel_rfl) (fun _ _ _ h => h) (Or.inl ⟨by rfl, ?yd41⟩) hS ?_
      case yd41 =>
        intro w hSw
        go_simp; all_goals (with_reducible rfl)
      simp only [Act.put, List.setIfInBounds_toArray, List.set_cons_zero, List.set_cons_succ]
      refine wpAnyH_ready (rs := [11]) (by kernel_rfl) (by simp) ?_
      refine (AllReadyH.cons (o := { dst := some 35, op := Op.call { callee := Callee.value (Operand.func 28), args := #[Operand.tmp 29, Operand.tmp 33, Operand.tmp 34, Operand.const (Value.bool false)], argTypes := #[3, 31, 23, 4] }, type := 23, pos := "ref.go:37", after := #[{ on := 5, ground := Ground.data }, { on := 9, ground := Ground.data }, { on := 10, ground := Ground.data }], guard := none }) rfl (fun K hK => ?_) AllReadyH.nil)
      go_simp
      refine (HC.out _ (hB.below hdr)).mono ?_
      rintro e w4 ⟨v4, rfl, ho4, hb4⟩
      obtain ⟨A4, c4, rfl, hc4, hm4, hB4⟩ := ho4.read
      have g4 := hdr.trans (hb4.mono hdr.size)
      clear ho4 hb4
      go_wp2_with fail
      refine hK.out _ _ g4 (fun _ => ?_)
      clear hK K
      refine wpAnyH_ready (rs := [12]) (by kernel_rfl) (by simp) ?_
      refine (AllReadyH.cons (o := { dst := some 36, op := Op.call { callee := Callee.value (Operand.func 10), args := #[Operand.tmp 25, Operand.tmp 35], argTypes := #[22, 23] }, type := 23, pos := "ref.go:37", after := #[{ on := 1, ground := Ground.data }, { on := 11, ground := Ground.data }, { on := 11, ground := Ground.chain }], guard := none }) rfl (fun K hK => ?_) AllReadyH.nil)
      go_simp
      refine (IH.out _ A4 c4 _ (hFr.below g4) hB4 hc4 hm4).mono ?_
      rintro e w5 ⟨A5, c5, rfl, hc5, hm5, hB5, hb5⟩
      have g5 := g4.trans (hb5.mono g4.size)
      go_wp2_with fail
      refine hK.out _ _ g5 (fun _ => ?_)
      clear hK K
      refine wpAnyH_take (i := 13) (oi := { dst := some 4, op := Op.assign (Operand.tmp 36), type := 23, pos := "ref.go:37", after := #[{ on := 12, ground := Ground.data }, { on := 12, ground := Ground.chain }, { on := 0, ground := Ground.phase }, { on := 1, ground := Ground.phase }, { on := 2, ground := Ground.phase }, { on := 3, ground := Ground.phase }, { on := 4, ground := Ground.phase }, { on := 5, ground := Ground.phase }, { on := 6, ground := Ground.phase }, { on := 7, ground := Ground.phase }, { on := 8, ground := Ground.phase }, { on := 9, ground := Ground.phase }, { on := 10, ground := Ground.phase }, { on := 11, ground := Ground.phase }, { on := 12, ground := Ground.phase }], guard := none }) (v := ?vd42) rfl (by kernel_rfl) (by kernel_rfl) (by kernel_rfl) (fun _ _ _ h => h) (Or.inl ⟨by rfl, ?yd42⟩) g5 ?_
      case yd42 =>
        intro w hSw
        go_simp; all_goals (with_reducible rfl)
      simp only [Act.put, List.setIfInBounds_toArray, List.set_cons_zero, List.set_cons_succ]
      refine wpAnyH_done (by kernel_rfl) ?_ _
      go_wp2_with fail
      go_ret
      exact ⟨A5, c5, rfl, hc5, hm5, hB5, g5⟩

set_option maxRecDepth 100000 in
set_option maxHeartbeats 2000000 in
theorem rback_cons (f : Fil) (l : List Fil) (hfit : fitB f = true) (hl20 : l.length ≤ 20) (ih : RBack l) : RBack (f :: l) := by
  intro A0 c0 A b c w hF hB hc hm hb hl0 hm0
  obtain ⟨b0, off, rfl, hbl, hat⟩ := hF.addr (by simp)
  have hk1 := hat 0 (by simp)
  simp only [Nat.zero_mul, Nat.add_zero, List.getElem_cons_zero] at hk1
  have h0 := hk1.c0
  have h1 := hk1.c1
  obtain ⟨o1, o2, o3⟩ := hk1.ok
  have hxl := backL_length l b
  have hs : backL (f :: l) b = dec1 f (backL l b) := rfl
  rw [hs]
  have hFr := hF.cut c0 hl0
  have hcl : (f :: l).length = l.length + 1 := rfl
  have IH := Lib.hid (ih (if c0 = 1 then some ⟨b0, off, none⟩ else some ⟨b0, off + 2, none⟩) (c0 - 1) A b c w hFr hB hc hm hb (by simp at hl0; omega) (by omega))
  rw [hcl] at hl0 ⊢
  obtain ⟨id, n⟩ := f
  simp only at h0 h1 o1 o2 o3
  have e1 : (l.length + 1) - 1 = l.length := by omega
  generalize backL l b = X at *
  clear hs hat hk1 hcl ih hFr
  rcases fit_id _ hfit with ⟨e, g1, g2⟩ | ⟨e, g1, g2⟩
  · simp only at e g1 g2
    subst e
    have hx : dec1 ⟨3, n⟩ X = Delta.dec X ((n : Int).toNat) := rfl
    rw [hx]
    have HC := Lib.hid (fun (A : Option Addr) (c : Nat) (w' : World) (h : Bytes w' A X) => De.refdec_any A X c (n : Int) w' h (by omega) (by omega) (by omega))
    generalize Delta.dec X ((n : Int).toNat) = Y at *
    clear hx hfit hxl
    by_cases hc1 : c0 = 1
    · subst hc1
      simp only [if_true] at IH
      go_enter Try.func11, Try.ntmps11
      go_wp2_with fail
      refine IH.out.mono ?_
      rintro e w5 ⟨A5, c5, rfl, hc5, hm5, hB5, g5⟩
      have j0 := (g5.cell (p := ⟨b0, off, none⟩) hbl).trans h0
      have j1 := (g5.cell (p := ⟨b0, off + 1, none⟩) hbl).trans h1
      go_wp2_with fail
      refine (HC.out A5 c5 _ hB5).mono ?_
      rintro e w6 ⟨v6, rfl, ho6, hb6⟩
      obtain ⟨A7, c7, rfl, hc7, hm7, hB7⟩ := ho6.read
      go_wp2_with fail
      go_ret
      exact ⟨A7, c7, rfl, hc7, hm7, hB7, g5.trans (hb6.mono g5.size)⟩
    · rw [if_neg hc1] at IH
      go_enter Try.func11, Try.ntmps11
      go_wp2_with fail
      refine IH.out.mono ?_
      rintro e w5 ⟨A5, c5, rfl, hc5, hm5, hB5, g5⟩
      have j0 := (g5.cell (p := ⟨b0, off, none⟩) hbl).trans h0
      have j1 := (g5.cell (p := ⟨b0, off + 1, none⟩) hbl).trans h1
      go_wp2_with fail
      refine (HC.out A5 c5 _ hB5).mono ?_
      rintro e w6 ⟨v6, rfl, ho6, hb6⟩
      obtain ⟨A7, c7, rfl, hc7, hm7, hB7⟩ := ho6.read
      go_wp2_with fail
      go_ret
      exact ⟨A7, c7, rfl, hc7, hm7, hB7, g5.trans (hb6.mono g5.size)⟩
  · simp only at e g1 g2
    have hx : dec1 ⟨id, n⟩ X = coded (lowOf id) (cvOf id true) n X := by unfold dec1; rw [if_neg e]
    rw [hx]
    have HC := Lib.hid (fun (A : Option Addr) (c : Nat) (w' : World) (h : Bytes w' A X) (hc : X.length ≤ c) (hm : c ≤ 9223372036854775807) => rcode_any id g1 true n o3 A X c w' h (by omega) hc hm)
    generalize coded (lowOf id) (cvOf id true) n X = Y at *
    have hd3 : (id == 3) = false := by simp [e]
    clear hx hfit g1 e hxl
    by_cases hc1 : c0 = 1
    · subst hc1
      simp only [if_true] at IH
      go_enter Try.func11, Try.ntmps11
      go_wp2_with fail
      refine IH.out.mono ?_
      rintro e w5 ⟨A5, c5, rfl, hc5, hm5, hB5, g5⟩
      have j0 := (g5.cell (p := ⟨b0, off, none⟩) hbl).trans h0
      have j1 := (g5.cell (p := ⟨b0, off + 1, none⟩) hbl).trans h1
      go_wp2_with fail
      have hdr5 := g5.trans ((drew_only w5).mono g5.size)
      refine wp_region_held_drew (S := fun w' => Below w.heap.size w w') (by kernel_rfl) hdr5 (fun hS => ?_)
      refine wpAnyH_take (i := 0) (oi := { dst := some 26, op := Op.move (Operand.tmp 0), type := 22, pos := "ref.go:49", after := #[], guard := none }) (v := ?ve43) rfl (by kernel_rfl) (by kernel_rfl) (by kernel_rfl) (fun _ _ _ h => h) (Or.inl ⟨by rfl, ?ye43⟩) hS ?_
      case ye43 =>
        intro w hSw
        go_simp; all_goals (with_reducible rfl)
      simp only [Act.put, List.setIfInBounds_toArray, List.set_cons_zero, List.set_cons_succ]
      refine wpAnyH_take (i := 1) (oi := { dst := some 27, op := Op.indexAddr 22 (Operand.tmp 26) (Operand.const (Value.int IntKind.i64 0)), type := 0, pos := "ref.go:49", after := #[{ on := 0, ground := Ground.data }], guard := none }) (v := ?ve44) rfl (by kernel_rfl) (by kernel_rfl) (by kernel_rfl) (fun _ _ _ h => h) (Or.inl ⟨by rfl, ?ye44⟩) hS ?_
      case ye44 =>
        intro w hSw
        go_simp; all_goals (with_reducible rfl)
      simp only [Act.put, List.setIfInBounds_toArray, List.set_cons_zero, List.set_cons_succ]
      refine wpAnyH_take (i := 2) (oi := { dst := some 28, op := Op.fieldAddr 33 (Operand.tmp 27) 0, type := 0, pos := "ref.go:49", after := #[{ on := 1, ground := Ground.data }], guard := none }) (v := ?ve45) rfl (by kernel_rfl) (by kernel_rfl) (by kernel_rfl) (fun _ _ _ h => h) (Or.inl ⟨by rfl, ?ye45⟩) hS ?_
      case ye45 =>
        intro w hSw
        go_simp; all_goals (with_reducible rfl)
      simp only [Act.put, List.setIfInBounds_toArray, List.set_cons_zero, List.set_cons_succ]
      refine wpAnyH_take (i := 3) (oi := { dst := some 29, op := Op.load 3 (Operand.tmp 28), type := 3, pos := "ref.go:49", after := #[{ on := 2, ground := Ground.data }], guard := none }) (v := ?ve46) rfl (by kernel_rfl) (by kernel_rfl) (by kernel_rfl) (fun _ _ _ h => h) (Or.inl ⟨by rfl, ?ye46⟩) hS ?_
      case ye46 =>
        intro w hSw
        have j0 := (hSw.cell (p := ⟨b0, off, none⟩) hbl).trans h0
        have j1 := (hSw.cell (p := ⟨b0, off + 1, none⟩) hbl).trans h1
        go_simp; all_goals (with_reducible rfl)
      simp only [Act.put, List.setIfInBounds_toArray, List.set_cons_zero, List.set_cons_succ]
      refine wpAnyH_take (i := 4) (oi := { dst := some 30, op := Op.move (Operand.tmp 0), type := 22, pos := "ref.go:49", after := #[], guard := none }) (v := ?ve47) rfl (by kernel_rfl) (by kernel_rfl) (by kernel_rfl) (fun _ _ _ h => h) (Or.inl ⟨by rfl, ?ye47⟩) hS ?_
      case ye47 =>
        intro w hSw
        go_simp; all_goals (with_reducible rfl)
      simp only [Act.put, List.setIfInBounds_toArray, List.set_cons_zero, List.set_cons_succ]
      refine wpAnyH_take (i := 5) (oi := { dst := some 31, op := Op.indexAddr 22 (Operand.tmp 30) (Operand.const (Value.int IntKind.i64 0)), type := 0, pos := "ref.go:49", after := #[{ on := 4, ground := Ground.data }], guard := none }) (v := ?ve48) rfl (by kernel_rfl) (by kernel_rfl) (by kernel_rfl) (fun _ _ _ h => h) (Or.inl ⟨by rfl, ?ye48⟩) hS ?_
      case ye48 =>
        intro w hSw
        go_simp; all_goals (with_reducible rfl)
      simp only [Act.put, List.setIfInBounds_toArray, List.set_cons_zero, List.set_cons_succ]
      refine wpAnyH_take (i := 6) (oi := { dst := some 32, op := Op.fieldAddr 33 (Operand.tmp 31) 1, type := 0, pos := "ref.go:49", after := #[{ on := 5, ground := Ground.data }], guard := none }) (v := ?ve49) rfl (by kernel_rfl) (by kernel_rfl) (by kernel_rfl) (fun _ _ _ h => h) (Or.inl ⟨by rfl, ?ye49⟩) hS ?_
      case ye49 =>
        intro w hSw
        go_simp; all_goals (with_reducible rfl)
      simp only [Act.put, List.setIfInBounds_toArray, List.set_cons_zero, List.set_cons_succ]
      refine wpAnyH_take (i := 7) (oi := { dst := some 33, op := Op.load 31 (Operand.tmp 32), type := 31, pos := "ref.go:49", after := #[{ on := 6, ground := Ground.data }], guard := none }) (v := ?ve50) rfl (by kernel_rfl) (by kernel_rfl) (by kernel_rfl) (fun _ _ _ h => h) (Or.inl ⟨by rfl, ?ye50⟩) hS ?_
      case ye50 =>
        intro w hSw
        have j0 := (hSw.cell (p := ⟨b0, off, none⟩) hbl).trans h0
        have j1 := (hSw.cell (p := ⟨b0, off + 1, none⟩) hbl).trans h1
        go_simp; all_goals (with_reducible rfl)
      simp only [Act.put, List.setIfInBounds_toArray, List.set_cons_zero, List.set_cons_succ]
      refine wpAnyH_take (i := 8) (oi := { dst := some 34, op := Op.move (Operand.tmp 5), type := 23, pos := "ref.go:49", after := #[], guard := none }) (v := ?ve51) rfl (by kernel_rfl) (by kernel_rfl) (by kernel_rfl) (fun _ _ _ h => h) (Or.inl ⟨by rfl, ?ye51⟩) hS ?_
      case ye51 =>
        intro w hSw
        go_simp; all_goals (with_reducible rfl)
      simp only [Act.put, List.setIfInBounds_toArray, List.set_cons_zero, List.set_cons_succ]
      refine wpAnyH_ready (rs := [9]) (by kernel_rfl) (by simp) ?_
      refine (AllReadyH.cons (o := { dst := some 35, op := Op.call { callee := Callee.value (Operand.func 28), args := #[Operand.tmp 29, Operand.tmp 33, Operand.tmp 34, Operand.const (Value.bool true)], argTypes := #[3, 31, 23, 4] }, type := 23, pos := "ref.go:49", after := #[{ on := 3, ground := Ground.data }, { on := 7, ground := Ground.data }, { on := 8, ground := Ground.data }], guard := none }) rfl (fun K hK => ?_) AllReadyH.nil)
      go_simp
      refine (HC.out A5 c5 _ (hB5.below (drew_only w5)) hc5 hm5).mono ?_
      rintro e w6 ⟨v6, rfl, ho6, hb6⟩
      obtain ⟨A7, c7, rfl, hc7, hm7, hB7⟩ := ho6.read
      have g6 := g5.trans ((drew_only w5).trans hb6 |>.mono g5.size)
      clear ho6 hb6
      go_wp2_with fail
      refine hK.out _ _ g6 (fun _ => ?_)
      clear hK K
      refine wpAnyH_take (i := 10) (oi := { dst := some 4, op := Op.assign (Operand.tmp 35), type := 23, pos := "ref.go:49", after := #[{ on := 9, ground := Ground.data }, { on := 9, ground := Ground.chain }, { on := 0, ground := Ground.phase }, { on := 1, ground := Ground.phase }, { on := 2, ground := Ground.phase }, { on := 3, ground := Ground.phase }, { on := 4, ground := Ground.phase }, { on := 5, ground := Ground.phase }, { on := 6, ground := Ground.phase }, { on := 7, ground := Ground.phase }, { on := 8, ground := Ground.phase }, { on := 9, ground := Ground.phase }], guard := none }) (v := ?ve52) rfl (by kernel_rfl) (by kernel_rfl) (by kernel_rfl) (fun _ _ _ h => h) (Or.inl ⟨by rfl, ?ye52⟩) g6 ?_
      case ye52 =>
        intro w hSw
        go_simp; all_goals (with_reducible rfl)
      simp only [Act.put, List.setIfInBounds_toArray, List.set_cons_zero, List.set_cons_succ]
      refine wpAnyH_done (by kernel_rfl) ?_ _
      go_wp2_with fail
      go_ret
      exact ⟨A7, c7, rfl, hc7, hm7, hB7, g6⟩
    · rw [if_neg hc1] at IH
      go_enter Try.func11, Try.ntmps11
      go_wp2_with fail
      refine IH.out.mono ?_
      rintro e w5 ⟨A5, c5, rfl, hc5, hm5, hB5, g5⟩
      have j0 := (g5.cell (p := ⟨b0, off, none⟩) hbl).trans h0
      have j1 := (g5.cell (p := ⟨b0, off + 1, none⟩) hbl).trans h1
      go_wp2_with fail
      have hdr5 := g5.trans ((drew_only w5).mono g5.size)
      refine wp_region_held_drew (S := fun w' => Below w.heap.size w w') (by kernel_rfl) hdr5 (fun hS => ?_)
      refine wpAnyH_take (i := 0) (oi := { dst := some 26, op := Op.move (Operand.tmp 0), type := 22, pos := "ref.go:49", after := #[], guard := none }) (v := ?vf53) rfl (by kernel_rfl) (by kernel_rfl) (by kernel_rfl) (fun _ _ _ h => h) (Or.inl ⟨by rfl, ?yf53⟩) hS ?_
      case yf53 =>
        intro w hSw
        go_simp; all_goals (with_reducible rfl)
      simp only [Act.put, List.setIfInBounds_toArray, List.set_cons_zero, List.set_cons_succ]
      refine wpAnyH_take (i := 1) (oi := { dst := some 27, op := Op.indexAddr 22 (Operand.tmp 26) (Operand.const (Value.int IntKind.i64 0)), type := 0, pos := "ref.go:49", after := #[{ on := 0, ground := Ground.data }], guard := none }) (v := ?vf54) rfl (by kernel_rfl) (by kernel_rfl) (by kernel_rfl) (fun _ _ _ h => h) (Or.inl ⟨by rfl, ?yf54⟩) hS ?_
      case yf54 =>
        intro w hSw
        go_simp; all_goals (with_reducible rfl)
      simp only [Act.put, List.setIfInBounds_toArray, List.set_cons_zero, List.set_cons_succ]
      refine wpAnyH_take (i := 2) (oi := { dst := some 28, op := Op.fieldAddr 33 (Operand.tmp 27) 0, type := 0, pos := "ref.go:49", after := #[{ on := 1, ground := Ground.data }], guard := none }) (v := ?vf55) rfl (by kernel_rfl) (by kernel_rfl) (by kernel_rfl) (fun _ _ _ h => h) (Or.inl ⟨by rfl, ?yf55⟩) hS ?_
      case yf55 =>
        intro w hSw
        go_simp; all_goals (with_reducible rfl)
      simp only [Act.put, List.setIfInBounds_toArray, List.set_cons_zero, List.set_cons_succ]
      refine wpAnyH_take (i := 3) (oi := { dst := some 29, op := Op.load 3 (Operand.tmp 28), type := 3, pos := "ref.go:49", after := #[{ on := 2, ground := Ground.data }], guard := none }) (v := ?vf56) rfl (by kernel_rfl) (by kernel_rfl) (by kernel_rfl) (fun _ _ _ h => h) (Or.inl ⟨by rfl, ?yf56⟩) hS ?_
      case yf56 =>
        intro w hSw
        have j0 := (hSw.cell (p := ⟨b0, off, none⟩) hbl).trans h0
        have j1 := (hSw.cell (p := ⟨b0, off + 1, none⟩) hbl).trans h1
        go_simp; all_goals (with_reducible rfl)
      simp only [Act.put, List.setIfInBounds_toArray, List.set_cons_zero, List.set_cons_succ]
      refine wpAnyH_take (i := 4) (oi := { dst := some 30, op := Op.move (Operand.tmp 0), type := 22, pos := "ref.go:49", after := #[], guard := none }) (v := ?vf57) rfl (by kernel_rfl) (by kernel_rfl) (by kernel_rfl) (fun _ _ _ h => h) (Or.inl ⟨by rfl, ?yf57⟩) hS ?_
      case yf57 =>
        intro w hSw
        go_simp; all_goals (with_reducible rfl)
      simp only [Act.put, List.setIfInBounds_toArray, List.set_cons_zero, List.set_cons_succ]
      refine wpAnyH_take (i := 5) (oi := { dst := some 31, op := Op.indexAddr 22 (Operand.tmp 30) (Operand.const (Value.int IntKind.i64 0)), type := 0, pos := "ref.go:49", after := #[{ on := 4, ground := Ground.data }], guard := none }) (v := ?vf58) rfl (by kernel_rfl) (by kernel_rfl) (by kernel_rfl) (fun _ _ _ h => h) (Or.inl ⟨by rfl, ?yf58⟩) hS ?_
      case yf58 =>
        intro w hSw
        go_simp; all_goals (with_reducible rfl)
      simp only [Act.put, List.setIfInBounds_toArray, List.set_cons_zero, List.set_cons_succ]
      refine wpAnyH_take (i := 6) (oi := { dst := some 32, op := Op.fieldAddr 33 (Operand.tmp 31) 1, type := 0, pos := "ref.go:49", after := #[{ on := 5, ground := Ground.data }], guard := none }) (v := ?vf59) rfl (by kernel_rfl) (by kernel_rfl) (by kernel_rfl) (fun _ _ _ h => h) (Or.inl ⟨by rfl, ?yf59⟩) hS ?_
      case yf59 =>
        intro w hSw
        go_simp; all_goals (with_reducible rfl)
      simp only [Act.put, List.setIfInBounds_toArray, List.set_cons_zero, List.set_cons_succ]
      refine wpAnyH_take (i := 7) (oi := { dst := some 33, op := Op.load 31 (Operand.tmp 32), type := 31, pos := "ref.go:49", after := #[{ on := 6, ground := Ground.data }], guard := none }) (v := ?vf60) rfl (by kernel_rfl) (by kernel_rfl) (by kernel_rfl) (fun _ _ _ h => h) (Or.inl ⟨by rfl, ?yf60⟩) hS ?_
      case yf60 =>
        intro w hSw
        have j0 := (hSw.cell (p := ⟨b0, off, none⟩) hbl).trans h0
        have j1 := (hSw.cell (p := ⟨b0, off + 1, none⟩) hbl).trans h1
        go_simp; all_goals (with_reducible rfl)
      simp only [Act.put, List.setIfInBounds_toArray, List.set_cons_zero, List.set_cons_succ]
      refine wpAnyH_take (i := 8) (oi := { dst := some 34, op := Op.move (Operand.tmp 5), type := 23, pos := "ref.go:49", after := #[], guard := none }) (v := ?vf61) rfl (by kernel_rfl) (by kernel_rfl) (by kernel_rfl) (fun _ _ _ h => h) (Or.inl ⟨by rfl, ?yf61⟩) hS ?_
      case yf61 =>
        intro w hSw
        go_simp; all_goals (with_reducible rfl)
      simp only [Act.put, List.setIfInBounds_toArray, List.set_cons_zero, List.set_cons_succ]
      refine wpAnyH_ready (rs := [9]) (by kernel_rfl) (by simp) ?_
      refine (AllReadyH.cons (o := { dst := some 35, op := Op.call { callee := Callee.value (Operand.func 28), args := #[Operand.tmp 29, Operand.tmp 33, Operand.tmp 34, Operand.const (Value.bool true)], argTypes := #[3, 31, 23, 4] }, type := 23, pos := "ref.go:49", after := #[{ on := 3, ground := Ground.data }, { on := 7, ground := Ground.data }, { on := 8, ground := Ground.data }], guard := none }) rfl (fun K hK => ?_) AllReadyH.nil)
      go_simp
      refine (HC.out A5 c5 _ (hB5.below (drew_only w5)) hc5 hm5).mono ?_
      rintro e w6 ⟨v6, rfl, ho6, hb6⟩
      obtain ⟨A7, c7, rfl, hc7, hm7, hB7⟩ := ho6.read
      have g6 := g5.trans ((drew_only w5).trans hb6 |>.mono g5.size)
      clear ho6 hb6
      go_wp2_with fail
      refine hK.out _ _ g6 (fun _ => ?_)
      clear hK K
      refine wpAnyH_take (i := 10) (oi := { dst := some 4, op := Op.assign (Operand.tmp 35), type := 23, pos := "ref.go:49", after := #[{ on := 9, ground := Ground.data }, { on := 9, ground := Ground.chain }, { on := 0, ground := Ground.phase }, { on := 1, ground := Ground.phase }, { on := 2, ground := Ground.phase }, { on := 3, ground := Ground.phase }, { on := 4, ground := Ground.phase }, { on := 5, ground := Ground.phase }, { on := 6, ground := Ground.phase }, { on := 7, ground := Ground.phase }, { on := 8, ground := Ground.phase }, { on := 9, ground := Ground.phase }], guard := none }) (v := ?vf62) rfl (by kernel_rfl) (by kernel_rfl) (by kernel_rfl) (fun _ _ _ h => h) (Or.inl ⟨by rfl, ?yf62⟩) g6 ?_
      case yf62 =>
        intro w hSw
        go_simp; all_goals (with_reducible rfl)
      simp only [Act.put, List.setIfInBounds_toArray, List.set_cons_zero, List.set_cons_succ]
      refine wpAnyH_done (by kernel_rfl) ?_ _
      go_wp2_with fail
      go_ret
      exact ⟨A7, c7, rfl, hc7, hm7, hB7, g6⟩

theorem rsend_any (l : List Fil) (hl : l.length ≤ 20) (hall : l.all fitB = true) : RSend l := by
  induction l with
  | nil => exact rsend_nil
  | cons f l ih =>
    rw [List.all_cons, Bool.and_eq_true] at hall
    simp at hl
    exact rsend_cons f l hall.1 (by omega) (ih (by omega) hall.2)
theorem rback_any (l : List Fil) (hl : l.length ≤ 20) (hall : l.all fitB = true) : RBack l := by
  induction l with
  | nil => exact rback_nil
  | cons f l ih =>
    rw [List.all_cons, Bool.and_eq_true] at hall
    simp at hl
    exact rback_cons f l hall.1 (by omega) (ih (by omega) hall.2)
end Go.Proofs.Ytflklbnebljnmaa
