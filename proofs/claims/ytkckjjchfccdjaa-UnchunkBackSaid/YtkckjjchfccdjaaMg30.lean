/- Several texts in one: UcDec, UcProps. -/
import Derived.Test.YtkckjjchfccdjaaMg1
import Derived.Test.YtkckjjchfccdjaaMg29
import Derived.StillTailTactics
/- Chunks read back: a packed chunk's bytes are decoded. -/
namespace Go.Proofs.Ytkckjjchfccdjaa
set_option maxRecDepth 100000
open Go.RowKit

theorem UkB.same {k : UkP} {w : World} {pos : Nat} {s s' : CkS} {cv : Value} (h : UkB k w pos s cv) (h1 : ∀ v, ukRow k.dict v s cv = ukRow k.dict v s' cv) (h2 : s'.out = s.out) (h3 : s'.start = s.start) : UkB k w pos s' cv := by
  obtain ⟨v, hr, ho⟩ := h.row
  exact ⟨h.boxB, h.boxA, ⟨v, by rw [← h1]; exact hr, by rw [h2]; exact ho⟩, h.low, h.bytes, by rw [h2, h3]; exact h.nums, h.below, h.bsz⟩
set_option maxHeartbeats 4000000 in
theorem decode_any {k : UkP} {w : World} {pos : Nat} {s : CkS} (h : Uk k w pos s) (hcl : s.clear = true) (has : s.asked = false) (ho : s.out.length ≤ 400000000) (A : Option Addr) (L : List UInt8) (c : Nat) (hB : Bytes w A L) (hL : L.length ≤ 65536) (size : Nat) (hsz : size ≤ 4000000) (hd1 : 1 ≤ k.dict) (hd2 : k.dict ≤ 9223372036854775807) :
    Calls Try.prog 40 #[PF k.R, .slice A L.length c, .int .i64 (size : Nat)] w (CkDone k (undecode L size k.dict pos s)) := by
  obtain ⟨cv, hU, hC⟩ := h
  obtain ⟨C, Lb, rfl, hlow, hM, hperm, hst, hrg⟩ := hC hcl has
  have hp' := of_decide_eq_true hperm
  have HU := Lib.hid hU
  have HM := Lib.hid (And.intro hM (And.intro hlow (And.intro hst hrg)))
  have HP := Lib.hid (And.intro (show s.lc ≤ 4 by omega) (And.intro (show s.lp ≤ 4 by omega) (And.intro (show s.pb ≤ 4 by omega) hperm)))
  have HO := Lib.hid ho
  have HCA := Lib.hid (And.intro hcl has)
  by_cases h5 : L.length < 5
  · have HN := Lib.hid (dnew_short A L c w h5)
    have HR := Lib.hid (show undecode L size k.dict pos s = .bad 6 by unfold undecode; rw [if_pos h5])
    generalize L.length = n at *
    clear hU hC hM hlow hst hrg hp' hperm ho hcl has h5 hB hL
    go_enter Try.func40, Try.ntmps40
    go_wp2_with fail
    refine HN.out.mono ?_
    rintro e w1 ⟨rfl, rfl⟩
    go_wp2_with fail
    go_ret
    rw [HR.out]
    exact ⟨rfl, HU.out.below⟩
  · by_cases h0 : L.getD 0 0 ≠ 0
    · have HN := Lib.hid (dnew_bad A L c w hB (by omega) h0)
      have HR := Lib.hid (show undecode L size k.dict pos s = .bad 6 by unfold undecode; rw [if_neg h5, if_pos h0])
      clear hU hC hM hlow hst hrg hp' hperm ho hcl has h5 hB hL h0
      go_enter Try.func40, Try.ntmps40
      go_wp2_with fail
      refine HN.out.mono ?_
      rintro e w1 ⟨rfl, rfl⟩
      go_wp2_with fail
      go_ret
      rw [HR.out]
      exact ⟨rfl, HU.out.below⟩
    · have h0' : L.getD 0 0 = 0 := by simpa using h0
      have HN := Lib.hid (dnew_good A L c w hB (by omega) (by omega) h0')
      obtain ⟨RES, hRES⟩ : ∃ R, uread 0 0 0 L s.lc s.lp s.pb k.dict ((s.out.drop s.start).length + size) size (s.out.drop s.start) s.st s.r (s.P, Rd.start L) = R := ⟨_, rfl⟩
      have HR := Lib.hid (show undecode L size k.dict pos s = unmore L (s.out.drop s.start).length pos s RES by unfold undecode; rw [if_neg h5, if_neg h0, hRES])
      have HRES := Lib.hid hRES
      have HL := Lib.hid (show 5 ≤ L.length ∧ L.length ≤ 140737488355328 by omega)
      have hszi : (size : Int) ≤ 4000000 := by omega
      clear hU hC hM hlow hst hrg hp' hperm ho hcl has h5 hB hL h0 h0' hRES
      go_enter Try.func40, Try.ntmps40
      go_wp2_with fail
      refine HN.out.mono ?_
      rintro e w1 ⟨g, o, cap, rfl, hD, hb1, hg, hoo⟩
      have hU1 := HU.out.of_below hb1
      have hM1 := HM.out.1.keep (hb1.block _ HM.out.1.clt) (hb1.block _ HM.out.1.llt)
      have hlt := And.intro HM.out.1.clt HM.out.1.llt
      have hsz1 := hb1.size
      obtain ⟨v, ⟨r0, r1, r2, _, _, _, _, _, r8⟩, hov, hfr⟩ := hU1.cells
      obtain ⟨AO, cO, rfl, hcO, hmO, hBO⟩ := hov.read
      have hss := hU1.nums.2.2.2.2
      have hBH := hBO.cutFrom hss hcO
      obtain ⟨AH, hAH⟩ : ∃ AH, (if cO = s.start then AO else AO.map (·.add s.start)) = AH := ⟨_, rfl⟩
      rw [hAH] at hBH
      have hlen : (s.out.drop s.start).length = s.out.length - s.start := List.length_drop
      obtain ⟨hl, hhl⟩ : ∃ n, s.out.length - s.start = n := ⟨_, rfl⟩
      rw [hhl] at hlen
      obtain ⟨ca, hca⟩ : ∃ n, cO - s.start = n := ⟨_, rfl⟩
      have HUD : Hid (∀ W, Below w1.heap.size w1 W → Calls Try.prog 52 #[PF g, PF C, .slice AH hl ca, .int .i64 (size : Nat), .int .i64 k.dict] W (UdDone g o cap L C Lb s.lc s.lp s.pb hl RES W)) := Lib.hid (fun W hW => by
        have hud := udread_any (hM1.keep (hW.block _ (by omega)) (hW.block _ (by omega))) (hD.below hW) HL.out ⟨by omega, by omega, by omega, by omega⟩ HP.out.1 HP.out.2.1 HP.out.2.2.1 HM.out.2.2.1 HM.out.2.2.2 AH (s.out.drop s.start) ca (hBH.below hW) (by omega) (by have := HO.out; omega) size (by omega) k.dict hd1 hd2
        rw [HRES.out, hlen] at hud
        exact hud)
      obtain ⟨v0, hrow, _⟩ := hU1.row
      obtain ⟨v00, hrow00, _⟩ := HU.out.row
      have hRw := (Array.getElem?_eq_some_iff.1 hrow00).1
      obtain ⟨T, hT, _⟩ := hM1.box
      obtain ⟨l, hlt, _⟩ := hM1.lits
      have hRC := row_ne hrow hT (by decide)
      have hRL := row_ne hrow hlt (by decide)
      have hRl := (Array.getElem?_eq_some_iff.1 hrow).1
      obtain ⟨T0, hT0, _⟩ := HM.out.1.box
      obtain ⟨l0, hlt0, _⟩ := HM.out.1.lits
      have hkx : ∀ x, Only [C, Lb, g, o] w1.drew x → UkB k x pos s (PF C) ∧ Below k.base k.w0 x := by
        intro x hx
        have hbw : Below k.base w x := (hb1.mono (Nat.le_trans HU.out.bsz HU.out.below.size)).trans ((Below.refl _ _).drew.trans (hx.below (Nat.le_trans HU.out.bsz (Nat.le_trans HU.out.below.size hsz1)) (by
          intro i hi
          have h1 := HM.out.2.1
          have h2 := Nat.le_trans HU.out.bsz HU.out.below.size
          simp only [List.mem_cons, List.not_mem_nil, or_false] at hi
          rcases hi with rfl | rfl | rfl | rfl <;> omega)))
        refine ⟨HU.out.keep hbw fun i cs t y hi ht => ?_, HU.out.below.trans hbw⟩
        have hilt := (Array.getElem?_eq_some_iff.1 hi).1
        refine (hx.block i (show i < w1.heap.size by omega) ?_).trans (hb1.block i hilt)
        intro hm
        simp only [List.mem_cons, List.not_mem_nil, or_false] at hm
        rcases hm with rfl | rfl | rfl | rfl
        · rw [hT0] at hi; injection hi with hi; injection hi with _ e _; subst e; revert ht; decide
        · rw [hlt0] at hi; injection hi with hi; injection hi with _ e _; subst e; revert ht; decide
        · omega
        · omega
      have HKX := Lib.hid hkx
      have HCE : Hid (∀ W : World, W.heap[k.R]? = w1.heap[k.R]? → W.cell? ⟨k.R, 0, none⟩ = some (.int .i64 k.dict) ∧ W.cell? ⟨k.R, 1, none⟩ = some (.slice AO s.out.length cO) ∧ W.cell? ⟨k.R, 2, none⟩ = some (.int .i64 (s.start : Nat)) ∧ W.cell? ⟨k.R, 8, none⟩ = some (PF C)) := Lib.hid (fun W hW => ⟨(World.cell?_of_block (a := ⟨k.R, 0, none⟩) hW).trans r0, (World.cell?_of_block (a := ⟨k.R, 1, none⟩) hW).trans r1, (World.cell?_of_block (a := ⟨k.R, 2, none⟩) hW).trans r2, (World.cell?_of_block (a := ⟨k.R, 8, none⟩) hW).trans r8⟩)
      have HAFT : Hid (∀ W : World, Only [C, Lb, g, o] w1.drew W → W.cell? ⟨k.R, 0, none⟩ = some (.int .i64 k.dict) ∧ W.cell? ⟨k.R, 1, none⟩ = some (.slice AO s.out.length cO) ∧ W.cell? ⟨k.R, 2, none⟩ = some (.int .i64 (s.start : Nat)) ∧ W.cell? ⟨k.R, 8, none⟩ = some (PF C)) := Lib.hid (fun W hW => HCE.out W (hW.block k.R hRl (by simp only [List.mem_cons, List.not_mem_nil, or_false]; omega)))
      have hS0 := HCE.out w1.drew rfl
      have hlong : ∀ q, RES = some q → q.1.length ≤ hl + size := fun q e => by have h1 := (uread_grow size _ _ _ _ (HRES.out.trans e)).2 (by omega); omega
      have HLONG := Lib.hid hlong
      have HAH := Lib.hid (And.intro hAH (And.intro hhl (And.intro hca hlen)))
      have hoi : (s.out.length : Int) ≤ 400000000 := by have := HO.out; omega
      have hssi : (s.start : Int) ≤ (s.out.length : Int) := by omega
      have hcOi : (s.out.length : Int) ≤ (cO : Int) := by omega
      have hcm : (cO : Int) ≤ 9223372036854775807 := by omega
      clear hU1 hM1 hlt hD hb1 hg hoo hov hfr hcO hmO hBO hss hBH hlen hAH hhl hca hrow hT hRC hRL hRl hkx hlong hrow00 hRw hT0 hlt0 r0 r1 r2 r8
      cases RES with
      | none =>
        go_upto_region 4 with fail
        refine wp_region_held_drew (S := fun W => W.cell? ⟨k.R, 0, none⟩ = some (.int .i64 k.dict) ∧ W.cell? ⟨k.R, 1, none⟩ = some (.slice AO s.out.length cO) ∧ W.cell? ⟨k.R, 2, none⟩ = some (.int .i64 (s.start : Nat)) ∧ W.cell? ⟨k.R, 8, none⟩ = some (PF C)) (by kernel_rfl) hS0 (fun hS => ?_)
        refine tk 0 (v := ?vun1) ?yun1 hS ?_
        case yun1 =>
          intro w hSw
          go_simp; all_goals (with_reducible rfl)
        simp only [Act.put, List.setIfInBounds_toArray, List.set_cons_zero, List.set_cons_succ]
        refine tk 1 (v := ?vun2) ?yun2 hS ?_
        case yun2 =>
          intro w hSw
          go_simp; all_goals (with_reducible rfl)
        simp only [Act.put, List.setIfInBounds_toArray, List.set_cons_zero, List.set_cons_succ]
        refine tk 2 (v := ?vun3) ?yun3 hS ?_
        case yun3 =>
          intro w hSw
          go_simp; all_goals (with_reducible rfl)
        simp only [Act.put, List.setIfInBounds_toArray, List.set_cons_zero, List.set_cons_succ]
        refine tk 3 (v := ?vun4) ?yun4 hS ?_
        case yun4 =>
          intro w hSw
          go_simp; all_goals (with_reducible rfl)
        simp only [Act.put, List.setIfInBounds_toArray, List.set_cons_zero, List.set_cons_succ]
        refine tk 4 (v := ?vun5) ?yun5 hS ?_
        case yun5 =>
          intro w hSw
          obtain ⟨q0, q1, q2, q8⟩ := hSw
          go_simp; all_goals (with_reducible rfl)
        simp only [Act.put, List.setIfInBounds_toArray, List.set_cons_zero, List.set_cons_succ]
        refine tk 5 (v := ?vun6) ?yun6 hS ?_
        case yun6 =>
          intro w hSw
          go_simp; all_goals (with_reducible rfl)
        simp only [Act.put, List.setIfInBounds_toArray, List.set_cons_zero, List.set_cons_succ]
        refine tk 6 (v := ?vun7) ?yun7 hS ?_
        case yun7 =>
          intro w hSw
          go_simp; all_goals (with_reducible rfl)
        simp only [Act.put, List.setIfInBounds_toArray, List.set_cons_zero, List.set_cons_succ]
        refine tk 7 (v := ?vun8) ?yun8 hS ?_
        case yun8 =>
          intro w hSw
          go_simp; all_goals (with_reducible rfl)
        simp only [Act.put, List.setIfInBounds_toArray, List.set_cons_zero, List.set_cons_succ]
        refine tk 8 (v := ?vun9) ?yun9 hS ?_
        case yun9 =>
          intro w hSw
          obtain ⟨q0, q1, q2, q8⟩ := hSw
          go_simp; all_goals (with_reducible rfl)
        simp only [Act.put, List.setIfInBounds_toArray, List.set_cons_zero, List.set_cons_succ]
        refine tk 9 (v := ?vun10) ?yun10 hS ?_
        case yun10 =>
          intro w hSw
          go_simp; all_goals (with_reducible rfl)
        simp only [Act.put, List.setIfInBounds_toArray, List.set_cons_zero, List.set_cons_succ]
        refine tk 10 (v := ?vun11) ?yun11 hS ?_
        case yun11 =>
          intro w hSw
          go_simp; all_goals (with_reducible rfl)
        simp only [Act.put, List.setIfInBounds_toArray, List.set_cons_zero, List.set_cons_succ]
        refine tk 11 (v := ?vun12) ?yun12 hS ?_
        case yun12 =>
          intro w hSw
          go_simp; all_goals (with_reducible rfl)
        simp only [Act.put, List.setIfInBounds_toArray, List.set_cons_zero, List.set_cons_succ]
        refine tk 12 (v := ?vun13) ?yun13 hS ?_
        case yun13 =>
          intro w hSw
          obtain ⟨q0, q1, q2, q8⟩ := hSw
          go_simp; all_goals (with_reducible rfl)
        simp only [Act.put, List.setIfInBounds_toArray, List.set_cons_zero, List.set_cons_succ]
        refine tk 13 (v := .slice AH hl ca) ?yun14 hS ?_
        case yun14 =>
          intro w hSw
          go_simp; exact ⟨HAH.out.1, HAH.out.2.1, HAH.out.2.2.1⟩
        simp only [Act.put, List.setIfInBounds_toArray, List.set_cons_zero, List.set_cons_succ]
        refine tk 14 (v := ?vun15) ?yun15 hS ?_
        case yun15 =>
          intro w hSw
          go_simp; all_goals (with_reducible rfl)
        simp only [Act.put, List.setIfInBounds_toArray, List.set_cons_zero, List.set_cons_succ]
        refine tk 15 (v := ?vun16) ?yun16 hS ?_
        case yun16 =>
          intro w hSw
          go_simp; all_goals (with_reducible rfl)
        simp only [Act.put, List.setIfInBounds_toArray, List.set_cons_zero, List.set_cons_succ]
        refine tk 16 (v := ?vun17) ?yun17 hS ?_
        case yun17 =>
          intro w hSw
          go_simp; all_goals (with_reducible rfl)
        simp only [Act.put, List.setIfInBounds_toArray, List.set_cons_zero, List.set_cons_succ]
        refine tk 17 (v := ?vun18) ?yun18 hS ?_
        case yun18 =>
          intro w hSw
          go_simp; all_goals (with_reducible rfl)
        simp only [Act.put, List.setIfInBounds_toArray, List.set_cons_zero, List.set_cons_succ]
        refine tk 18 (v := ?vun19) ?yun19 hS ?_
        case yun19 =>
          intro w hSw
          obtain ⟨q0, q1, q2, q8⟩ := hSw
          go_simp; all_goals (with_reducible rfl)
        simp only [Act.put, List.setIfInBounds_toArray, List.set_cons_zero, List.set_cons_succ]
        refine wpAnyH_ready (rs := [19]) (by kernel_rfl) (by simp) ?_
        refine (AllReadyH.cons (o := { dst := some 37, op := Op.call { callee := Callee.value (Operand.func 52), args := #[Operand.tmp 18, Operand.tmp 22, Operand.tmp 31, Operand.tmp 32, Operand.tmp 36], argTypes := #[134, 41, 22, 3, 3] }, type := 36, pos := "unchunk.go:137", after := #[{ on := 0, ground := Ground.data }, { on := 4, ground := Ground.data }, { on := 13, ground := Ground.data }, { on := 14, ground := Ground.data }, { on := 18, ground := Ground.data }], guard := none }) rfl (fun K hK => ?_) AllReadyH.nil)
        go_simp
        refine (HUD.out _ (drew_below _)).mono ?_
        rintro e x19 ⟨rfl, hon⟩
        have g19 := HAFT.out _ hon
        have HON := Lib.hid hon
        clear hon
        go_wp2_with fail
        refine hK.out _ _ g19 (fun _ => ?_)
        clear hK K
        refine tk 20 (v := ?vun20) ?yun20 g19 ?_
        case yun20 =>
          intro w hSw
          go_simp; all_goals (with_reducible rfl)
        simp only [Act.put, List.setIfInBounds_toArray, List.set_cons_zero, List.set_cons_succ]
        refine tk 21 (v := ?vun21) ?yun21 g19 ?_
        case yun21 =>
          intro w hSw
          go_simp; all_goals (with_reducible rfl)
        simp only [Act.put, List.setIfInBounds_toArray, List.set_cons_zero, List.set_cons_succ]
        refine tk 22 (v := ?vun22) ?yun22 g19 ?_
        case yun22 =>
          intro w hSw
          go_simp; all_goals (with_reducible rfl)
        simp only [Act.put, List.setIfInBounds_toArray, List.set_cons_zero, List.set_cons_succ]
        refine tk 23 (v := ?vun23) ?yun23 g19 ?_
        case yun23 =>
          intro w hSw
          go_simp; all_goals (with_reducible rfl)
        simp only [Act.put, List.setIfInBounds_toArray, List.set_cons_zero, List.set_cons_succ]
        refine tk 24 (v := ?vun24) ?yun24 g19 ?_
        case yun24 =>
          intro w hSw
          go_simp; all_goals (with_reducible rfl)
        simp only [Act.put, List.setIfInBounds_toArray, List.set_cons_zero, List.set_cons_succ]
        refine wpAnyH_done (by kernel_rfl) ?_ _
        go_wp2_with fail
        go_ret
        rw [HR.out]
        exact ⟨rfl, (HKX.out _ HON.out).2⟩

      | some q =>
        obtain ⟨T9, st9, r9, y9⟩ := q
        go_upto_region 4 with fail
        refine wp_region_held_drew (S := fun W => W.cell? ⟨k.R, 0, none⟩ = some (.int .i64 k.dict) ∧ W.cell? ⟨k.R, 1, none⟩ = some (.slice AO s.out.length cO) ∧ W.cell? ⟨k.R, 2, none⟩ = some (.int .i64 (s.start : Nat)) ∧ W.cell? ⟨k.R, 8, none⟩ = some (PF C)) (by kernel_rfl) hS0 (fun hS => ?_)
        refine tk 0 (v := ?vus25) ?yus25 hS ?_
        case yus25 =>
          intro w hSw
          go_simp; all_goals (with_reducible rfl)
        simp only [Act.put, List.setIfInBounds_toArray, List.set_cons_zero, List.set_cons_succ]
        refine tk 1 (v := ?vus26) ?yus26 hS ?_
        case yus26 =>
          intro w hSw
          go_simp; all_goals (with_reducible rfl)
        simp only [Act.put, List.setIfInBounds_toArray, List.set_cons_zero, List.set_cons_succ]
        refine tk 2 (v := ?vus27) ?yus27 hS ?_
        case yus27 =>
          intro w hSw
          go_simp; all_goals (with_reducible rfl)
        simp only [Act.put, List.setIfInBounds_toArray, List.set_cons_zero, List.set_cons_succ]
        refine tk 3 (v := ?vus28) ?yus28 hS ?_
        case yus28 =>
          intro w hSw
          go_simp; all_goals (with_reducible rfl)
        simp only [Act.put, List.setIfInBounds_toArray, List.set_cons_zero, List.set_cons_succ]
        refine tk 4 (v := ?vus29) ?yus29 hS ?_
        case yus29 =>
          intro w hSw
          obtain ⟨q0, q1, q2, q8⟩ := hSw
          go_simp; all_goals (with_reducible rfl)
        simp only [Act.put, List.setIfInBounds_toArray, List.set_cons_zero, List.set_cons_succ]
        refine tk 5 (v := ?vus30) ?yus30 hS ?_
        case yus30 =>
          intro w hSw
          go_simp; all_goals (with_reducible rfl)
        simp only [Act.put, List.setIfInBounds_toArray, List.set_cons_zero, List.set_cons_succ]
        refine tk 6 (v := ?vus31) ?yus31 hS ?_
        case yus31 =>
          intro w hSw
          go_simp; all_goals (with_reducible rfl)
        simp only [Act.put, List.setIfInBounds_toArray, List.set_cons_zero, List.set_cons_succ]
        refine tk 7 (v := ?vus32) ?yus32 hS ?_
        case yus32 =>
          intro w hSw
          go_simp; all_goals (with_reducible rfl)
        simp only [Act.put, List.setIfInBounds_toArray, List.set_cons_zero, List.set_cons_succ]
        refine tk 8 (v := ?vus33) ?yus33 hS ?_
        case yus33 =>
          intro w hSw
          obtain ⟨q0, q1, q2, q8⟩ := hSw
          go_simp; all_goals (with_reducible rfl)
        simp only [Act.put, List.setIfInBounds_toArray, List.set_cons_zero, List.set_cons_succ]
        refine tk 9 (v := ?vus34) ?yus34 hS ?_
        case yus34 =>
          intro w hSw
          go_simp; all_goals (with_reducible rfl)
        simp only [Act.put, List.setIfInBounds_toArray, List.set_cons_zero, List.set_cons_succ]
        refine tk 10 (v := ?vus35) ?yus35 hS ?_
        case yus35 =>
          intro w hSw
          go_simp; all_goals (with_reducible rfl)
        simp only [Act.put, List.setIfInBounds_toArray, List.set_cons_zero, List.set_cons_succ]
        refine tk 11 (v := ?vus36) ?yus36 hS ?_
        case yus36 =>
          intro w hSw
          go_simp; all_goals (with_reducible rfl)
        simp only [Act.put, List.setIfInBounds_toArray, List.set_cons_zero, List.set_cons_succ]
        refine tk 12 (v := ?vus37) ?yus37 hS ?_
        case yus37 =>
          intro w hSw
          obtain ⟨q0, q1, q2, q8⟩ := hSw
          go_simp; all_goals (with_reducible rfl)
        simp only [Act.put, List.setIfInBounds_toArray, List.set_cons_zero, List.set_cons_succ]
        refine tk 13 (v := .slice AH hl ca) ?yus38 hS ?_
        case yus38 =>
          intro w hSw
          go_simp; exact ⟨HAH.out.1, HAH.out.2.1, HAH.out.2.2.1⟩
        simp only [Act.put, List.setIfInBounds_toArray, List.set_cons_zero, List.set_cons_succ]
        refine tk 14 (v := ?vus39) ?yus39 hS ?_
        case yus39 =>
          intro w hSw
          go_simp; all_goals (with_reducible rfl)
        simp only [Act.put, List.setIfInBounds_toArray, List.set_cons_zero, List.set_cons_succ]
        refine tk 15 (v := ?vus40) ?yus40 hS ?_
        case yus40 =>
          intro w hSw
          go_simp; all_goals (with_reducible rfl)
        simp only [Act.put, List.setIfInBounds_toArray, List.set_cons_zero, List.set_cons_succ]
        refine tk 16 (v := ?vus41) ?yus41 hS ?_
        case yus41 =>
          intro w hSw
          go_simp; all_goals (with_reducible rfl)
        simp only [Act.put, List.setIfInBounds_toArray, List.set_cons_zero, List.set_cons_succ]
        refine tk 17 (v := ?vus42) ?yus42 hS ?_
        case yus42 =>
          intro w hSw
          go_simp; all_goals (with_reducible rfl)
        simp only [Act.put, List.setIfInBounds_toArray, List.set_cons_zero, List.set_cons_succ]
        refine tk 18 (v := ?vus43) ?yus43 hS ?_
        case yus43 =>
          intro w hSw
          obtain ⟨q0, q1, q2, q8⟩ := hSw
          go_simp; all_goals (with_reducible rfl)
        simp only [Act.put, List.setIfInBounds_toArray, List.set_cons_zero, List.set_cons_succ]
        refine wpAnyH_ready (rs := [19]) (by kernel_rfl) (by simp) ?_
        refine (AllReadyH.cons (o := { dst := some 37, op := Op.call { callee := Callee.value (Operand.func 52), args := #[Operand.tmp 18, Operand.tmp 22, Operand.tmp 31, Operand.tmp 32, Operand.tmp 36], argTypes := #[134, 41, 22, 3, 3] }, type := 36, pos := "unchunk.go:137", after := #[{ on := 0, ground := Ground.data }, { on := 4, ground := Ground.data }, { on := 13, ground := Ground.data }, { on := 14, ground := Ground.data }, { on := 18, ground := Ground.data }], guard := none }) rfl (fun K hK => ?_) AllReadyH.nil)
        go_simp
        refine (HUD.out _ (drew_below _)).mono ?_
        rintro e x19 ⟨A9, c9, rfl, hc9, hB9, hM9, hD9, hon, h12, hrg9⟩
        have g19 := HAFT.out _ hon
        have HON := Lib.hid hon
        have H9 := Lib.hid (And.intro hB9 (And.intro hM9 (And.intro hD9 (And.intro h12 hrg9))))
        clear hon hB9 hM9 hD9 h12 hrg9
        go_wp2_with fail
        refine hK.out _ _ g19 (fun _ => ?_)
        clear hK K
        refine tk 20 (v := ?vus44) ?yus44 g19 ?_
        case yus44 =>
          intro w hSw
          go_simp; all_goals (with_reducible rfl)
        simp only [Act.put, List.setIfInBounds_toArray, List.set_cons_zero, List.set_cons_succ]
        refine tk 21 (v := ?vus45) ?yus45 g19 ?_
        case yus45 =>
          intro w hSw
          go_simp; all_goals (with_reducible rfl)
        simp only [Act.put, List.setIfInBounds_toArray, List.set_cons_zero, List.set_cons_succ]
        refine tk 22 (v := ?vus46) ?yus46 g19 ?_
        case yus46 =>
          intro w hSw
          go_simp; all_goals (with_reducible rfl)
        simp only [Act.put, List.setIfInBounds_toArray, List.set_cons_zero, List.set_cons_succ]
        refine tk 23 (v := ?vus47) ?yus47 g19 ?_
        case yus47 =>
          intro w hSw
          go_simp; all_goals (with_reducible rfl)
        simp only [Act.put, List.setIfInBounds_toArray, List.set_cons_zero, List.set_cons_succ]
        refine tk 24 (v := ?vus48) ?yus48 g19 ?_
        case yus48 =>
          intro w hSw
          go_simp; all_goals (with_reducible rfl)
        simp only [Act.put, List.setIfInBounds_toArray, List.set_cons_zero, List.set_cons_succ]
        refine wpAnyH_done (by kernel_rfl) ?_ _
        clear hS hS0 HUD HCE HAFT
        have HDN := Lib.hid (done_any g o cap L y9.2 x19 H9.out.2.2.1)
        have hm19 : T9.length - hl ≤ 4000000 := by have := HLONG.out _ rfl; simp only at this; omega
        have HM19 := Lib.hid hm19
        clear hm19
        cases hdn : y9.2.done L with
        | false =>
          rw [hdn] at HDN
          have HRF := Lib.hid (HR.out.trans (show unmore L (s.out.drop s.start).length pos s (some (T9, st9, r9, y9)) = .bad 6 by unfold unmore; exact if_neg (by rw [hdn]; decide)))
          go_wp2_with fail
          refine HDN.out.mono ?_
          rintro e x20 ⟨rfl, hb20⟩
          go_wp2_with fail
          go_ret
          rw [HRF.out]
          exact ⟨rfl, ((HKX.out _ HON.out).1.of_below hb20).below⟩
        | true =>
          rw [hdn] at HDN
          have HRF := Lib.hid (HR.out.trans (show unmore L (s.out.drop s.start).length pos s (some (T9, st9, r9, y9)) = .go pos { s with out := s.out ++ T9.drop hl, st := st9, r := r9, P := y9.1 } by unfold unmore; rw [HAH.out.2.2.2]; exact if_pos hdn))
          clear hdn
          go_wp2_with fail
          refine HDN.out.mono ?_
          rintro e x20 ⟨rfl, hb20⟩
          have hU20 := (HKX.out _ HON.out).1.of_below hb20
          have hM20 := H9.out.2.1.keep (hb20.block _ H9.out.2.1.clt) (hb20.block _ H9.out.2.1.llt)
          obtain ⟨v, ⟨_, r1, _, _, _, _, _, _, _⟩, hov, hfr⟩ := hU20.cells
          have hf1 := hfr 1
          have hbs := Nat.le_trans hU20.bsz hU20.below.size
          have HX := Lib.hid (And.intro hU20 (And.intro hov (And.intro (H9.out.1.below hb20) (And.intro hM20 hbs))))
          have HR1 := Lib.hid r1
          clear hfr hov hU20 hM20 hb20 hbs
          go_upto_region 7 with fail
          go_wp2_with (at_builtin; refine wpList_append_bytes rfl (.tmp 51) (.tmp 52) rfl k.base x20 v _ rfl HX.out.2.1 A9 (T9.drop hl) c9 (by rw [List.length_drop]; rfl) HX.out.2.2.1 (by have := HM19.out; have := HO.out; rw [List.length_drop]; omega) HX.out.2.2.2.2 ?_; intro v' w4 ho4 hg4; obtain ⟨A4, n4, c4, e4⟩ := ho4.shape; subst e4; obtain ⟨hU4, hC4, hf4, hc4⟩ := HX.out.1.append HR1.out hg4 ho4; have HU4 := Lib.hid hU4; have HC4 := Lib.hid (hC4 { s with out := s.out ++ T9.drop hl, st := st9, r := r9, P := y9.1 } (PF C) (fun _ _ => ⟨C, Lb, rfl, HM.out.2.1, HX.out.2.2.2.1, HP.out.2.2.2, H9.out.2.2.2.1, H9.out.2.2.2.2⟩)); clear hU4 hC4 ho4 hg4)
          go_ret
          rw [HRF.out]
          exact ⟨rfl, _, HU4.out.same (fun _ => rfl) rfl rfl, HC4.out⟩

end Go.Proofs.Ytkckjjchfccdjaa

/- Chunks read back: the properties. -/
namespace Go.Proofs.Ytkckjjchfccdjaa
set_option maxRecDepth 100000
open Go.RowKit

/-- What the properties come to: the coder is as it was, and no more asked of. -/
def PropsDone (k : UkP) (cv : Value) (x : CkR) (e : Ending) (w' : World) : Prop :=
  match x with
  | .bad n => e = .returned (.int .i64 (n : Nat)) ∧ Below k.base k.w0 w'
  | .go pos s => e = .returned (.int .i64 0) ∧ UkB k w' pos s cv
def propsOf (B : List UInt8) (pos : Nat) (s : CkS) : CkR :=
  if B.length < pos + 1 then .bad 2
  else .go (pos + 1) { s with lc := (B.getD pos 0).toNat % 9, lp := (B.getD pos 0).toNat / 9 % 5, pb := (B.getD pos 0).toNat / 45, asked := false }
set_option maxHeartbeats 4000000 in
theorem ucprops_any {k : UkP} {w : World} {pos : Nat} {s : CkS} {cv : Value} (hU : UkB k w pos s cv) : Calls Try.prog 39 #[PF k.R, NextV k] w (PropsDone k cv (propsOf k.B pos s)) := by
  have HU := Lib.hid hU
  by_cases h1 : k.B.length < pos + 1
  · have HN := Lib.hid (next_short HU.out 1 (by decide) h1)
    have HR := Lib.hid (show propsOf k.B pos s = .bad 2 by unfold propsOf; rw [if_pos h1])
    clear hU h1
    go_enter Try.func39, Try.ntmps39
    go_wp2_with fail
    refine HN.out.mono ?_
    rintro e w1 ⟨rfl, rfl⟩
    go_wp2_with fail
    go_ret
    rw [HR.out]
    exact ⟨rfl, HU.out.below⟩
  · have HN := Lib.hid (next_good HU.out 1 (by decide) (by omega))
    have HR := Lib.hid (show propsOf k.B pos s = .go (pos + 1) { s with lc := (k.B.getD pos 0).toNat % 9, lp := (k.B.getD pos 0).toNat / 9 % 5, pb := (k.B.getD pos 0).toNat / 45, asked := false } by unfold propsOf; rw [if_neg h1])
    have hxl := (k.B.getD pos 0).toNat_lt
    obtain ⟨x, hx⟩ : ∃ x, k.B.getD pos 0 = x := ⟨_, rfl⟩
    rw [hx] at HR hxl
    have HXE := Lib.hid hx
    have H1 := Lib.hid h1
    have m1 : ((x.toNat : Int)).tmod 9 = ((x.toNat % 9 : Nat) : Int) := by rw [Int.tmod_eq_emod_of_nonneg (by omega)]; omega
    have m2 : ((x.toNat : Int)).tdiv 9 = ((x.toNat / 9 : Nat) : Int) := by rw [Int.tdiv_eq_ediv_of_nonneg (by omega)]; omega
    have m3 : (((x.toNat / 9 : Nat) : Int)).tmod 5 = ((x.toNat / 9 % 5 : Nat) : Int) := by rw [Int.tmod_eq_emod_of_nonneg (by omega)]; omega
    have m4 : ((x.toNat : Int)).tdiv 45 = ((x.toNat / 45 : Nat) : Int) := by rw [Int.tdiv_eq_ediv_of_nonneg (by omega)]; omega
    have hxi : (x.toNat : Int) < 256 := by omega
    clear hU h1 hx
    go_enter Try.func39, Try.ntmps39
    go_wp2_with fail
    refine HN.out.mono ?_
    rintro e w1 ⟨A1, c1, rfl, hc1, ⟨hB1, _⟩, hU1, _⟩
    have hl1 : ((k.B.drop pos).take 1).length = 1 := by have := H1.out; simp; omega
    obtain ⟨b, off, rfl, hb, hcs⟩ := hB1.addr (by omega)
    have k0 := hcs 0 (by omega)
    have e0 : ((k.B.drop pos).take 1)[0] = x := by
      rw [← HXE.out]
      simp [List.getElem_take, List.getD_eq_getElem?_getD, List.getElem?_eq_getElem (show pos < k.B.length by have := H1.out; omega)]
    rw [Nat.add_zero, e0] at k0
    obtain ⟨v, ⟨r0, r1, r2, r3, r4, r5, r6, r7, r8⟩, _, hfr⟩ := hU1.cells
    have f5 := hfr 5
    have f6 := hfr 6
    have f7 := hfr 7
    have f4 := hfr 4
    have HU1 := Lib.hid hU1
    clear hc1 hB1 hU1 hl1 hcs hb e0 hfr
    go_wp2_with fail
    go_ret
    rw [HR.out]
    have n1 : (x.toNat : Int) % 9 = ((x.toNat % 9 : Nat) : Int) := by omega
    have n2 : (x.toNat : Int) / 9 % 5 = ((x.toNat / 9 % 5 : Nat) : Int) := by omega
    have n3 : (x.toNat : Int) / 45 = ((x.toNat / 45 : Nat) : Int) := by omega
    rw [n1, n2, n3]
    have u1 := HU1.out.put 5 (.int .i64 ((x.toNat % 9 : Nat) : Nat)) (s' := { s with lc := x.toNat % 9 }) (cv' := cv) (fun _ => rfl) rfl HU1.out.nums.2.2.2.2
    have u2 := u1.put 6 (.int .i64 ((x.toNat / 9 % 5 : Nat) : Nat)) (s' := { s with lc := x.toNat % 9, lp := x.toNat / 9 % 5 }) (cv' := cv) (fun _ => rfl) rfl HU1.out.nums.2.2.2.2
    have u3 := u2.put 7 (.int .i64 ((x.toNat / 45 : Nat) : Nat)) (s' := { s with lc := x.toNat % 9, lp := x.toNat / 9 % 5, pb := x.toNat / 45 }) (cv' := cv) (fun _ => rfl) rfl HU1.out.nums.2.2.2.2
    exact ⟨rfl, u3.put 4 (.bool false) (s' := { s with lc := x.toNat % 9, lp := x.toNat / 9 % 5, pb := x.toNat / 45, asked := false }) (cv' := cv) (fun _ => rfl) rfl HU1.out.nums.2.2.2.2⟩
end Go.Proofs.Ytkckjjchfccdjaa
