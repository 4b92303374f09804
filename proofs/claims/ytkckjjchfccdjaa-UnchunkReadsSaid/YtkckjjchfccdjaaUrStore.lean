/- The document's Reader: a stored chunk. -/
import Derived.Test.YtkckjjchfccdjaaMg1
import Derived.Test.YtkckjjchfccdjaaMg26
namespace Go.Proofs.Ytkckjjchfccdjaa
set_option maxRecDepth 100000
open Go.RowKit

set_option maxHeartbeats 4000000 in
theorem urstored_any {k : RkP} {w : World} {pos : Nat} {s : CkS} (h : Rk k w pos s) (ho : s.out.length ≤ 400000000) : Calls Try.prog 13 #[PF k.R] w (RkDone k (unstore k.B pos s)) := by
  have HK := Lib.hid h
  have HO := Lib.hid ho
  obtain ⟨t, ht⟩ : ∃ t, ckTwo k.B pos = t := ⟨_, rfl⟩
  have htl : t < 65536 := by rw [← ht]; exact ckTwo_lt _ _
  have HH := Lib.hid (urhas_any h 2)
  by_cases h1 : k.B.length < pos + 2
  · have HR := Lib.hid (show unstore k.B pos s = .bad 2 by unfold unstore; rw [if_pos h1])
    have e1 : decide (pos + 2 ≤ k.B.length) = false := decide_eq_false (by omega)
    rw [e1] at HH
    clear h ho h1 ht htl e1
    go_enter Try.func13, Try.ntmps13
    go_wp2_with fail
    refine HH.out.mono ?_
    rintro e w1 ⟨rfl, hb1⟩
    go_wp2_with fail
    go_ret
    rw [HR.out]
    exact ⟨rfl, (HK.out.of_below hb1).below⟩
  · have e1 : decide (pos + 2 ≤ k.B.length) = true := decide_eq_true (by omega)
    rw [e1] at HH
    obtain ⟨n, hn⟩ : ∃ n, t + 1 = n := ⟨_, rfl⟩
    obtain ⟨p2, hp2⟩ : ∃ p, pos + 2 = p := ⟨_, rfl⟩
    have hti : (t : Int) + 1 = (n : Int) := by omega
    have hni : (n : Int) ≤ 65536 := by omega
    have hn2 : n ≤ 65536 := by omega
    by_cases h2 : k.B.length < p2 + n
    · have HR := Lib.hid (show unstore k.B pos s = .bad 2 by unfold unstore; rw [if_neg h1, ht, hn, hp2, if_pos h2])
      have HT := Lib.hid (And.intro ht (And.intro hp2 (And.intro h1 h2)))
      clear h ho h1 h2 ht htl hn hn2 hp2 e1
      go_enter Try.func13, Try.ntmps13
      go_wp2_with fail
      refine HH.out.mono ?_
      rintro e w1 ⟨rfl, hb1⟩
      have HTW := Lib.hid (urtwo_any (HK.out.of_below hb1) (by have := HT.out; omega))
      rw [HT.out.1, HT.out.2.1] at HTW
      clear hb1
      go_wp2_with fail
      refine HTW.out.mono ?_
      rintro e w2 ⟨rfl, hk2⟩
      have HK2 := Lib.hid hk2
      have HH2 := Lib.hid (urhas_any hk2 n)
      rw [decide_eq_false (show ¬ p2 + n ≤ k.B.length by have := HT.out; omega)] at HH2
      clear hk2
      go_wp2_with fail
      refine HH2.out.mono ?_
      rintro e w3 ⟨rfl, hb3⟩
      go_wp2_with fail
      go_ret
      rw [HR.out]
      exact ⟨rfl, (HK2.out.of_below hb3).below⟩
    · have HR := Lib.hid (show unstore k.B pos s = .go (p2 + n) { s with out := s.out ++ (k.B.drop p2).take n } by unfold unstore; rw [if_neg h1, ht, hn, hp2, if_neg h2])
      have HT := Lib.hid (And.intro ht (And.intro hp2 (And.intro h1 (And.intro h2 hn2))))
      clear h ho h1 h2 ht htl hn hn2 hp2 e1
      go_enter Try.func13, Try.ntmps13
      go_wp2_with fail
      refine HH.out.mono ?_
      rintro e w1 ⟨rfl, hb1⟩
      have HTW := Lib.hid (urtwo_any (HK.out.of_below hb1) (by have := HT.out; omega))
      rw [HT.out.1, HT.out.2.1] at HTW
      clear hb1
      go_wp2_with fail
      refine HTW.out.mono ?_
      rintro e w2 ⟨rfl, hk2⟩
      have HK2 := Lib.hid hk2
      have HH2 := Lib.hid (urhas_any hk2 n)
      rw [decide_eq_true (show p2 + n ≤ k.B.length by have := HT.out; omega)] at HH2
      clear hk2
      go_wp2_with fail
      refine HH2.out.mono ?_
      rintro e w3 ⟨rfl, hb3⟩
      obtain ⟨cv, hU, hC⟩ := HK2.out.of_below hb3
      obtain ⟨v, ⟨r0, r1, _, r3, _, _, _, _, _, _, _⟩, hov, hfr, hRl⟩ := hU.cells
      obtain ⟨AO, cO, rfl, hcO, hmO, hBO⟩ := hov.read
      obtain ⟨n1, n2, n3, n4, n5⟩ := hU.nums
      have hcut := (hU.bytes.1.cutFrom (k := p2) n4 n1).take n
      obtain ⟨AP, hAP⟩ : ∃ AP, (if k.c = p2 then k.A else k.A.map (·.add p2)) = AP := ⟨_, rfl⟩
      rw [hAP] at hcut
      obtain ⟨cp, hcp⟩ : ∃ n, k.c - p2 = n := ⟨_, rfl⟩
      obtain ⟨p3, hp3⟩ : ∃ m, p2 + n = m := ⟨_, rfl⟩
      have h2' := HT.out.2.2.2.1
      have hdiff : p3 - p2 = n := by omega
      have hlen : ((k.B.drop p2).take n).length = n := by simp; omega
      have HX := Lib.hid (And.intro hBO (And.intro hcut (And.intro hlen HT.out.2.2.2.2)))
      have HSK : Hid (∀ W : World, Below w3.heap.size w3 W → W.cell? ⟨k.R, 0, none⟩ = some (.slice k.A k.B.length k.c) ∧ W.cell? ⟨k.R, 1, none⟩ = some (.int .i64 (p2 : Nat))) := Lib.hid (fun W hW => ⟨(hW.cell (p := ⟨k.R, 0, none⟩) hRl).trans r0, (hW.cell (p := ⟨k.R, 1, none⟩) hRl).trans r1⟩)
      have HR3 : Hid ((∀ W : World, Below w3.heap.size w3 W → W.cell? ⟨k.R, 3, none⟩ = some (.slice AO s.out.length cO)) ∧ ∀ W : World, Below w3.heap.size w3 W → W.frozen? ⟨k.R, 3, none⟩ = false) := Lib.hid ⟨fun W hW => (hW.cell (p := ⟨k.R, 3, none⟩) hRl).trans r3, fun W hW => (hW.frozen (p := ⟨k.R, 3, none⟩) hRl).trans (hfr 3)⟩
      have hset : ∀ (W : World) (u : Value), (W.cell? ⟨k.R, 0, none⟩ = some (.slice k.A k.B.length k.c) ∧ W.cell? ⟨k.R, 1, none⟩ = some (.int .i64 (p2 : Nat))) → (W.setCell ⟨k.R, 3, none⟩ u).cell? ⟨k.R, 0, none⟩ = some (.slice k.A k.B.length k.c) ∧ (W.setCell ⟨k.R, 3, none⟩ u).cell? ⟨k.R, 1, none⟩ = some (.int .i64 (p2 : Nat)) := fun W u hW => ⟨(World.cell?_setCell_other _ _ _ _ (by simp)).trans hW.1, (World.cell?_setCell_other _ _ _ _ (by simp)).trans hW.2⟩
      have HGA : Hid (Below w3.heap.size w3 (w3.drew.alloc (.cells #[] 5))) := Lib.hid ((drew_below w3).alloc (Nat.le_refl _) _)
      have hS0 := HSK.out w3.drew (drew_below w3)
      have r3d := HR3.out.1 w3.drew (drew_below w3)
      have HAP := Lib.hid (And.intro hAP (And.intro hdiff hcp))
      have HUC := Lib.hid (And.intro hU hC)
      have hp3i : (p2 : Int) + (n : Int) = (p3 : Int) := by omega
      have hp23 : (p2 : Int) ≤ (p3 : Int) := by omega
      have hp3L : (p3 : Int) ≤ (k.B.length : Int) := by omega
      have hLc : (k.B.length : Int) ≤ (k.c : Int) := by omega
      have hci : (k.c : Int) ≤ 9223372036854775807 := by omega
      have hLi : (k.B.length : Int) ≤ 140737488355328 := by omega
      have HP3 := Lib.hid hp3
      have hp3c : p3 ≤ k.c := by omega
      have hp23n : p2 ≤ p3 := by omega
      have hw3 : IntKind.i64.wrap (p3 : Int) = (p3 : Int) := IntWalk.i64_in _ (by omega)
      clear hU hC hov hcO hmO hBO hcut hAP hcp hp3 hdiff hlen h2' n1 n2 n3 n4 n5 hfr r0 r1 r3 hb3
      go_upto_region 6 with fail
      refine wp_region_held_drew (S := fun W => W.cell? ⟨k.R, 0, none⟩ = some (.slice k.A k.B.length k.c) ∧ W.cell? ⟨k.R, 1, none⟩ = some (.int .i64 (p2 : Nat))) (by kernel_rfl) hS0 (fun hS => ?_)
      refine tk 0 (v := ?vra1) ?yra1 hS ?_
      case yra1 =>
        intro w hSw
        go_simp; all_goals (with_reducible rfl)
      simp only [Act.put, List.setIfInBounds_toArray, List.set_cons_zero, List.set_cons_succ]
      refine tk 2 (v := ?vra2) ?yra2 hS ?_
      case yra2 =>
        intro w hSw
        go_simp; all_goals (with_reducible rfl)
      simp only [Act.put, List.setIfInBounds_toArray, List.set_cons_zero, List.set_cons_succ]
      refine tk 3 (v := ?vra3) ?yra3 hS ?_
      case yra3 =>
        intro w hSw
        go_simp; all_goals (with_reducible rfl)
      simp only [Act.put, List.setIfInBounds_toArray, List.set_cons_zero, List.set_cons_succ]
      refine tk 4 (v := ?vra4) ?yra4 hS ?_
      case yra4 =>
        intro w hSw
        go_simp; all_goals (with_reducible rfl)
      simp only [Act.put, List.setIfInBounds_toArray, List.set_cons_zero, List.set_cons_succ]
      refine tk 7 (v := ?vra5) ?yra5 hS ?_
      case yra5 =>
        intro w hSw
        go_simp; all_goals (with_reducible rfl)
      simp only [Act.put, List.setIfInBounds_toArray, List.set_cons_zero, List.set_cons_succ]
      refine tk 8 (v := ?vra6) ?yra6 hS ?_
      case yra6 =>
        intro w hSw
        go_simp; all_goals (with_reducible rfl)
      simp only [Act.put, List.setIfInBounds_toArray, List.set_cons_zero, List.set_cons_succ]
      refine tk 9 (v := ?vra7) ?yra7 hS ?_
      case yra7 =>
        intro w hSw
        go_simp; all_goals (with_reducible rfl)
      simp only [Act.put, List.setIfInBounds_toArray, List.set_cons_zero, List.set_cons_succ]
      refine tk 10 (v := ?vra8) ?yra8 hS ?_
      case yra8 =>
        intro w hSw
        obtain ⟨q0, q1⟩ := hSw
        go_simp; all_goals (with_reducible rfl)
      simp only [Act.put, List.setIfInBounds_toArray, List.set_cons_zero, List.set_cons_succ]
      refine tk 11 (v := ?vra9) ?yra9 hS ?_
      case yra9 =>
        intro w hSw
        go_simp; all_goals (with_reducible rfl)
      simp only [Act.put, List.setIfInBounds_toArray, List.set_cons_zero, List.set_cons_succ]
      refine tk 12 (v := ?vra10) ?yra10 hS ?_
      case yra10 =>
        intro w hSw
        go_simp; all_goals (with_reducible rfl)
      simp only [Act.put, List.setIfInBounds_toArray, List.set_cons_zero, List.set_cons_succ]
      refine tk 13 (v := ?vra11) ?yra11 hS ?_
      case yra11 =>
        intro w hSw
        go_simp; all_goals (with_reducible rfl)
      simp only [Act.put, List.setIfInBounds_toArray, List.set_cons_zero, List.set_cons_succ]
      refine tk 14 (v := ?vra12) ?yra12 hS ?_
      case yra12 =>
        intro w hSw
        obtain ⟨q0, q1⟩ := hSw
        go_simp; all_goals (with_reducible rfl)
      simp only [Act.put, List.setIfInBounds_toArray, List.set_cons_zero, List.set_cons_succ]
      refine tk 15 (v := ?vra13) ?yra13 hS ?_
      case yra13 =>
        intro w hSw
        go_simp; all_goals (with_reducible rfl)
      simp only [Act.put, List.setIfInBounds_toArray, List.set_cons_zero, List.set_cons_succ]
      refine tk 16 (v := ?vra14) ?yra14 hS ?_
      case yra14 =>
        intro w hSw
        go_simp; all_goals (with_reducible rfl)
      simp only [Act.put, List.setIfInBounds_toArray, List.set_cons_zero, List.set_cons_succ]
      refine tk 17 (v := ?vra15) ?yra15 hS ?_
      case yra15 =>
        intro w hSw
        go_simp; all_goals (with_reducible rfl)
      simp only [Act.put, List.setIfInBounds_toArray, List.set_cons_zero, List.set_cons_succ]
      refine tk 18 (v := ?vra16) ?yra16 hS ?_
      case yra16 =>
        intro w hSw
        obtain ⟨q0, q1⟩ := hSw
        go_simp; all_goals (with_reducible rfl)
      simp only [Act.put, List.setIfInBounds_toArray, List.set_cons_zero, List.set_cons_succ]
      refine tk 19 (v := ?vra17) ?yra17 hS ?_
      case yra17 =>
        intro w hSw
        go_simp; all_goals (with_reducible rfl)
      simp only [Act.put, List.setIfInBounds_toArray, List.set_cons_zero, List.set_cons_succ]
      refine tk 20 (v := ?vra18) ?yra18 hS ?_
      case yra18 =>
        intro w hSw
        go_simp; all_goals (with_reducible rfl)
      simp only [Act.put, List.setIfInBounds_toArray, List.set_cons_zero, List.set_cons_succ]
      refine tk 21 (v := .slice AP n cp) ?yra19 hS ?_
      case yra19 =>
        intro w hSw
        go_simp; exact ⟨HAP.out.1, HAP.out.2.1, HAP.out.2.2⟩
      simp only [Act.put, List.setIfInBounds_toArray, List.set_cons_zero, List.set_cons_succ]
      refine wpAnyH_ready (rs := [1, 5]) (by kernel_rfl) (by simp) ?_
      refine (AllReadyH.cons (o := { dst := some 15, op := Op.buildSlice 22 0 #[], type := 22, pos := "ref.go:86", after := #[], guard := none }) rfl (fun K hK => ?_) (AllReadyH.cons (o := { dst := some 19, op := Op.load 22 (Operand.tmp 18), type := 22, pos := "ref.go:86", after := #[{ on := 4, ground := Ground.data }], guard := none }) rfl (fun K hK => ?_) AllReadyH.nil))
      · skip
        go_simp
        have sA := HSK.out _ HGA.out
        have r3a : (w3.alloc (.cells #[] 5)).drew.cell? ⟨k.R, 3, none⟩ = some (.slice AO s.out.length cO) := HR3.out.1 _ HGA.out
        refine hK.out _ _ sA (fun _ => ?_)
        clear hK K
        refine wpAnyH_ready (rs := [5]) (by kernel_rfl) (by simp) ?_
        refine (AllReadyH.cons (o := { dst := some 19, op := Op.load 22 (Operand.tmp 18), type := 22, pos := "ref.go:86", after := #[{ on := 4, ground := Ground.data }], guard := none }) rfl (fun K hK => ?_) AllReadyH.nil)
        go_simp
        refine hK.out _ _ sA (fun _ => ?_)
        clear hK K
        refine wpAnyH_ready (rs := [6]) (by kernel_rfl) (by simp) ?_
        refine (AllReadyH.cons (o := { dst := some 20, op := Op.call { callee := Callee.builtin Builtin.append, args := #[Operand.tmp 15, Operand.tmp 19], argTypes := #[22, 22] }, type := 22, pos := "ref.go:86", after := #[{ on := 1, ground := Ground.data }, { on := 5, ground := Ground.data }], guard := none }) rfl (fun K hK => ?_) AllReadyH.nil)
        refine step_app_bytes rfl (.tmp 15) (.tmp 19) rfl w3.heap.size (w3.drew.alloc (.cells #[] 5)) (.slice (some ⟨w3.drew.heap.size, 0, none⟩) 0 0) [] rfl (empty_own w3.drew) AO s.out cO rfl (HX.out.1.below HGA.out) (by have := HO.out; simp; omega) HGA.out.size ?_
        intro v7 w7 ho7 hg7
        have g7 : Below w3.heap.size w3 w7 := below_grown HGA.out hg7 HGA.out.size (fun g e => ((empty_own w3.drew).from_base g e).1)
        have s7 := HSK.out w7 g7
        have H7 := Lib.hid (And.intro (show Own w3.heap.size w7 v7 s.out from ho7) g7)
        clear ho7 hg7 g7
        simp only [Act.put, List.setIfInBounds_toArray, List.set_cons_zero, List.set_cons_succ]
        refine hK.out _ _ s7 (fun _ => ?_)
        clear hK K
        refine wpAnyH_ready (rs := [22]) (by kernel_rfl) (by simp) ?_
        refine (AllReadyH.cons (o := { dst := some 36, op := Op.call { callee := Callee.builtin Builtin.append, args := #[Operand.tmp 20, Operand.tmp 35], argTypes := #[22, 22] }, type := 22, pos := "ref.go:86", after := #[{ on := 6, ground := Ground.data }, { on := 21, ground := Ground.data }, { on := 6, ground := Ground.chain }], guard := none }) rfl (fun K hK => ?_) AllReadyH.nil)
        refine step_app_bytes rfl (.tmp 20) (.tmp 35) rfl w3.heap.size w7 v7 s.out rfl H7.out.1 AP ((k.B.drop p2).take n) cp (by rw [HX.out.2.2.1]; rfl) (HX.out.2.1.below H7.out.2) (by have := HO.out; rw [HX.out.2.2.1]; have := HX.out.2.2.2; omega) H7.out.2.size ?_
        intro v8 w8 ho8 hg8
        obtain ⟨A8, n8, c8, rfl⟩ := ho8.shape
        have g8 : Below w3.heap.size w3 w8 := below_grown H7.out.2 hg8 H7.out.2.size (fun g e => (H7.out.1.from_base g e).1)
        have s8 := HSK.out w8 g8
        have hc8 : w8.cell? ⟨k.R, 3, none⟩ = some (.slice AO s.out.length cO) := HR3.out.1 w8 g8
        have hf8 : w8.frozen? ⟨k.R, 3, none⟩ = false := HR3.out.2 w8 g8
        have H8 := Lib.hid (And.intro ho8 g8)
        clear ho8 hg8 g8
        simp only [Act.put, List.setIfInBounds_toArray, List.set_cons_zero, List.set_cons_succ]
        refine hK.out _ _ s8 (fun _ => ?_)
        clear hK K
        refine tk 23 (v := ?vra20) ?yra20 s8 ?_
        case yra20 =>
          intro w hSw
          go_simp; all_goals (with_reducible rfl)
        simp only [Act.put, List.setIfInBounds_toArray, List.set_cons_zero, List.set_cons_succ]
        refine tk 24 (v := ?vra21) ?yra21 s8 ?_
        case yra21 =>
          intro w hSw
          go_simp; all_goals (with_reducible rfl)
        simp only [Act.put, List.setIfInBounds_toArray, List.set_cons_zero, List.set_cons_succ]
        refine wpAnyH_ready (rs := [25]) (by kernel_rfl) (by simp) ?_
        refine (AllReadyH.cons (o := { dst := none, op := Op.store 22 (Operand.tmp 38) (Operand.tmp 36), type := 0, pos := "ref.go:86", after := #[{ on := 24, ground := Ground.data }, { on := 22, ground := Ground.data }, { on := 22, ground := Ground.chain }, { on := 0, ground := Ground.phase }, { on := 1, ground := Ground.phase }, { on := 2, ground := Ground.phase }, { on := 3, ground := Ground.phase }, { on := 4, ground := Ground.phase }, { on := 5, ground := Ground.phase }, { on := 6, ground := Ground.phase }, { on := 7, ground := Ground.phase }, { on := 8, ground := Ground.phase }, { on := 9, ground := Ground.phase }, { on := 10, ground := Ground.phase }, { on := 11, ground := Ground.phase }, { on := 12, ground := Ground.phase }, { on := 13, ground := Ground.phase }, { on := 14, ground := Ground.phase }, { on := 15, ground := Ground.phase }, { on := 16, ground := Ground.phase }, { on := 17, ground := Ground.phase }, { on := 18, ground := Ground.phase }, { on := 19, ground := Ground.phase }, { on := 20, ground := Ground.phase }, { on := 21, ground := Ground.phase }, { on := 22, ground := Ground.phase }], guard := none }) rfl (fun K hK => ?_) AllReadyH.nil)
        go_simp
        have s9 := hset _ (.slice A8 n8 c8) s8
        refine hK.out _ _ s9 (fun _ => ?_)
        clear hK K
        refine wpAnyH_done (by kernel_rfl) ?_ _
        clear hset hS hS0
        have hU8 := HUC.out.1.of_below H8.out.2
        have hC8 := HUC.out.2.of_below H8.out.2
        obtain ⟨cs8, hr8⟩ := hU8.hR
        have u1 := hU8.putOut (H8.out.1.weaken (Nat.le_trans hU8.bsz HUC.out.1.below.size)) (by rw [List.length_append]; exact Nat.le_add_right _ _)
        have c1 := (hC8.set (p := ⟨k.R, 3, none⟩) hr8 (.slice A8 n8 c8)).same (s' := { s with out := s.out ++ (k.B.drop p2).take n }) rfl rfl ⟨rfl, rfl, rfl, rfl, rfl, rfl⟩
        obtain ⟨_, ⟨_, q1, _, _, _, _, _, _, _, _, _⟩, _, qfr, _⟩ := u1.cells
        have f1 := qfr 1
        obtain ⟨cs9, hr9⟩ := u1.hR
        have u2 := u1.put 1 (.int .i64 (p3 : Nat)) (pos' := p3) (s' := { s with out := s.out ++ (k.B.drop p2).take n }) (cv' := cv) (fun _ => rfl) rfl (by rw [← HP3.out]; have := HT.out.2.2.2.1; omega) u1.nums.2.2.2.2
        have c2 := c1.set (p := ⟨k.R, 1, none⟩) hr9 (.int .i64 (p3 : Nat))
        have HFIN : Hid (Rk k _ p3 _) := Lib.hid ⟨cv, u2, c2⟩
        clear hU8 hC8 hr8 u1 c1 qfr hr9 u2 c2
        go_wp2_with fail
        go_ret
        rw [HR.out, HP3.out]
        exact ⟨rfl, HFIN.out⟩
      · skip
        go_simp
        refine hK.out _ _ hS0 (fun _ => ?_)
        clear hK K
        refine wpAnyH_ready (rs := [1]) (by kernel_rfl) (by simp) ?_
        refine (AllReadyH.cons (o := { dst := some 15, op := Op.buildSlice 22 0 #[], type := 22, pos := "ref.go:86", after := #[], guard := none }) rfl (fun K hK => ?_) AllReadyH.nil)
        go_simp
        have sA := HSK.out _ HGA.out
        have r3a : (w3.alloc (.cells #[] 5)).drew.cell? ⟨k.R, 3, none⟩ = some (.slice AO s.out.length cO) := HR3.out.1 _ HGA.out
        refine hK.out _ _ sA (fun _ => ?_)
        clear hK K
        refine wpAnyH_ready (rs := [6]) (by kernel_rfl) (by simp) ?_
        refine (AllReadyH.cons (o := { dst := some 20, op := Op.call { callee := Callee.builtin Builtin.append, args := #[Operand.tmp 15, Operand.tmp 19], argTypes := #[22, 22] }, type := 22, pos := "ref.go:86", after := #[{ on := 1, ground := Ground.data }, { on := 5, ground := Ground.data }], guard := none }) rfl (fun K hK => ?_) AllReadyH.nil)
        refine step_app_bytes rfl (.tmp 15) (.tmp 19) rfl w3.heap.size (w3.drew.alloc (.cells #[] 5)) (.slice (some ⟨w3.drew.heap.size, 0, none⟩) 0 0) [] rfl (empty_own w3.drew) AO s.out cO rfl (HX.out.1.below HGA.out) (by have := HO.out; simp; omega) HGA.out.size ?_
        intro v7 w7 ho7 hg7
        have g7 : Below w3.heap.size w3 w7 := below_grown HGA.out hg7 HGA.out.size (fun g e => ((empty_own w3.drew).from_base g e).1)
        have s7 := HSK.out w7 g7
        have H7 := Lib.hid (And.intro (show Own w3.heap.size w7 v7 s.out from ho7) g7)
        clear ho7 hg7 g7
        simp only [Act.put, List.setIfInBounds_toArray, List.set_cons_zero, List.set_cons_succ]
        refine hK.out _ _ s7 (fun _ => ?_)
        clear hK K
        refine wpAnyH_ready (rs := [22]) (by kernel_rfl) (by simp) ?_
        refine (AllReadyH.cons (o := { dst := some 36, op := Op.call { callee := Callee.builtin Builtin.append, args := #[Operand.tmp 20, Operand.tmp 35], argTypes := #[22, 22] }, type := 22, pos := "ref.go:86", after := #[{ on := 6, ground := Ground.data }, { on := 21, ground := Ground.data }, { on := 6, ground := Ground.chain }], guard := none }) rfl (fun K hK => ?_) AllReadyH.nil)
        refine step_app_bytes rfl (.tmp 20) (.tmp 35) rfl w3.heap.size w7 v7 s.out rfl H7.out.1 AP ((k.B.drop p2).take n) cp (by rw [HX.out.2.2.1]; rfl) (HX.out.2.1.below H7.out.2) (by have := HO.out; rw [HX.out.2.2.1]; have := HX.out.2.2.2; omega) H7.out.2.size ?_
        intro v8 w8 ho8 hg8
        obtain ⟨A8, n8, c8, rfl⟩ := ho8.shape
        have g8 : Below w3.heap.size w3 w8 := below_grown H7.out.2 hg8 H7.out.2.size (fun g e => (H7.out.1.from_base g e).1)
        have s8 := HSK.out w8 g8
        have hc8 : w8.cell? ⟨k.R, 3, none⟩ = some (.slice AO s.out.length cO) := HR3.out.1 w8 g8
        have hf8 : w8.frozen? ⟨k.R, 3, none⟩ = false := HR3.out.2 w8 g8
        have H8 := Lib.hid (And.intro ho8 g8)
        clear ho8 hg8 g8
        simp only [Act.put, List.setIfInBounds_toArray, List.set_cons_zero, List.set_cons_succ]
        refine hK.out _ _ s8 (fun _ => ?_)
        clear hK K
        refine tk 23 (v := ?vra22) ?yra22 s8 ?_
        case yra22 =>
          intro w hSw
          go_simp; all_goals (with_reducible rfl)
        simp only [Act.put, List.setIfInBounds_toArray, List.set_cons_zero, List.set_cons_succ]
        refine tk 24 (v := ?vra23) ?yra23 s8 ?_
        case yra23 =>
          intro w hSw
          go_simp; all_goals (with_reducible rfl)
        simp only [Act.put, List.setIfInBounds_toArray, List.set_cons_zero, List.set_cons_succ]
        refine wpAnyH_ready (rs := [25]) (by kernel_rfl) (by simp) ?_
        refine (AllReadyH.cons (o := { dst := none, op := Op.store 22 (Operand.tmp 38) (Operand.tmp 36), type := 0, pos := "ref.go:86", after := #[{ on := 24, ground := Ground.data }, { on := 22, ground := Ground.data }, { on := 22, ground := Ground.chain }, { on := 0, ground := Ground.phase }, { on := 1, ground := Ground.phase }, { on := 2, ground := Ground.phase }, { on := 3, ground := Ground.phase }, { on := 4, ground := Ground.phase }, { on := 5, ground := Ground.phase }, { on := 6, ground := Ground.phase }, { on := 7, ground := Ground.phase }, { on := 8, ground := Ground.phase }, { on := 9, ground := Ground.phase }, { on := 10, ground := Ground.phase }, { on := 11, ground := Ground.phase }, { on := 12, ground := Ground.phase }, { on := 13, ground := Ground.phase }, { on := 14, ground := Ground.phase }, { on := 15, ground := Ground.phase }, { on := 16, ground := Ground.phase }, { on := 17, ground := Ground.phase }, { on := 18, ground := Ground.phase }, { on := 19, ground := Ground.phase }, { on := 20, ground := Ground.phase }, { on := 21, ground := Ground.phase }, { on := 22, ground := Ground.phase }], guard := none }) rfl (fun K hK => ?_) AllReadyH.nil)
        go_simp
        have s9 := hset _ (.slice A8 n8 c8) s8
        refine hK.out _ _ s9 (fun _ => ?_)
        clear hK K
        refine wpAnyH_done (by kernel_rfl) ?_ _
        clear hset hS hS0
        have hU8 := HUC.out.1.of_below H8.out.2
        have hC8 := HUC.out.2.of_below H8.out.2
        obtain ⟨cs8, hr8⟩ := hU8.hR
        have u1 := hU8.putOut (H8.out.1.weaken (Nat.le_trans hU8.bsz HUC.out.1.below.size)) (by rw [List.length_append]; exact Nat.le_add_right _ _)
        have c1 := (hC8.set (p := ⟨k.R, 3, none⟩) hr8 (.slice A8 n8 c8)).same (s' := { s with out := s.out ++ (k.B.drop p2).take n }) rfl rfl ⟨rfl, rfl, rfl, rfl, rfl, rfl⟩
        obtain ⟨_, ⟨_, q1, _, _, _, _, _, _, _, _, _⟩, _, qfr, _⟩ := u1.cells
        have f1 := qfr 1
        obtain ⟨cs9, hr9⟩ := u1.hR
        have u2 := u1.put 1 (.int .i64 (p3 : Nat)) (pos' := p3) (s' := { s with out := s.out ++ (k.B.drop p2).take n }) (cv' := cv) (fun _ => rfl) rfl (by rw [← HP3.out]; have := HT.out.2.2.2.1; omega) u1.nums.2.2.2.2
        have c2 := c1.set (p := ⟨k.R, 1, none⟩) hr9 (.int .i64 (p3 : Nat))
        have HFIN : Hid (Rk k _ p3 _) := Lib.hid ⟨cv, u2, c2⟩
        clear hU8 hC8 hr8 u1 c1 qfr hr9 u2 c2
        go_wp2_with fail
        go_ret
        rw [HR.out, HP3.out]
        exact ⟨rfl, HFIN.out⟩
end Go.Proofs.Ytkckjjchfccdjaa
