/- The reference: Put, Fits. -/
import Derived.Test.YthfmhjpmcapcbaaDoorIxLaws
import Derived.Test.YthfmhjpmcapcbaaDoorVliRPut
namespace Go.Proofs.YthfmhjpmcapcbaaDoor
open Go.RowKit

set_option maxRecDepth 100000 in
set_option maxHeartbeats 1000000 in
theorem rfits_any (r : Int × Int) (w : World) (hr : I64R r) : Calls Tryd.prog 8 #[.agg #[.int .i64 r.1, .int .i64 r.2]] w fun e w' => e = .returned (.bool (fitsR r)) ∧ Below w.heap.size w w' := by
  obtain ⟨a, b⟩ := r
  obtain ⟨r1, r2, r3, r4⟩ : -9223372036854775808 ≤ a ∧ a ≤ 9223372036854775807 ∧ -9223372036854775808 ≤ b ∧ b ≤ 9223372036854775807 := hr
  have hA : Below w.heap.size w (w.alloc (.cells #[.int .i64 a, .int .i64 b] 32)) := (Below.refl _ _).alloc (Nat.le_refl _) _
  have HA := Lib.hid hA
  clear hA
  by_cases h5 : 5 ≤ a
  · by_cases hm : a ≤ 9223372036854775804
    · by_cases h0 : 0 ≤ b
      · have hf : fitsR (a, b) = true := by simp [fitsR, fitsU, h5, hm, h0]
        rw [hf]
        clear hf
        go_enter Tryd.func8, Tryd.ntmps8
        go_wp2_with fail
        go_ret
        exact ⟨rfl, HA.out⟩
      · have hf : fitsR (a, b) = false := by simp [fitsR, h0]
        rw [hf]
        clear hf
        go_enter Tryd.func8, Tryd.ntmps8
        go_wp2_with fail
        go_ret
        exact ⟨rfl, HA.out⟩
    · have hf : fitsR (a, b) = false := by simp [fitsR, fitsU, hm]
      rw [hf]
      clear hf
      go_enter Tryd.func8, Tryd.ntmps8
      go_wp2_with fail
      go_ret
      exact ⟨rfl, HA.out⟩
  · have hf : fitsR (a, b) = false := by simp [fitsR, fitsU, h5]
    rw [hf]
    clear hf
    go_enter Tryd.func8, Tryd.ntmps8
    go_wp2_with fail
    go_ret
    exact ⟨rfl, HA.out⟩

/-- A slice value's length. -/
def lenOf : Value → Nat
  | .slice _ n _ => n
  | _ => 0
set_option maxRecDepth 100000 in
set_option maxHeartbeats 2000000 in
theorem rixput_any (A : Option Addr) (l : List (Int × Int)) (c : Nat) (w : World) (hB : Recs w A l) (hall : l.all fitsR = true) (hr : ∀ r ∈ l, I64R r) (hl : l.length ≤ 100000) :
    Calls Tryd.prog 10 #[.slice A l.length c] w (OwnDone w (putR l)) := by
  have hli : (l.length : Int) ≤ 100000 := by omega
  have HRP := Lib.hid (fun (n : Nat) (w' : World) (h : n ≤ 9223372036854775807) => rput_any 9 n w' (by omega) (Nat.lt_of_le_of_lt h (by decide)) (by omega))
  have ho0 : Own w.heap.size (w.alloc (.cells #[.int .u8 0] 5)) (.slice (some ⟨w.heap.size, 0, none⟩) 1 1) [0] := Own.lit w [0] (Nat.le_refl _) (by simp)
  have hb0 : Below w.heap.size w (w.alloc (.cells #[.int .u8 0] 5)) := (Below.refl _ _).alloc (Nat.le_refl _) _
  have H0 := Lib.hid (HRP.out l.length (w.alloc (.cells #[.int .u8 0] 5)) (by omega))
  have hLn := (Vl.put_length 9 l.length).2
  go_enter Tryd.func10, Tryd.ntmps10
  go_wp2_with fail
  refine H0.out.mono ?_
  rintro e w1 ⟨v1, rfl, ho1, hb1⟩
  obtain ⟨A1, c1, rfl, hc1, hm1, hB1⟩ := ho1.read
  have ho01 := ho0.below hb1
  have hb01 : Below w.heap.size w w1 := hb0.trans (hb1.mono hb0.size)
  go_wp2_with (at_builtin; refine wpList_append_bytes rfl (.tmp 5) (.tmp 9) rfl w.heap.size _ _ [0] rfl ho01 A1 (Vl.put 9 l.length) c1 rfl hB1 (by simp; omega) hb01.size ?_; intro v2 w2 ho2 hg2)
  have hb02 : Below w.heap.size w w2 := below_grown hb01 hg2 hb01.size (fun g e => (ho01.from_base g e).1)
  have ho2' : Own w.heap.size w2 v2 (headB l.length) := ho2
  clear ho2 hg2 ho01 hb01 hB1 ho1 hb1 H0 ho0 hb0
  go_loopw [3, 4] (fun lv i wr => ∃ j : Nat, j ≤ l.length ∧ i = .int .i64 (j : Nat) ∧ Own w.heap.size wr lv (headB l.length ++ recB (l.take j)) ∧ Hid (Below w.heap.size w wr)) (fun _ i _ => l.length - (intOf i).toNat)
  case atStart => exact ⟨0, by omega, rfl, by simpa [recB] using ho2', Lib.hid hb02⟩
  case round =>
    obtain ⟨j, hj, rfl, hown, HBR⟩ := hrel
    by_cases hjl : j < l.length
    · have hji : (j : Int) < (l.length : Int) := by omega
      obtain ⟨b, off, rfl, hb, hcl⟩ := hB.addr (by omega)
      have hcj := hcl j hjl
      have hnx : l.take (j + 1) = l.take j ++ [l[j]] := by rw [List.take_succ_eq_append_getElem hjl]
      have hrj := hr l[j] (List.getElem_mem hjl)
      have hfj : fitsR l[j] = true := List.all_eq_true.1 hall _ (List.getElem_mem hjl)
      generalize l[j] = r at *
      obtain ⟨n1, n2⟩ := r
      obtain ⟨r1, r2, r3, r4⟩ : -9223372036854775808 ≤ n1 ∧ n1 ≤ 9223372036854775807 ∧ -9223372036854775808 ≤ n2 ∧ n2 ≤ 9223372036854775807 := hrj
      have hfj' : fitsU n1 = true ∧ 0 ≤ n2 := by simpa [fitsR] using hfj
      have h1 : 5 ≤ n1 := by
        by_cases h : 5 ≤ n1
        · exact h
        · have := hfj'.1; simp [fitsU, h] at this
      obtain ⟨m1, rfl⟩ := Int.eq_ofNat_of_zero_le (show 0 ≤ n1 by omega)
      obtain ⟨m2, rfl⟩ := Int.eq_ofNat_of_zero_le hfj'.2
      have hK := Lib.hid (fun (w' : World) (h : Below w.heap.size w w') => (show w'.cell? ⟨b, off + j * 2, none⟩ = some (.int .i64 (m1 : Int)) ∧ w'.cell? ⟨b, off + j * 2 + 1, none⟩ = some (.int .i64 (m2 : Int)) from ⟨(h.cell (p := ⟨b, off + j * 2, none⟩) hb).trans hcj.1, (h.cell (p := ⟨b, off + j * 2 + 1, none⟩) hb).trans hcj.2⟩))
      obtain ⟨k1, k2⟩ := hK.out wr HBR.out
      have HP1 := Lib.hid (HRP.out m1 wr (by omega))
      have HP2 := Lib.hid (fun w' => HRP.out m2 w' (by omega))
      have hLe := (headB_length l.length).2
      have hRe := recB_length (l.take j)
      have htk : (l.take j).length ≤ j := by simp; omega
      have hV1 := (Vl.put_length 9 m1).2
      have hV2 := (Vl.put_length 9 m2).2
      have HSZ : Hid ((headB l.length ++ recB (l.take j)).length + (Vl.put 9 m1).length ≤ 140737488355328 ∧ ((headB l.length ++ recB (l.take j)) ++ Vl.put 9 m1).length + (Vl.put 9 m2).length ≤ 140737488355328) := Lib.hid (by simp only [List.length_append]; omega)
      clear hcl hcj hLe hRe htk hV1 hV2 hfj hfj' h1
      go_wp2_with fail
      refine HP1.out.mono ?_
      rintro e w3 ⟨v3, rfl, ho3, hb3⟩
      obtain ⟨A3, c3, rfl, hc3, hm3, hB3⟩ := ho3.read
      have hown3 := hown.below hb3
      have hbr3 : Below w.heap.size w w3 := HBR.out.trans (hb3.mono HBR.out.size)
      go_wp2_with (at_builtin; refine wpList_append_bytes rfl (.tmp 17) (.tmp 24) rfl w.heap.size _ _ (headB l.length ++ recB (l.take j)) rfl hown3 A3 (Vl.put 9 m1) c3 rfl hB3 HSZ.out.1 hbr3.size ?_; intro v4 w4 ho4 hg4; have hbr4 : Below w.heap.size w w4 := below_grown hbr3 hg4 hbr3.size (fun g e => (hown3.from_base g e).1); obtain ⟨k3, k4⟩ := hK.out w4 hbr4)
      have HP2' := Lib.hid (HP2.out w4)
      clear ho3 hc3 hm3 hB3 hown3 hbr3 hb3 hg4 hown k1 k2
      go_wp2_with fail
      refine HP2'.out.mono ?_
      rintro e w5 ⟨v5, rfl, ho5, hb5⟩
      obtain ⟨A5, c5, rfl, hc5, hm5, hB5⟩ := ho5.read
      have hown5 := ho4.below hb5
      have hbr5 : Below w.heap.size w w5 := hbr4.trans (hb5.mono hbr4.size)
      go_wp2_with (at_builtin; refine wpList_append_bytes rfl (.tmp 26) (.tmp 33) rfl w.heap.size _ _ (headB l.length ++ recB (l.take j) ++ Vl.put 9 m1) rfl hown5 A5 (Vl.put 9 m2) c5 rfl hB5 HSZ.out.2 hbr5.size ?_; intro v6 w6 ho6 hg6; have hbr6 : Below w.heap.size w w6 := below_grown hbr5 hg6 hbr5.size (fun g e => (hown5.from_base g e).1))
      have ho6' : Own w.heap.size w6 v6 (headB l.length ++ recB (l.take (j + 1))) := by
        rw [hnx, recB_snoc]
        simp only [← List.append_assoc] at ho6 ⊢
        exact ho6
      exact ⟨⟨j + 1, by omega, by go_num, ho6', Lib.hid hbr6⟩, by simp [intOf]; omega⟩
    · obtain rfl : j = l.length := by omega
      rw [List.take_length] at hown
      have HR := Lib.hid (show putR l = padB (bodyB l) ++ sum1 (padB (bodyB l)) from rfl)
      have HPD := Lib.hid (show padB (bodyB l) = bodyB l ++ List.replicate (zerosN (bodyB l).length) 0 from rfl)
      have hlen : (bodyB l).length ≤ 2000100 := by
        have h1 := headB_length l.length
        have h2 := recB_length l
        simp only [bodyB, List.length_append]
        omega
      have hown' : Own w.heap.size wr u3 (bodyB l) := hown
      have hz4 : zerosN (bodyB l).length < 4 := by unfold zerosN; omega
      have hzq : ((bodyB l).length + zerosN (bodyB l).length) % 4 = 0 := by unfold zerosN; omega
      clear hown
      generalize zerosN (bodyB l).length = Z at *
      generalize bodyB l = BD at *
      go_wp2_with fail
      go_loopw [3] (fun lv w2 => ∃ t : Nat, t ≤ Z ∧ Own w.heap.size w2 lv (BD ++ List.replicate t 0) ∧ Hid (Below w.heap.size w w2) ∧ BD.length + t = lenOf lv) (fun lv _ => BD.length + Z - lenOf lv)
      case atStart =>
        obtain ⟨A0, c0, rfl, _, _, _⟩ := hown'.read
        exact ⟨0, by omega, by simpa using hown', HBR, rfl⟩
      case round =>
        obtain ⟨t, ht, hown2, hbr2, hlv⟩ := hrel
        obtain ⟨O, hO⟩ : ∃ O, BD ++ List.replicate t (0 : UInt8) = O := ⟨_, rfl⟩
        have hOl : O.length = BD.length + t := by rw [← hO]; simp
        rw [hO] at hown2
        obtain ⟨A7, c7, rfl, hc7, hm7, hB7⟩ := hown2.read
        by_cases htz : t < Z
        · have hm4 : ¬ (O.length : Int) % 4 = 0 := by omega
          have hownA := hown2.alloc (.cells #[.int .u8 0] 5)
          have hbA : Below w.heap.size w (wr.alloc (.cells #[.int .u8 0] 5)) := hbr2.out.alloc hbr2.out.size _
          have hBA : Bytes (wr.alloc (.cells #[.int .u8 0] 5)) (some ⟨wr.heap.size, 0, none⟩) [0] := .inr ⟨wr.heap.size, 0, rfl, by simp, by
            intro k hk
            obtain rfl : k = 0 := by simpa using hk
            simp⟩
          have HSZ : Hid (O.length + [(0 : UInt8)].length ≤ 140737488355328) := Lib.hid (by simp; omega)
          have HNX : Hid (O ++ [0] = BD ++ List.replicate (t + 1) 0) := Lib.hid (by rw [← hO, List.replicate_succ', List.append_assoc])
          have HOL := Lib.hid hOl
          clear hO hB7 hown2 hzq hz4 hlv hOl
          go_wp2_with (at_builtin; refine wpList_append_bytes rfl (.tmp 39) (.tmp 40) rfl w.heap.size _ _ O rfl hownA (some ⟨wr.heap.size, 0, none⟩) [0] 1 rfl hBA HSZ.out hbA.size ?_; intro v8 w8 ho8 hg8; have hbr8 : Below w.heap.size w w8 := below_grown hbA hg8 hbA.size (fun g e => (hownA.from_base g e).1))
          obtain ⟨A8, c8, rfl, _, _, _⟩ := ho8.read
          have hl8 : (O ++ [(0 : UInt8)]).length = BD.length + (t + 1) := by have := HOL.out; simp; omega
          rw [HNX.out] at ho8 hl8
          have hOl := HOL.out
          exact ⟨⟨t + 1, by omega, by rw [HNX.out]; exact ho8, Lib.hid hbr8, by rw [HNX.out]; exact hl8.symm⟩, by rw [HNX.out]; show BD.length + Z - (BD ++ List.replicate (t + 1) 0).length < BD.length + Z - O.length; omega⟩
        · obtain rfl : t = Z := by omega
          have hm4 : (O.length : Int) % 4 = 0 := by omega
          have hPO : padB BD = O := by rw [HPD.out]; exact hO
          have HR2 : Hid (putR l = O ++ sum1 O) := Lib.hid (by rw [HR.out, hPO])
          have HS := Lib.hid (rchk1_any A7 O c7 wr hB7 (by omega))
          have HSL := Lib.hid (sum1_length O)
          have HOB : Hid (O.length + (sum1 O).length ≤ 140737488355328) := Lib.hid (by have := HSL.out; omega)
          clear hPO hO htz hzq hz4 HR HPD hlv hOl hB7
          go_wp2_with fail
          refine HS.out.mono ?_
          rintro e w9 ⟨v9, rfl, ho9, hb9⟩
          obtain ⟨A9, c9, rfl, hc9, hm9, hB9⟩ := ho9.read
          have hown9 := hown2.below hb9
          have hbr9 : Below w.heap.size w w9 := hbr2.out.trans (hb9.mono hbr2.out.size)
          go_wp2_with (at_builtin; refine wpList_append_bytes rfl (.tmp 42) (.tmp 44) rfl w.heap.size _ _ O rfl hown9 A9 (sum1 O) c9 rfl hB9 HOB.out hbr9.size ?_; intro v10 w10 ho10 hg10; have hbr10 : Below w.heap.size w w10 := below_grown hbr9 hg10 hbr9.size (fun g e => (hown9.from_base g e).1))
          go_ret
          exact ⟨_, rfl, by rw [HR2.out]; exact ho10, hbr10⟩
end Go.Proofs.YthfmhjpmcapcbaaDoor
