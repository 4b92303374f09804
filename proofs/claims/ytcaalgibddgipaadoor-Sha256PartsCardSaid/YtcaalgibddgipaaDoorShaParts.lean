/- The walk over Sha256Parts. -/
import Derived.Test.YtcaalgibddgipaaDoorShaKnows
namespace Go.Proofs.YtcaalgibddgipaaDoor
open Go.RowKit

/-- A slice of byte slices that came in. -/
def Lists (w : World) (A : Option Addr) (ls : List (List UInt8)) : Prop :=
  ls = [] ∨ ∃ b off, A = some ⟨b, off, none⟩ ∧ b < w.heap.size ∧ ∀ k (h : k < ls.length), ∃ Ak ck, w.cell? ⟨b, off + k, none⟩ = some (.slice Ak (ls[k]).length ck) ∧ (ls[k]).length ≤ ck ∧ ck ≤ 9223372036854775807 ∧ Bytes w Ak ls[k]
theorem Lists.below {w w' : World} {A : Option Addr} {ls : List (List UInt8)} (h : Lists w A ls) (hb : Below w.heap.size w w') : Lists w' A ls := by
  rcases h with h | ⟨b, off, rfl, hlt, hc⟩
  · exact .inl h
  · refine .inr ⟨b, off, rfl, Nat.lt_of_lt_of_le hlt hb.size, fun k hk => ?_⟩
    obtain ⟨Ak, ck, h1, h2, h3, h4⟩ := hc k hk
    exact ⟨Ak, ck, (hb.cell (p := ⟨b, off + k, none⟩) hlt).trans h1, h2, h3, h4.below hb⟩
theorem eq_agg (D : Array Value) (w : World) (h : (Op.equal 24 (.agg D) (.agg D)).run Tryd.prog w = .ok true w) : (binOp .eql 24 (.agg D) (.agg D)).run Tryd.prog w = .ok (.bool true) w := by
  simp only [binOp, Sem.run_bind, h, Result.andThen_ok, Sem.run_pure]
theorem ne_agg (D : Array Value) (w : World) (h : (Op.equal 24 (.agg D) (.agg D)).run Tryd.prog w = .ok true w) : (binOp .neq 24 (.agg D) (.agg D)).run Tryd.prog w = .ok (.bool false) w := by
  simp only [binOp, Sem.run_bind, h, Result.andThen_ok, Sem.run_pure, Bool.not_true]
theorem hash_grown {w w' : World} {g : Nat} {s : St} (h : HashAt w g s) {v : Value} (hg : w.grownBy w' v.ownBlock) (hv : ∀ o, v.ownBlock = some o → g < o) : HashAt w' g s :=
  ⟨(hg.block g (lt_of_heap h.at_) (fun e => by have := hv g e.symm; omega)).trans h.at_, h.len⟩

theorem Own.only {base : Nat} {w w' : World} {v : Value} {l : List UInt8} {X : List Nat} (h : Own base w v l) (ho : Only X w w') (hX : ∀ i ∈ X, i < base) : Own base w' v l := by
  rcases h with ⟨h1, h2 | ⟨g, cap, cur, h2, h3, h4, h5⟩⟩
  · exact ⟨h1, .inl h2⟩
  · exact ⟨h1, .inr ⟨g, cap, cur, h2, h3, (ho.block g (lt_of_heap h4) (fun hm => by have := hX g hm; omega)).trans h4, h5⟩⟩
theorem Bytes.only0 {w w' : World} {A : Option Addr} {l : List UInt8} {X : List Nat} (h : Bytes w A l) (ho : Only X w w') (hA : 0 < l.length → ∀ a, A = some a → a.block ∉ X) : Bytes w' A l := by
  rcases Nat.eq_zero_or_pos l.length with h0 | h0
  · exact .inl (List.eq_nil_of_length_eq_zero h0)
  · exact h.only ho (hA h0)

set_option maxRecDepth 100000 in
set_option maxHeartbeats 4000000 in
theorem parts_law (A : Option Addr) (ls : List (List UInt8)) (c : Nat) (w : World) (hL : Lists w A ls) (hc : ls.length ≤ c) (_hm : c ≤ 9223372036854775807) (hT : Tabs w) :
    Calls Tryd.prog 4 #[.slice A ls.length c] w (Holds w) := by
  by_cases h20 : 20 < ls.length
  · have HK := Lib.hid (knows_any w hT)
    have h20i : (20 : Int) < (ls.length : Int) := by omega
    clear h20
    go_enter Tryd.func4, Tryd.ntmps4
    go_wp2_with ((with_reducible refine HK.out.mono ?_); rintro e w' ⟨rfl, hb⟩)
    go_ret
    exact ⟨rfl, hb⟩
  obtain ⟨tt, fr, hf⟩ := hT.first
  have h20i : (ls.length : Int) ≤ 20 := by omega
  have HL20 := Lib.hid h20
  have HT := Lib.hid hT
  have h2 := hT.two
  have HN := Lib.hid (new_any tt fr w hf)
  have HLS := Lib.hid hL
  have HG : Tryd.prog.eqGuardType Tryd.prog.depth 24 = false := by kernel_rfl
  clear h20 hT hf hL
  go_enter Tryd.func4, Tryd.ntmps4
  go_wp2_with ((with_reducible refine HN.out.mono ?_); rintro e w1 ⟨rfl, hH1, hb1⟩)
  go_loopw [4, 5] (fun v i wr => ∃ (k : Nat) (a : List UInt8), k ≤ ls.length ∧ i = .int .i64 k ∧ a.length ≤ 200 * k ∧ Own (w.heap.size + 1) wr v a ∧ HashAt wr w.heap.size (St.new.puts a) ∧ Below w.heap.size w wr) (fun _ i _ => ls.length - (intOf i).toNat)
  case atStart => exact ⟨0, [], by omega, rfl, by simp, Own.nil _ _, hH1, hb1⟩
  case round =>
    obtain ⟨k, a, hk, rfl, hal, hown, hH, hb⟩ := hrel
    clear hH1 hb1
    obtain ⟨Aa, ca, rfl, hac, hacm, hBa⟩ := hown.read
    have hTr := HT.out.below hb
    by_cases hlt : k < ls.length
    · obtain ⟨bb, off, rfl, hbl, hcell⟩ : ∃ b off, A = some ⟨b, off, none⟩ ∧ b < w.heap.size ∧ ∀ k (h : k < ls.length), ∃ Ak ck, w.cell? ⟨b, off + k, none⟩ = some (.slice Ak (ls[k]).length ck) ∧ (ls[k]).length ≤ ck ∧ ck ≤ 9223372036854775807 ∧ Bytes w Ak ls[k] := by
        rcases HLS.out with h | h
        · subst h; simp at hlt
        · exact h
      obtain ⟨Ak, ck, hce0, hck, hckm, hBk0⟩ := hcell k hlt
      have hBlk := hBk0.blk
      have hBk := hBk0.below hb
      have hce := (hb.cell (p := ⟨bb, off + k, none⟩) hbl).trans hce0
      clear hcell hce0 hBk0
      generalize ls[k] = pk at *
      have hki : (k : Int) < (ls.length : Int) := by omega
      by_cases h200 : 200 < pk.length
      · have HK := Lib.hid (knows_any wr hTr)
        have h2i : (200 : Int) < (pk.length : Int) := by omega
        clear hBa hTr
        go_wp2_with ((with_reducible refine HK.out.mono ?_); rintro e w' ⟨rfl, hb'⟩)
        go_ret
        exact ⟨rfl, hb.trans (hb'.mono hb.size)⟩
      · have h2i : (pk.length : Int) ≤ 200 := by omega
        have hk20 : k < 20 := by have := HL20.out; omega
        have hnk : (St.new.puts a).n + pk.length ≤ 1000000000 := by rw [St.puts_n]; show 0 + a.length + pk.length ≤ _; omega
        have hHl := lt_of_heap hH.at_
        have HWR := Lib.hid (write_any w.heap.size (St.new.puts a) Ak pk ck wr hH hBk (fun h x e => by have := hBlk h x e; omega) hHl hTr.round h2 hck hckm hnk)
        obtain ⟨a2, ha2⟩ : ∃ a2, a ++ pk = a2 := ⟨_, rfl⟩
        have hal2 : a2.length = a.length + pk.length := by rw [← ha2, List.length_append]
        have HAL := Lib.hid hal
        have HAL2 := Lib.hid hal2
        have HAP := Lib.hid ha2
        have HBK := Lib.hid hBk
        have HBL := Lib.hid hBlk
        clear ha2 hnk hH hBa hal hBk hBlk hal2
        go_wp2_with fail
        refine HWR.out.mono ?_
        rintro e w2 ⟨rfl, hH2, ho2⟩
        rw [← St.puts_append, HAP.out] at hH2
        have hown2 := hown.only ho2 (by simp)
        have hB2 := HBK.out.only0 ho2 (fun h x e => by have := HBL.out h x e; simp; omega)
        have hce2 : w2.cell? ⟨bb, off + k, none⟩ = some (.slice Ak pk.length ck) := by
          rw [← hce]
          unfold World.cell?
          rw [ho2.block bb (Nat.lt_of_lt_of_le hbl hb.size) (by simp; omega)]
        have hb2 : Below w.heap.size w w2 := hb.trans (ho2.below hb.size (by simp))
        have hs2 : w.heap.size + 1 ≤ w2.heap.size := lt_of_heap hH2.at_
        have hsz : a.length + pk.length ≤ 140737488355328 := by have := HAL.out; omega
        clear hce ho2 hown
        go_wp2_with (refine wpList_append_bytes rfl _ _ rfl (w.heap.size + 1) w2 (.slice Aa a.length ca) a rfl hown2 Ak pk ck rfl hB2 hsz hs2 ?_; intro v' w3 hown3 hg3; rw [HAP.out] at hown3; obtain ⟨A3, c3, rfl, hc3, hm3, hB3⟩ := hown3.read)
        have hH3 := hash_grown hH2 hg3 (fun o ho => by have := hown2.from_base o ho; omega)
        have hb3 : Below w.heap.size w w3 := below_grown hb2 hg3 (by omega) (fun o ho => by have := hown2.from_base o ho; omega)
        have hT3 := HT.out.below hb3
        have h3l := lt_of_heap hH3.at_
        have hn3 : (St.new.puts a2).n ≤ 100000000 := by rw [St.puts_n]; show 0 + a2.length ≤ _; have := HAL.out; have := HAL2.out; omega
        have HS1 := Lib.hid (sum_any w.heap.size (St.new.puts a2) w3 hH3 h3l hT3.round h2 hn3)
        have HS2 := Lib.hid (fun w4 (h1 : Tabs w4) (h2 : Bytes w4 A3 a2) => sumOf_any A3 a2 c3 w4 h1 h2 hc3 hm3 (by have := HAL.out; have := HAL2.out; omega))
        have heq := fun w => equal_same (St.new.puts a2).digest (digest_length _) w
        have HB3 := Lib.hid hB3
        have HT3 := Lib.hid hT3
        have HH3 := Lib.hid hH3
        generalize ((St.new.puts a2).digest.map B8).toArray = D at *
        have hne := fun w => ne_agg D w (heq w)
        clear heq hce2 hn3 hB3 hT3 hH3 hown2 hg3 hH2 hb2 hB2
        go_wp2_with fail
        refine HS1.out.mono ?_
        rintro e w4 ⟨rfl, hb4⟩
        have hT4 := HT3.out.below hb4
        have hB4 := HB3.out.below hb4
        have HS2' := Lib.hid (HS2.out w4 hT4 hB4)
        clear hT4 hB4
        go_wp2_with fail
        refine HS2'.out.mono ?_
        rintro e w5 ⟨rfl, hb5⟩
        have hb35 : Below w3.heap.size w3 w5 := hb4.trans (hb5.mono hb4.size)
        go_wp2_with fail
        go_roundw
        case rel => exact ⟨k + 1, a2, by omega, by go_num, by have := HAL.out; have := HAL2.out; omega, hown3.below hb35, HH3.out.belowB hb35 h3l, hb3.trans (hb35.mono hb3.size)⟩
        case measure => simp [intOf]; omega
    · obtain rfl : k = ls.length := by omega
      have hlr := lt_of_heap hH.at_
      have hnr : (St.new.puts a).n ≤ 100000000 := by rw [St.puts_n]; show 0 + a.length ≤ _; have := HL20.out; omega
      have hal2 : a.length ≤ 100000000 := by have := HL20.out; omega
      have HN0 := Lib.hid (sum_nil wr hTr)
      have HN1 := Lib.hid (fun w1 (h : Tabs w1) => sumOf_any none [] 0 w1 h .nil (by simp) (by omega) (by simp))
      have HN2 := Lib.hid (fun w1 (h : Tabs w1) (hH : HashAt w1 w.heap.size (St.new.puts a)) => sum_any w.heap.size (St.new.puts a) w1 hH (lt_of_heap hH.at_) h.round h2 hnr)
      have HN3 := Lib.hid (fun w1 (h : Tabs w1) (hB : Bytes w1 Aa a) => sumOf_any Aa a ca w1 h hB hac hacm hal2)
      have HTR := Lib.hid hTr
      have HBA := Lib.hid hBa
      have HHR := Lib.hid hH
      rw [St.puts_nil] at HN1
      have heq := fun w => equal_same (St.new.puts a).digest (digest_length _) w
      have heq0 := fun w => equal_same St.new.digest (digest_length _) w
      generalize ((St.new.puts a).digest.map B8).toArray = D at *
      generalize (St.new.digest.map B8).toArray = D0 at *
      have hne := fun w => eq_agg D w (heq w)
      have hne0 := fun w => eq_agg D0 w (heq0 w)
      clear heq heq0 hBa hH hTr hnr
      go_wp2_with fail
      refine (write_nil _ _).mono ?_
      rintro e _ ⟨rfl, rfl⟩
      go_wp2_with fail
      refine HN0.out.mono ?_
      rintro e w1 ⟨rfl, hb1⟩
      have HT1 := Lib.hid (HTR.out.below hb1)
      go_wp2_with fail
      refine (HN1.out w1 HT1.out).mono ?_
      rintro e w2 ⟨rfl, hb2⟩
      have hb2' : Below wr.heap.size wr w2 := hb1.trans (hb2.mono hb1.size)
      have HT2 := Lib.hid (HTR.out.below hb2')
      clear hb1 hb2
      go_wp2_with fail
      refine (HN2.out w2 HT2.out (HHR.out.belowB hb2' hlr)).mono ?_
      rintro e w3 ⟨rfl, hb3⟩
      have hb3' : Below wr.heap.size wr w3 := hb2'.trans (hb3.mono hb2'.size)
      have HT3 := Lib.hid (HTR.out.below hb3')
      have HB3 := Lib.hid (HBA.out.below hb3')
      clear hb3 hb2'
      go_wp2_with fail
      refine (HN3.out w3 HT3.out HB3.out).mono ?_
      rintro e w4 ⟨rfl, hb4⟩
      have hb4' : Below wr.heap.size wr w4 := hb3'.trans (hb4.mono hb3'.size)
      have HT4 := Lib.hid (HTR.out.below hb4')
      clear hb4 hb3'
      go_wp2_with fail
      refine (knows_any w4 HT4.out).mono ?_
      rintro e w5 ⟨rfl, hb5⟩
      have hb5' : Below wr.heap.size wr w5 := hb4'.trans (hb5.mono hb4'.size)
      go_wp2_with fail
      go_ret
      exact ⟨rfl, hb.trans (hb5'.mono hb.size)⟩
end Go.Proofs.YtcaalgibddgipaaDoor
