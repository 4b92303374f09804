/- index.readRecords. -/
import Derived.Test.YthfmhjpmcapcbaaDoorIxEnd
import Derived.Test.YthfmhjpmcapcbaaDoorIxRecs
namespace Go.Proofs.YthfmhjpmcapcbaaDoor
open Go.RowKit

def recsGo (l : List UInt8) : Nat → Nat → List (Int × Int) → List (Int × Int) × Nat × Nat
  | 0, k, acc => (acc, k, 0)
  | m + 1, k, acc =>
    if (nextR l k).2.2 ≠ 0 then ([], 0, (nextR l k).2.2) else if fitsU ((nextR l k).1 : Nat) = false then ([], 0, 8)
    else if (nextR l (nextR l k).2.1).2.2 ≠ 0 then ([], 0, (nextR l (nextR l k).2.1).2.2)
    else recsGo l m (nextR l (nextR l k).2.1).2.1 (acc ++ [((((nextR l k).1 : Nat) : Int), (((nextR l (nextR l k).2.1).1 : Nat) : Int))])
theorem recsGo_more (l : List UInt8) (m k : Nat) (acc : List (Int × Int)) : recsGo l (m + 1) k acc = if (nextR l k).2.2 ≠ 0 then ([], 0, (nextR l k).2.2) else if fitsU ((nextR l k).1 : Nat) = false then ([], 0, 8)
    else if (nextR l (nextR l k).2.1).2.2 ≠ 0 then ([], 0, (nextR l (nextR l k).2.1).2.2)
    else recsGo l m (nextR l (nextR l k).2.1).2.1 (acc ++ [((((nextR l k).1 : Nat) : Int), (((nextR l (nextR l k).2.1).1 : Nat) : Int))]) := rfl
def recsR (l : List UInt8) (k : Nat) : List (Int × Int) × Nat × Nat := if (nextR l k).2.2 ≠ 0 then ([], 0, (nextR l k).2.2) else recsGo l (nextR l k).1 (nextR l k).2.1 []
theorem nextR_cases (l : List UInt8) (k : Nat) (hk : k ≤ l.length) : (nextR l k).2.2 = 0 ∧ k < (nextR l k).2.1 ∧ (nextR l k).2.1 ≤ l.length ∧ (nextR l k).1 < 9223372036854775808 ∨ (nextR l k).2.2 = 2 ∧ (nextR l k).1 = 0 ∨ (nextR l k).2.2 = 8 ∧ (nextR l k).1 = 0 := by
  have h := Vl.get_cases (l.drop k)
  rw [List.length_drop] at h
  unfold nextR
  rcases h with ⟨h1, h2, _⟩ | ⟨h1, _⟩ | ⟨h1, h2, h3, h4⟩
  · rw [if_neg (by omega)]; exact .inr (.inl ⟨h1, h2⟩)
  · rw [if_pos h1]; exact .inr (.inr ⟨rfl, rfl⟩)
  · rw [if_neg (by omega)]; exact .inl ⟨h1, by show k < k + _; omega, by show k + _ ≤ _; omega, h4⟩

theorem elemRec : Elem2 22 44 (.agg #[.int .i64 0, .int .i64 0]) 16 := ⟨Tryd.underlying22, by kernel_rfl, rfl⟩

/-- What readRecords hands back. -/
def RecsDone (ba : Nat) (r : List (Int × Int) × Nat × Nat) (w : World) (e : Ending) (w' : World) : Prop :=
  ∃ v, e = .returned (.tuple #[v, .int .i64 (r.2.2 : Nat)]) ∧ Below ba w w' ∧ (r.2.2 ≠ 0 → v = .slice none 0 0) ∧
    (r.2.2 = 0 → OwnR 44 w.heap.size w' v r.1 ∧ w'.cell? ⟨ba, 0, none⟩ = some (.int .i64 (r.2.1 : Nat)))

set_option maxRecDepth 100000 in
set_option maxHeartbeats 2000000 in
theorem recs_any (bb ba : Nat) (A : Option Addr) (l : List UInt8) (c k : Nat) (w : World) (hbb : w.cell? ⟨bb, 0, none⟩ = some (.slice A l.length c)) (hba : w.cell? ⟨ba, 0, none⟩ = some (.int .i64 (k : Nat))) (hfz : w.frozen? ⟨ba, 0, none⟩ = false)
    (hlt : bb < ba) (hla : ba < w.heap.size) (hB : ∀ w', Below ba w w' → Bytes w' A l) (hk : k ≤ l.length) (hc : l.length ≤ c) (hm : c ≤ 9223372036854775807) (hl : l.length ≤ 1000000) :
    Calls Tryd.prog 20 #[.func (.func 18) #[] #[.pointer (some ⟨bb, 0, none⟩), .pointer (some ⟨ba, 0, none⟩)]] w (RecsDone ba (recsR l k) w) := by
  have HN := Lib.hid (fun (j : Nat) (wr : World) (hb : Below ba w wr) (hj : j ≤ l.length) (h1 : wr.cell? ⟨ba, 0, none⟩ = some (.int .i64 (j : Nat))) (h2 : wr.frozen? ⟨ba, 0, none⟩ = false) => next_any bb ba A l c j wr ((hb.cell (p := ⟨bb, 0, none⟩) hlt).trans hbb) h1 h2 (hB wr hb) hj hc hm hl)
  have H0 := Lib.hid (HN.out k w (Below.refl _ _) hk hba hfz)
  have HC0 := Lib.hid (nextR_cases l k hk)
  have HR := Lib.hid (show recsR l k = if (nextR l k).2.2 ≠ 0 then ([], 0, (nextR l k).2.2) else recsGo l (nextR l k).1 (nextR l k).2.1 [] from rfl)
  have HFZ := Lib.hid hfz
  have HBA := Lib.hid hba
  generalize recsR l k = R at *
  generalize nextR l k = r at *
  obtain ⟨n, p, er⟩ := r
  clear hbb hba hfz hB hk hc hm
  go_enter Tryd.func20, Tryd.ntmps20
  go_wp2_with fail
  refine H0.out.mono ?_
  rintro e w1 ⟨rfl, hset, hb1⟩
  rcases HC0.out with ⟨h1, h2, h3, h4⟩ | ⟨h1, h2⟩ | ⟨h1, h2⟩
  · obtain rfl : er = 0 := h1
    have hs1 : w1 = w.setCell ⟨ba, 0, none⟩ (.int .i64 (p : Nat)) := hset rfl
    have hp : p ≤ l.length := h3
    have hc1 : w1.cell? ⟨ba, 0, none⟩ = some (.int .i64 (p : Nat)) := by rw [hs1]; exact World.cell?_setCell_same' _ _ _ (by rw [HBA.out]; rfl)
    have hf1 : w1.frozen? ⟨ba, 0, none⟩ = false := by rw [hs1, World.frozen?_setCell]; exact HFZ.out
    have hn63 : (n : Int) ≤ 9223372036854775807 := by have : n < 9223372036854775808 := h4; omega
    have hz1 : w.heap.size ≤ w1.heap.size := hb1.size
    have HRR : Hid (R = recsGo l n p []) := Lib.hid HR.out
    clear h2 h3 h4 hset hs1
    have HN63 := Lib.hid hn63
    clear hn63
    go_wp2_with fail
    go_loopw [6, 19] (fun lv i wr => ∃ (j q : Nat) (rs : List (Int × Int)), j ≤ n ∧ i = .int .i64 (j : Nat) ∧ Hid (recsGo l n p [] = recsGo l (n - j) q rs) ∧ q ≤ l.length ∧ 2 * rs.length ≤ q ∧ OwnR 44 w.heap.size wr lv rs ∧ Hid (Below ba w wr) ∧ wr.cell? ⟨ba, 0, none⟩ = some (.int .i64 (q : Nat)) ∧ wr.frozen? ⟨ba, 0, none⟩ = false) (fun _ i _ => n - (intOf i).toNat)
    case atStart => exact ⟨0, p, [], by omega, rfl, rfl, hp, by simp, OwnR.nil _ _ _, Lib.hid hb1, hc1, hf1⟩
    case round =>
      obtain ⟨j, q, rs, hj, rfl, hgo, hq, hrs, hown, hbr, hcr, hfr⟩ := hrel
      by_cases hjn : j < n
      · have hjn2 : (j : Int) < (n : Int) := by omega
        have HG := Lib.hid (HN.out q wr hbr.out hq hcr hfr)
        have hfx : n - j = (n - (j + 1)) + 1 := by omega
        rw [hfx] at hgo
        have HE := Lib.hid (hgo.out.trans (recsGo_more l (n - (j + 1)) q rs))
        have hC1 := nextR_cases l q hq
        clear hfx hgo
        generalize nextR l q = r1 at *
        obtain ⟨n1, p1, e1⟩ := r1
        go_wp2_with fail
        refine HG.out.mono ?_
        rintro e w2 ⟨rfl, hset2, hb2⟩
        have hbr2 := Lib.hid (hbr.out.trans hb2)
        rcases hC1 with ⟨h1, h2, h3, h4⟩ | ⟨h1, h2⟩ | ⟨h1, h2⟩
        · obtain rfl : e1 = 0 := h1
          have hs2 : w2 = wr.setCell ⟨ba, 0, none⟩ (.int .i64 (p1 : Nat)) := hset2 rfl
          have hp1 : p1 ≤ l.length := h3
          have hqp : q < p1 := h2
          have hc2 : w2.cell? ⟨ba, 0, none⟩ = some (.int .i64 (p1 : Nat)) := by rw [hs2]; exact World.cell?_setCell_same' _ _ _ (by rw [hcr]; rfl)
          have hf2 : w2.frozen? ⟨ba, 0, none⟩ = false := by rw [hs2, World.frozen?_setCell]; exact hfr
          have hown2 := hown.set (p := ⟨ba, 0, none⟩) hla (.int .i64 (p1 : Nat))
          rw [← hs2] at hown2
          have hn1 : n1 < 9223372036854775808 := h4
          have HU := Lib.hid (ix_unpadded (n1 : Nat) w2 (by omega) (by omega))
          have HG2 := Lib.hid (HN.out p1 w2 hbr2.out hp1 hc2 hf2)
          have HE2 : Hid (recsGo l n p [] = if fitsU (n1 : Nat) = false then ([], 0, 8) else if (nextR l p1).2.2 ≠ 0 then ([], 0, (nextR l p1).2.2) else recsGo l (n - (j + 1)) (nextR l p1).2.1 (rs ++ [((n1 : Int), (((nextR l p1).1 : Nat) : Int))])) := Lib.hid HE.out
          have hC2 := nextR_cases l p1 hp1
          generalize nextR l p1 = r2 at *
          generalize fitsU (n1 : Nat) = fu at *
          obtain ⟨n2, p2, e2⟩ := r2
          clear hs2 hset2 h2 h3 h4 hb2 hn1 hown HE hcr hfr HG
          go_wp2_with fail
          refine HU.out.mono ?_
          rintro e _ ⟨rfl, rfl⟩
          cases fu with
          | false =>
            have HF : Hid (R = ([], 0, 8)) := Lib.hid (by rw [HRR.out, HE2.out]; rfl)
            clear hC2
            go_wp2_with fail
            go_ret2
            exact ⟨_, by rw [HF.out]; rfl, hbr2.out, fun _ => rfl, fun h => absurd (show (8 : Nat) = 0 by rw [HF.out] at h; exact h) (by decide)⟩
          | true =>
            go_wp2_with fail
            refine HG2.out.mono ?_
            rintro e w3 ⟨rfl, hset3, hb3⟩
            have hbr3 := Lib.hid (hbr2.out.trans hb3)
            rcases hC2 with ⟨h1, h2, h3, h4⟩ | ⟨h1, h2⟩ | ⟨h1, h2⟩
            · obtain rfl : e2 = 0 := h1
              have hs3 : w3 = w2.setCell ⟨ba, 0, none⟩ (.int .i64 (p2 : Nat)) := hset3 rfl
              have hp2 : p2 ≤ l.length := h3
              have hqp2 : p1 < p2 := h2
              have hc3 : w3.cell? ⟨ba, 0, none⟩ = some (.int .i64 (p2 : Nat)) := by rw [hs3]; exact World.cell?_setCell_same' _ _ _ (by rw [hc2]; rfl)
              have hf3 : w3.frozen? ⟨ba, 0, none⟩ = false := by rw [hs3, World.frozen?_setCell]; exact hf2
              have hown3 := hown2.set (p := ⟨ba, 0, none⟩) hla (.int .i64 (p2 : Nat))
              rw [← hs3] at hown3
              have HE3 : Hid (recsGo l n p [] = recsGo l (n - (j + 1)) p2 (rs ++ [((n1 : Int), (n2 : Int))])) := Lib.hid (by rw [HE2.out, if_neg (fun h => by cases h), if_neg (fun h => h rfl)])
              have hz3 : w.heap.size ≤ w3.heap.size := hbr3.out.size
              have hownA := hown3.alloc (.cells #[.int .i64 (n1 : Nat), .int .i64 (n2 : Nat)] 44)
              have hl0 : (w3.alloc (.cells #[.int .i64 (n1 : Nat), .int .i64 (n2 : Nat)] 44)).cell? ⟨w3.heap.size, 0, none⟩ = some (.int .i64 ((n1 : Int), (n2 : Int)).1) := by simp
              have hl1 : (w3.alloc (.cells #[.int .i64 (n1 : Nat), .int .i64 (n2 : Nat)] 44)).cell? ⟨w3.heap.size, 1, none⟩ = some (.int .i64 ((n1 : Int), (n2 : Int)).2) := by simp
              have hsA : w.heap.size ≤ (w3.alloc (.cells #[.int .i64 (n1 : Nat), .int .i64 (n2 : Nat)] 44)).heap.size := by simp; omega
              have hbA := Lib.hid (hbr3.out.alloc (Nat.le_trans (Nat.le_of_lt hla) hz3) (.cells #[.int .i64 (n1 : Nat), .int .i64 (n2 : Nat)] 44))
              have hla3 : ba < w3.heap.size := by omega
              have hcA : (w3.alloc (.cells #[.int .i64 (n1 : Nat), .int .i64 (n2 : Nat)] 44)).heap[ba]? = w3.heap[ba]? := Below.heap_alloc _ _ _ hla3
              have HK := Lib.hid (And.intro hc3 (And.intro hf3 hcA))
              have HL := Lib.hid (And.intro hl0 hl1)
              clear hs3 hset3 h2 h3 h4 hb3 hc2 hf2 hown2 HE2 hc3 hf3 hcA hl0 hl1 hown3
              have hj63 : (j : Int) + 1 ≤ 9223372036854775807 := by have := HN63.out; omega
              have hj0 : (0 : Int) ≤ (j : Int) := by omega
              go_wp2_with (refine wpList_append_rec elemRec rfl _ _ rfl w.heap.size _ u6 rs rfl hownA w3.heap.size 1 ((n1 : Int), (n2 : Int)) rfl HL.out.1 HL.out.2 (by omega) (by omega) hsA ?_; intro v' w4 hownB hgB)
              have hbB : Below ba w w4 := below_grown hbA.out hgB (Nat.le_trans (Nat.le_of_lt hla) hsA) (fun g e => Nat.le_trans (Nat.le_of_lt hla) (hownA.lt g e).1)
              have hblk : w4.heap[ba]? = w3.heap[ba]? := (hgB.block ba (Nat.lt_of_lt_of_le hla hsA) (fun e => absurd (hownA.lt ba e.symm).1 (Nat.not_le_of_lt hla))).trans HK.out.2.2
              exact ⟨⟨j + 1, p2, rs ++ [((n1 : Int), (n2 : Int))], by omega, by go_num, HE3, hp2, by simp; omega, hownB, Lib.hid hbB, (World.cell?_of_block (a := ⟨ba, 0, none⟩) hblk).trans HK.out.1, (World.frozen?_of_block (a := ⟨ba, 0, none⟩) hblk).trans HK.out.2.1⟩, by simp [intOf]; omega⟩
            · obtain rfl : e2 = 2 := h1
              have HF : Hid (R = ([], 0, 2)) := Lib.hid (by rw [HRR.out, HE2.out]; rfl)
              clear hset3 hb3
              go_wp2_with fail
              go_ret2
              exact ⟨_, by rw [HF.out]; rfl, hbr3.out, fun _ => rfl, fun h => absurd (show (2 : Nat) = 0 by rw [HF.out] at h; exact h) (by decide)⟩
            · obtain rfl : e2 = 8 := h1
              have HF : Hid (R = ([], 0, 8)) := Lib.hid (by rw [HRR.out, HE2.out]; rfl)
              clear hset3 hb3
              go_wp2_with fail
              go_ret2
              exact ⟨_, by rw [HF.out]; rfl, hbr3.out, fun _ => rfl, fun h => absurd (show (8 : Nat) = 0 by rw [HF.out] at h; exact h) (by decide)⟩
        · obtain rfl : e1 = 2 := h1
          have HF : Hid (R = ([], 0, 2)) := Lib.hid (by rw [HRR.out, HE.out]; rfl)
          clear hset2 hb2
          go_wp2_with fail
          go_ret2
          exact ⟨_, by rw [HF.out]; rfl, hbr2.out, fun _ => rfl, fun h => absurd (show (2 : Nat) = 0 by rw [HF.out] at h; exact h) (by decide)⟩
        · obtain rfl : e1 = 8 := h1
          have HF : Hid (R = ([], 0, 8)) := Lib.hid (by rw [HRR.out, HE.out]; rfl)
          clear hset2 hb2
          go_wp2_with fail
          go_ret2
          exact ⟨_, by rw [HF.out]; rfl, hbr2.out, fun _ => rfl, fun h => absurd (show (8 : Nat) = 0 by rw [HF.out] at h; exact h) (by decide)⟩
      · obtain rfl : j = n := by omega
        have HF : Hid (R = (rs, q, 0)) := Lib.hid (by rw [HRR.out, hgo.out, Nat.sub_self]; rfl)
        clear hgo hjn
        go_wp2_with fail
        go_ret2
        exact ⟨_, by rw [HF.out]; rfl, hbr.out, fun h => absurd (show (0 : Nat) = 0 from rfl) (by rw [HF.out] at h; exact h), fun _ => ⟨by rw [HF.out]; exact hown, by rw [HF.out]; exact hcr⟩⟩
  · obtain rfl : er = 2 := h1
    have HRR : Hid (R = ([], 0, 2)) := Lib.hid HR.out
    clear hset
    go_wp2_with fail
    go_ret2
    exact ⟨_, by rw [HRR.out]; rfl, hb1, fun _ => rfl, fun h => absurd (show (2 : Nat) = 0 by rw [HRR.out] at h; exact h) (by decide)⟩
  · obtain rfl : er = 8 := h1
    have HRR : Hid (R = ([], 0, 8)) := Lib.hid HR.out
    clear hset
    go_wp2_with fail
    go_ret2
    exact ⟨_, by rw [HRR.out]; rfl, hb1, fun _ => rfl, fun h => absurd (show (8 : Nat) = 0 by rw [HRR.out] at h; exact h) (by decide)⟩
end Go.Proofs.YthfmhjpmcapcbaaDoor
