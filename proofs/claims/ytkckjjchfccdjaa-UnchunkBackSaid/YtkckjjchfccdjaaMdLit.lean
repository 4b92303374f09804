/- The model's literal. -/
import Derived.Test.YtkckjjchfccdjaaMg1
import Derived.Test.YtkckjjchfccdjaaMg9
import Derived.Laws.BitsAllLaws
namespace Go.Proofs.Ytkckjjchfccdjaa
set_option maxRecDepth 100000
open Go.RowKit

theorem u8_bit (x : UInt8) (j : Nat) : (bits .and .u8 ((x.toNat : Nat) / 2 ^ j) 1 == 1) = Md.bitOf (x.toNat : Nat) j := by
  have hle : x.toNat / 2 ^ j ≤ x.toNat := Nat.div_le_self _ _
  have hx := x.toNat_lt
  have e : ((x.toNat : Nat) : Int) / 2 ^ j = ((x.toNat / 2 ^ j : Nat) : Int) := by simp
  unfold Md.bitOf
  rw [e, show (1 : Int) = ((1 : Nat) : Int) from rfl, u8_and_nat _ _ (by omega) (by omega), nat_mask1, Bool.eq_iff_iff]
  simp
namespace Md
/-- A literal's bits: T, the first of its chances. -/
def litGo (io : Io) (T like : Nat) (v : Int) : Nat → Nat → Bool → io.S → Nat × io.S
  | 0, m, _, x => (m, x)
  | n + 1, m, al, x =>
    litGo io T like v n (2 * m + (io.bitAt (T + (if al then m + (256 + 256 * (like / 2 ^ n % 2)) else m)) (bitOf v n) x).1.toNat) (al && ((io.bitAt (T + (if al then m + (256 + 256 * (like / 2 ^ n % 2)) else m)) (bitOf v n) x).1.toNat == like / 2 ^ n % 2))
      (io.bitAt (T + (if al then m + (256 + 256 * (like / 2 ^ n % 2)) else m)) (bitOf v n) x).2
/-- The byte so far back. -/
def likeN (H : List UInt8) (a : Int) : Nat := if a ≤ (H.length : Int) then (H.getD (H.length - a.toNat) 0).toNat else 0
def lit (io : Io) (lc lp st : Nat) (a : Int) (H : List UInt8) (v : Int) (x : io.S) : UInt8 × io.S :=
  (UInt8.ofNat (litGo io (2180 + 768 * ctxN lc lp H) (likeN H a) v 8 1 (decide (7 ≤ st)) x).1, (litGo io (2180 + 768 * ctxN lc lp H) (likeN H a) v 8 1 (decide (7 ≤ st)) x).2)
theorem likeN_lt (H : List UInt8) (a : Int) : likeN H a < 256 := by
  unfold likeN
  split
  · exact (H.getD _ 0).toNat_lt
  · decide
end Md
set_option maxRecDepth 100000 in
set_option maxHeartbeats 2000000 in
theorem lit_is (io : Io) {C L lc lp pb st : Nat} {r : R4} {x : io.S} {X : List Nat} {w : World} (hM : MS io w C L lc lp pb st r x X) (hlc : lc ≤ 4) (hlp : lp ≤ 4) (hst : st < 12) (hr : 1 ≤ r.1) {k : Nat} (A : Option Addr) (H : List UInt8) (c : Nat) (hB : Bytes w A H) (hc : H.length ≤ c) (hH : H.length ≤ 1000000000)
    (kk : Int) (b : UInt8) (l d q : Int) {R : UInt8} {Z : io.S} (hR : Md.lit io lc lp st r.1 H (b.toNat : Nat) x = (R, Z)) (hok : io.ok x.2 (k + 8)) :
    Calls Try.prog 89 #[PF C, io.v, .slice A H.length c, SyV kk b l d q] w (MAnd (io.ok Z.2 k) (MDone (SyV 0 R 0 0 0) io C L lc lp pb (litState st) r Z X w)) := by
  obtain ⟨ls, hls⟩ : ∃ ls, litState st = ls := ⟨_, rfl⟩
  rw [hls]
  have HLSS := Lib.hid hls
  clear hls
  obtain ⟨bs, hbs⟩ : ∃ bs, w.heap.size + 1 = bs := ⟨_, rfl⟩
  have HBS := Lib.hid hbs
  clear hbs
  have hHi : (H.length : Int) ≤ 1000000000 := by omega
  have hci : (H.length : Int) ≤ (c : Int) := by omega
  obtain ⟨W1, hW1⟩ : ∃ W1, (w.alloc (.cells #[.int .i64 kk, .int .u8 (b.toNat : Nat), .int .i64 l, .int .i64 d, .int .i64 q] 99)).alloc (.cells #[.int .i64 0, .int .u8 0, .int .i64 0, .int .i64 0, .int .i64 0] 99) = W1 := ⟨_, rfl⟩
  have HOUT : Hid (∀ i ∈ C :: L :: X, i < w.heap.size) := Lib.hid (by
    intro i hi
    simp only [List.mem_cons] at hi
    rcases hi with rfl | rfl | hi
    · exact hM.mod.clt
    · exact hM.mod.llt
    · exact io.lt hM.io i hi)
  have hb1 : Below w.heap.size w W1 := by rw [← hW1]; exact ((Below.refl _ _).alloc (Nat.le_refl _) _).alloc (by simp) _
  have hM1 := hM.below hb1
  have HW1 := Lib.hid hW1
  have HM1 := Lib.hid hM1
  have hlitc := hM1.mod.lit
  have hlit : ∀ w', Below W1.heap.size W1 w' → w'.cell? ⟨C, 440, none⟩ = some (.slice (some ⟨L, 0, none⟩) (2 ^ (lc + lp) : Nat) (2 ^ (lc + lp) : Nat)) := fun w' h => (h.cell (p := ⟨C, 440, none⟩) hM1.mod.clt).trans hlitc
  have HLIT := Lib.hid hlit
  have HBY := Lib.hid (hB.below hb1)
  have hck := ctxN_lt (lp := lp) H (show lc ≤ 8 by omega)
  obtain ⟨K, hK⟩ : ∃ K, ctxN lc lp H = K := ⟨_, rfl⟩
  have HCTX := Lib.hid (fun (n : Nat) => show Calls Try.prog 98 #[PF C, .slice A H.length c] (W1.drewN n) (Tells (.int .i64 (K : Nat)) (W1.drewN n)) from by
    rw [← hK]
    exact ctx_any (HM1.out.drewN n).mod hlc hlp A H c (HBY.out.drewN n) hc hH)
  rw [hK] at hck
  unfold Md.lit at hR
  rw [hK] at hR
  injection hR with hR1 hR2
  have HR := Lib.hid (And.intro hR1 hR2)
  have HB1 := Lib.hid hb1
  have hcki : (K : Int) < ((2 ^ (lc + lp) : Nat) : Int) := by omega
  have h2s : 2 ^ (lc + lp) ≤ 2 ^ 8 := Nat.pow_le_pow_right (by omega) (by omega)
  have HCK := Lib.hid (And.intro hck h2s)
  obtain ⟨N2, hN2⟩ : ∃ N, 2 ^ (lc + lp) = N := ⟨_, rfl⟩
  have HN2 := Lib.hid hN2
  rw [hN2] at HLIT hcki
  clear hW1 hM1 hlitc hlit hB hb1 hK hck hR1 hR2 h2s hM hN2
  have hdr : Below W1.heap.size W1 (W1.drewN 1) := below_drewN (Below.refl _ _) _
  go_enter Try.func89, Try.ntmps89
  go_upto_region 1 with fail
  rw [HW1.out, HBS.out]
  refine wp_region_held_drew (S := fun w2 => Below W1.heap.size W1 w2) (by kernel_rfl) hdr (fun hS => ?_)
  refine tk 0 (v := ?vli1) ?yli1 hS ?_
  case yli1 =>
    intro w hSw
    go_simp; all_goals (with_reducible rfl)
  simp only [Act.put, List.setIfInBounds_toArray, List.set_cons_zero, List.set_cons_succ]
  refine tk 1 (v := ?vli2) ?yli2 hS ?_
  case yli2 =>
    intro w hSw
    go_simp; all_goals (with_reducible rfl)
  simp only [Act.put, List.setIfInBounds_toArray, List.set_cons_zero, List.set_cons_succ]
  refine tk 2 (v := ?vli3) ?yli3 hS ?_
  case yli3 =>
    intro w hSw
    go_simp; all_goals (with_reducible rfl)
  simp only [Act.put, List.setIfInBounds_toArray, List.set_cons_zero, List.set_cons_succ]
  refine tk 3 (v := ?vli4) ?yli4 hS ?_
  case yli4 =>
    intro w hSw
    have q1 := HLIT.out w hSw
    go_simp; all_goals (with_reducible rfl)
  simp only [Act.put, List.setIfInBounds_toArray, List.set_cons_zero, List.set_cons_succ]
  refine tk 4 (v := ?vli5) ?yli5 hS ?_
  case yli5 =>
    intro w hSw
    go_simp; all_goals (with_reducible rfl)
  simp only [Act.put, List.setIfInBounds_toArray, List.set_cons_zero, List.set_cons_succ]
  refine tk 5 (v := ?vli6) ?yli6 hS ?_
  case yli6 =>
    intro w hSw
    go_simp; all_goals (with_reducible rfl)
  simp only [Act.put, List.setIfInBounds_toArray, List.set_cons_zero, List.set_cons_succ]
  refine wpAnyH_ready (rs := [6]) (by kernel_rfl) (by simp) ?_
  refine (AllReadyH.cons (o := { dst := some 24, op := Op.call { callee := Callee.value (Operand.func 98), args := #[Operand.tmp 22, Operand.tmp 23], argTypes := #[41, 22] }, type := 3, pos := "model.go:114", after := #[{ on := 4, ground := Ground.data }, { on := 5, ground := Ground.data }], guard := none }) rfl (fun K hK => ?_) AllReadyH.nil)
  go_simp
  refine (HCTX.out _).mono ?_
  rintro e x4 ⟨rfl, kb4⟩
  have g4 := hdr.trans (kb4.mono hdr.size)
  go_wp2_with fail
  refine hK.out _ _ g4 (fun _ => ?_)
  clear hK K
  refine tk 7 (v := ?vli7) ?yli7 g4 ?_
  case yli7 =>
    intro w hSw
    go_simp; all_goals (with_reducible rfl)
  simp only [Act.put, List.setIfInBounds_toArray, List.set_cons_zero, List.set_cons_succ]
  refine tk 8 (v := ?vli8) ?yli8 g4 ?_
  case yli8 =>
    intro w hSw
    go_simp; all_goals (with_reducible rfl)
  simp only [Act.put, List.setIfInBounds_toArray, List.set_cons_zero, List.set_cons_succ]
  refine tk 9 (v := ?vli9) ?yli9 g4 ?_
  case yli9 =>
    intro w hSw
    go_simp; all_goals (with_reducible rfl)
  simp only [Act.put, List.setIfInBounds_toArray, List.set_cons_zero, List.set_cons_succ]
  refine wpAnyH_done (by kernel_rfl) ?_ _

  have HM4 := Lib.hid (HM1.out.below g4)
  have HG4 := Lib.hid (HB1.out.trans (g4.mono HB1.out.size))
  have HBY4 := Lib.hid (HBY.out.below g4)
  have HW4 : Hid (W1.heap.size ≤ x4.heap.size) := Lib.hid g4.size
  have hbx : W1.cell? ⟨w.heap.size, 1, none⟩ = some (.int .u8 (b.toNat : Nat)) := by
    have h : W1.heap[w.heap.size]? = some (.cells [Value.int .i64 kk, .int .u8 (b.toNat : Nat), .int .i64 l, .int .i64 d, .int .i64 q].toArray 99 (0, 0)) := by
      rw [← HW1.out]; exact (Below.heap_alloc _ _ _ (by simp)).trans (heap_alloc_last w _)
    rw [cell_of_row W1 _ _ _ _ _ h]; rfl
  have HBX : Hid (x4.cell? ⟨w.heap.size, 1, none⟩ = some (.int .u8 (b.toNat : Nat))) := Lib.hid ((g4.cell (p := ⟨w.heap.size, 1, none⟩) (by rw [← HW1.out]; simp; omega)).trans hbx)
  have HRS : Hid (x4.heap[bs]? = some (.cells [Value.int .i64 0, .int .u8 0, .int .i64 0, .int .i64 0, .int .i64 0].toArray 99 (0, 0))) := Lib.hid (by rw [← HBS.out]; exact (g4.block _ (by rw [← HW1.out]; simp)).trans (by rw [← HW1.out]; have h := heap_alloc_last (w.alloc (.cells #[.int .i64 kk, .int .u8 (b.toNat : Nat), .int .i64 l, .int .i64 d, .int .i64 q] 99)) (.cells #[.int .i64 0, .int .u8 0, .int .i64 0, .int .i64 0, .int .i64 0] 99); simpa using h))
  obtain ⟨_, _, _, c3, c4, _⟩ := HM4.out.mod.cells
  obtain ⟨LK, hLK⟩ : ∃ LK, Md.likeN H r.1 = LK := ⟨_, rfl⟩
  have hLK256 : LK < 256 := by rw [← hLK]; exact Md.likeN_lt H r.1
  have HLK := Lib.hid hLK
  rw [hLK] at HR
  clear hS g4 kb4 hdr hbx hLK HCTX HLIT HM1
  go_upto_if 35 with fail
  go_cut [10] (fun s10 wx => x4 = wx ∧ s10 = .int .i64 (LK : Nat))
  case first =>
    by_cases hback : r.1 ≤ (H.length : Int)
    · obtain ⟨z, hz⟩ : ∃ z : Nat, (H.length : Int) - r.1 = (z : Int) := ⟨((H.length : Int) - r.1).toNat, by omega⟩
      have hzl : (z : Int) < (H.length : Int) := by omega
      obtain ⟨bb, off, rfl, _, hat⟩ := HBY4.out.addr (by omega)
      have cx := hat z (by omega)
      rw [← getD_of] at cx
      have HLK2 : Hid (((H.getD z 0).toNat : Int) = (LK : Int)) := Lib.hid (by
        rw [← HLK.out]
        unfold Md.likeN
        rw [if_pos hback, show H.length - r.1.toNat = z by omega])
      generalize H.getD z 0 = u at *
      clear hat
      go_wp2_with fail
      go_meet
      exact ⟨rfl, congrArg (Value.int .i64) (by rw [← HLK2.out]; exact wrap64_of (by omega) (by have := u.toNat_lt; omega))⟩
    · have HLK2 : Hid ((0 : Int) = (LK : Int)) := Lib.hid (by
        rw [← HLK.out]
        unfold Md.likeN
        rw [if_neg hback]; rfl)
      go_wp2_with fail
      go_meet
      exact ⟨rfl, congrArg (Value.int .i64) HLK2.out⟩
  case rest =>
    obtain ⟨rfl, rfl⟩ := hcut
    have hone := fun y => i64_and_one y
    have hub := fun j => u8_bit b j
    have HCK' : Hid (768 * K + 768 ≤ 768 * 2 ^ (lc + lp)) := Lib.hid (by have := HCK.out.1; rw [HN2.out] at this ⊢; omega)
    go_upto_region 8 with fail
    have hst7 : (decide ((7 : Int) ≤ (st : Int))) = decide (7 ≤ st) := decide_eq_decide.2 (by omega)
    rw [hst7]
    obtain ⟨AL, hAL⟩ : ∃ AL, decide (7 ≤ st) = AL := ⟨_, rfl⟩
    rw [hAL] at HR ⊢
    clear hst7 hAL c3 c4
    go_wp2_with fail
    go_loopw [12, 13, 14] (fun as_ ms i wr => ∃ (j m : Nat) (al : Bool) (x' : io.S) (X' : List Nat), j ≤ 8 ∧ as_ = .bool al ∧ ms = .int .i64 (m : Nat) ∧ i = .int .i64 ((j : Int) - 1) ∧ 2 ^ (8 - j) ≤ m ∧ m < 2 ^ (8 - j) * 2 ∧ Hid (io.ok x'.2 (k + j)) ∧ Hid (Md.litGo io (2180 + 768 * K) LK (b.toNat : Nat) j m al x' = Md.litGo io (2180 + 768 * K) LK (b.toNat : Nat) 8 1 AL x) ∧ Hid (MS io wr C L lc lp pb st r x' X' ∧ Only (C :: L :: X) x4 wr ∧ ∀ i ∈ X', i ∈ X ∨ x4.heap.size ≤ i)) (fun _ _ i _ => (intOf i + 1).toNat)
    case atStart => exact ⟨8, 1, AL, x, X, Nat.le_refl _, rfl, rfl, by go_num, by decide, by decide, Lib.hid hok, Lib.hid rfl, Lib.hid ⟨HM4.out, Only.refl _ _, fun i hi => .inl hi⟩⟩
    case round =>
      obtain ⟨j, m, al, x', X', hj, rfl, rfl, rfl, hm1, hm2, HOK, HT, HM⟩ := hrel
      have hbo : w.heap.size ∉ C :: L :: X := fun h => by have := HOUT.out _ h; omega
      cases j with
      | zero =>
        have HRR : Hid (Z = x' ∧ R = UInt8.ofNat m) := Lib.hid (by
          have h := HR.out
          rw [← HT.out] at h
          exact ⟨h.2.symm, h.1.symm⟩)
        obtain ⟨_, _, _, c3, _⟩ := HM.out.1.mod.cells
        have f3 := HM.out.1.mod.frozenC 3
        have hLS := litState_any st hst wr
        rw [HLSS.out] at hLS
        have HLS := Lib.hid hLS
        have hw4 := HG4.out.size
        have hrs := (HM.out.2.1.block (bs) (by have := (Array.getElem?_eq_some_iff.1 HRS.out).1; exact this) (fun h => by have := HOUT.out _ h; have := HBS.out; omega)).trans HRS.out
        have z0 : wr.cell? ⟨bs, 0, none⟩ = some (.int .i64 0) := by rw [cell_of_row wr _ _ _ _ _ hrs]; rfl
        have z1 : wr.cell? ⟨bs, 1, none⟩ = some (.int .u8 0) := by rw [cell_of_row wr _ _ _ _ _ hrs]; rfl
        have z2 : wr.cell? ⟨bs, 2, none⟩ = some (.int .i64 0) := by rw [cell_of_row wr _ _ _ _ _ hrs]; rfl
        have z3 : wr.cell? ⟨bs, 3, none⟩ = some (.int .i64 0) := by rw [cell_of_row wr _ _ _ _ _ hrs]; rfl
        have z4 : wr.cell? ⟨bs, 4, none⟩ = some (.int .i64 0) := by rw [cell_of_row wr _ _ _ _ _ hrs]; rfl
        have zf : ∀ i, wr.frozen? ⟨bs, i, none⟩ = false := fun i => frozen_of_row _ _ _ _ _ hrs
        have zf0 := zf 0
        have zf1 := zf 1
        have zf2 := zf 2
        have zf3 := zf 3
        have zf4 := zf 4
        have ne1 : C ≠ bs := fun e => by have := HOUT.out C (by simp); have := HBS.out; omega
        have ne2 : bs ≠ C := fun e => ne1 e.symm
        clear hLS hw4 hrs zf
        go_wp2_with fail
        refine HLS.out.mono ?_
        rintro e w2 ⟨rfl, rfl⟩
        have hRv : ((R.toNat : Nat) : Int) = (m : Int) % 256 := by rw [HRR.out.2, UInt8.toNat_ofNat']; simp
        go_wp2_with fail
        refine bodyPost_ret (v := SyV 0 R 0 0 0) (by simp [results, Try.results89, go_sem, hRv, z0, z1, z2, z3, z4]) rfl ⟨⟨rfl, X', ?_, ?_, ?_⟩, ?_⟩
        · have hbs := HBS.out
          have hx4 := (Array.getElem?_eq_some_iff.1 HRS.out).1
          have hbX : bs ∉ C :: L :: X' := fun h => by
            simp only [List.mem_cons] at h
            rcases h with h | h | h
            · exact ne2 h
            · have := HOUT.out L (by simp); omega
            · rcases HM.out.2.2 _ h with h | h
              · have := HOUT.out bs (by simp [h]); omega
              · omega
          rw [HRR.out.1]
          exact (((((HM.out.1.setHead (k := 3) (st' := ls) (r' := r) (by decide) rfl).setFar hbX _).setFar hbX _).setFar hbX _).setFar hbX _).setFar hbX _
        · have hbs := HBS.out
          have h0 : Only (C :: L :: X) w wr := (Only.of_below HG4.out).trans HM.out.2.1 (fun i hi => .inl hi)
          have hn : bs ∈ C :: L :: X ∨ w.heap.size ≤ bs := .inr (by omega)
          exact (((((h0.setCell (p := ⟨C, 3, none⟩) (.inl (by simp)) _).setCell (p := ⟨bs, 0, none⟩) hn _).setCell (p := ⟨bs, 1, none⟩) hn _).setCell (p := ⟨bs, 2, none⟩) hn _).setCell (p := ⟨bs, 3, none⟩) hn _).setCell (p := ⟨bs, 4, none⟩) hn _
        · intro i hi
          rcases HM.out.2.2 i hi with h | h
          · exact .inl h
          · exact .inr (Nat.le_trans HG4.out.size h)
        · rw [HRR.out.1]; exact HOK.out
      | succ j =>
        have hbxr : wr.cell? ⟨w.heap.size, 1, none⟩ = some (.int .u8 (b.toNat : Nat)) := cell_only HM.out.2.1 hbo HBX.out
        have hm256 : m < 256 := by
          have e : 2 ^ (8 - (j + 1)) * 2 = 2 ^ (8 - j) := by rw [← Nat.pow_succ]; congr 1; omega
          have : 2 ^ (8 - j) ≤ 2 ^ 8 := Nat.pow_le_pow_right (by omega) (by omega)
          omega
        obtain ⟨lb, hlb'⟩ : ∃ lb, LK / 2 ^ j % 2 = lb := ⟨_, rfl⟩
        have hlb01 : lb = 0 ∨ lb = 1 := by omega
        have hlb : (LK : Int) / 2 ^ j % 2 = (lb : Int) := by rw [← hlb']; simp
        obtain ⟨jj, hjj⟩ : ∃ jj, (if al then m + (256 + 256 * lb) else m) = jj := ⟨_, rfl⟩
        have hjjl : jj < 768 := by rw [← hjj]; split <;> omega
        obtain ⟨⟨B, y⟩, hz⟩ : ∃ z, io.bitAt (2180 + 768 * K + jj) (Md.bitOf (b.toNat : Nat) j) x' = z := ⟨_, rfl⟩
        obtain ⟨h1, ok1⟩ := bit_is io HM.out.1 hz (at_ := 2180 + 768 * K) (j := jj) (len := 768) (cp := 768) (b := L) (off := K * 768) rfl (k := k + j) HOK.out (Md.seg_lits (by omega) (by have := HCK'.out; omega)) hjjl (by omega) (by omega)
        have HT2 : Hid (Md.litGo io (2180 + 768 * K) LK (b.toNat : Nat) j (2 * m + B.toNat) (al && (B.toNat == lb)) y = Md.litGo io (2180 + 768 * K) LK (b.toNat : Nat) 8 1 AL x) := Lib.hid (by
          rw [← HT.out]
          conv => rhs; unfold Md.litGo
          rw [hlb', hjj, hz])
        have H1 := Lib.hid h1
        have HOK1 := Lib.hid ok1
        have HB1 := Lib.hid hm1
        have HB2 := Lib.hid hm2
        have hmi : (m : Int) < 256 := by omega
        have hj8 : (j : Int) < 8 := by omega
        have h2 : ∀ B : Bool, B.toNat ≤ 1 := fun B => by cases B <;> decide
        have e2 : 2 ^ (8 - j) = 2 ^ (8 - (j + 1)) * 2 := by rw [← Nat.pow_succ]; congr 1; omega
        have HE2 := Lib.hid e2
        clear h1 ok1 hm1 hm2 hz hlb' hm256 e2
        cases al
        case false =>
          simp only [Bool.false_eq_true, if_false] at hjj
          subst hjj
          rcases hlb01 with rfl | rfl
          · skip
            go_wp2_with fail
            refine H1.out.mono ?_
            rintro e w2 ⟨rfl, hw2⟩
            have HW2 := Lib.hid (Went.trans HM.out.2.1 HM.out.2.2 hw2)
            clear hw2
            cases B
            case false =>
              rw [show bitI false = 0 from rfl]
              go_wp2_with fail
              obtain ⟨X3, hM3, hon3, hX3⟩ := HW2.out
              exact ⟨⟨j, 2 * m + 0, false, y, X3, by omega, rfl, by go_num, by go_num, by have := HB1.out; have := HE2.out; omega, by have := HB2.out; have := HE2.out; omega, HOK1, HT2, Lib.hid ⟨hM3, hon3, hX3⟩⟩, by simp [intOf] <;> omega⟩
            case true =>
              rw [show bitI true = 1 from rfl]
              go_wp2_with fail
              obtain ⟨X3, hM3, hon3, hX3⟩ := HW2.out
              exact ⟨⟨j, 2 * m + 1, false, y, X3, by omega, rfl, by go_num, by go_num, by have := HB1.out; have := HE2.out; omega, by have := HB2.out; have := HE2.out; omega, HOK1, HT2, Lib.hid ⟨hM3, hon3, hX3⟩⟩, by simp [intOf] <;> omega⟩
          · skip
            go_wp2_with fail
            refine H1.out.mono ?_
            rintro e w2 ⟨rfl, hw2⟩
            have HW2 := Lib.hid (Went.trans HM.out.2.1 HM.out.2.2 hw2)
            clear hw2
            cases B
            case false =>
              rw [show bitI false = 0 from rfl]
              go_wp2_with fail
              obtain ⟨X3, hM3, hon3, hX3⟩ := HW2.out
              exact ⟨⟨j, 2 * m + 0, false, y, X3, by omega, rfl, by go_num, by go_num, by have := HB1.out; have := HE2.out; omega, by have := HB2.out; have := HE2.out; omega, HOK1, HT2, Lib.hid ⟨hM3, hon3, hX3⟩⟩, by simp [intOf] <;> omega⟩
            case true =>
              rw [show bitI true = 1 from rfl]
              go_wp2_with fail
              obtain ⟨X3, hM3, hon3, hX3⟩ := HW2.out
              exact ⟨⟨j, 2 * m + 1, false, y, X3, by omega, rfl, by go_num, by go_num, by have := HB1.out; have := HE2.out; omega, by have := HB2.out; have := HE2.out; omega, HOK1, HT2, Lib.hid ⟨hM3, hon3, hX3⟩⟩, by simp [intOf] <;> omega⟩
        case true =>
          simp only [if_true] at hjj
          rcases hlb01 with rfl | rfl
          · have hjji : (m : Int) + 256 = (jj : Int) := by omega
            go_wp2_with fail
            refine H1.out.mono ?_
            rintro e w2 ⟨rfl, hw2⟩
            have HW2 := Lib.hid (Went.trans HM.out.2.1 HM.out.2.2 hw2)
            clear hw2
            cases B
            case false =>
              rw [show bitI false = 0 from rfl]
              go_wp2_with fail
              obtain ⟨X3, hM3, hon3, hX3⟩ := HW2.out
              exact ⟨⟨j, 2 * m + 0, true, y, X3, by omega, rfl, by go_num, by go_num, by have := HB1.out; have := HE2.out; omega, by have := HB2.out; have := HE2.out; omega, HOK1, HT2, Lib.hid ⟨hM3, hon3, hX3⟩⟩, by simp [intOf] <;> omega⟩
            case true =>
              rw [show bitI true = 1 from rfl]
              go_wp2_with fail
              obtain ⟨X3, hM3, hon3, hX3⟩ := HW2.out
              exact ⟨⟨j, 2 * m + 1, false, y, X3, by omega, rfl, by go_num, by go_num, by have := HB1.out; have := HE2.out; omega, by have := HB2.out; have := HE2.out; omega, HOK1, HT2, Lib.hid ⟨hM3, hon3, hX3⟩⟩, by simp [intOf] <;> omega⟩
          · have hjji : (m : Int) + 512 = (jj : Int) := by omega
            go_wp2_with fail
            refine H1.out.mono ?_
            rintro e w2 ⟨rfl, hw2⟩
            have HW2 := Lib.hid (Went.trans HM.out.2.1 HM.out.2.2 hw2)
            clear hw2
            cases B
            case false =>
              rw [show bitI false = 0 from rfl]
              go_wp2_with fail
              obtain ⟨X3, hM3, hon3, hX3⟩ := HW2.out
              exact ⟨⟨j, 2 * m + 0, false, y, X3, by omega, rfl, by go_num, by go_num, by have := HB1.out; have := HE2.out; omega, by have := HB2.out; have := HE2.out; omega, HOK1, HT2, Lib.hid ⟨hM3, hon3, hX3⟩⟩, by simp [intOf] <;> omega⟩
            case true =>
              rw [show bitI true = 1 from rfl]
              go_wp2_with fail
              obtain ⟨X3, hM3, hon3, hX3⟩ := HW2.out
              exact ⟨⟨j, 2 * m + 1, true, y, X3, by omega, rfl, by go_num, by go_num, by have := HB1.out; have := HE2.out; omega, by have := HB2.out; have := HE2.out; omega, HOK1, HT2, Lib.hid ⟨hM3, hon3, hX3⟩⟩, by simp [intOf] <;> omega⟩
end Go.Proofs.Ytkckjjchfccdjaa
