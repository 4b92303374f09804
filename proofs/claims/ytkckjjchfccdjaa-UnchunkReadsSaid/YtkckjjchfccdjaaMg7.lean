/- Several texts in one: RdRef, RcFair. -/
import Derived.Test.YtkckjjchfccdjaaMg1
import Derived.Test.YtkckjjchfccdjaaMg6
import Derived.Test.YtkckjjchfccdjaaMg3
/- The walk over the reference's scale. -/
namespace Go.Proofs.Ytkckjjchfccdjaa
set_option maxRecDepth 100000
open Go.RowKit

/-- The reference's decoder in memory: its struct in block h; its bytes lie where they came in. -/
structure RDecAt (w : World) (h b off cc : Nat) (l : List UInt8) (x y pos : Nat) (out : Bool) : Prop where
  blk : w.heap[h]? = some (.cells #[.slice (some ⟨b, off, none⟩) l.length cc, .int .i64 (pos : Nat), .int .u64 (x : Nat), .int .u64 (y : Nat), .bool out] 97 (0, 0))
  own : Bytes w (some ⟨b, off, none⟩) l
  ne : h ≠ b
  lt : b < w.heap.size
theorem bytes_set' {w : World} {o off : Nat} {l : List UInt8} {p : Addr} (h : Bytes w (some ⟨o, off, none⟩) l) (hne : p.block ≠ o) (u : Value) : Bytes (w.setCell p u) (some ⟨o, off, none⟩) l :=
  h.keep (by simp) fun q hq _ => by
    have hq' : q.block = o := by simpa using hq.symm
    exact World.cell?_setCell_far w p q u (by rw [hq']; exact hne)
theorem bytes_at {w : World} {o off : Nat} {l : List UInt8} (h : Bytes w (some ⟨o, off, none⟩) l) {pos : Nat} (hp : pos < l.length) : w.cell? ⟨o, off + pos, none⟩ = some (B8 l[pos]) := by
  obtain ⟨b, off', e, _, hc⟩ := h.addr (by omega)
  injection e with e; injection e with e1 e2; subst e1; subst e2
  exact hc pos hp
theorem RDecAt.keep {w w' : World} {h b off cc : Nat} {l : List UInt8} {x y pos : Nat} {out : Bool} (k : RDecAt w h b off cc l x y pos out) (hs : w.heap.size ≤ w'.heap.size) (hg : w'.heap[h]? = w.heap[h]?) (ho : w'.heap[b]? = w.heap[b]?) : RDecAt w' h b off cc l x y pos out :=
  ⟨hg.trans k.blk, k.own.keep hs fun q hq _ => by
    have hq' : q.block = b := by simpa using hq.symm
    unfold World.cell?; rw [hq', ho], k.ne, Nat.lt_of_lt_of_le k.lt hs⟩
theorem RDecAt.hlt {w : World} {h b off cc : Nat} {l : List UInt8} {x y pos : Nat} {out : Bool} (k : RDecAt w h b off cc l x y pos out) : h < w.heap.size := block_lt_of_cell (c50 k.blk)
theorem RDecAt.below {w w' : World} {h b off cc : Nat} {l : List UInt8} {x y pos : Nat} {out : Bool} (k : RDecAt w h b off cc l x y pos out) (hb : Below w.heap.size w w') : RDecAt w' h b off cc l x y pos out :=
  k.keep hb.size (hb.block h k.hlt) (hb.block b k.lt)
def RDecIs (w : World) (h b off cc : Nat) (l : List UInt8) (s : Rd.St) : Prop := ∃ x y : Nat, (s.out = false → x = s.c ∧ y = s.r) ∧ RDecAt w h b off cc l x y s.pos s.out
def RMoved (w : World) (h b off cc : Nat) (l : List UInt8) (s : Rd.St) (w' : World) : Prop := RDecIs w' h b off cc l s ∧ Only [h] w w'
theorem RDecIs.below {w w' : World} {h b off cc : Nat} {l : List UInt8} {s : Rd.St} (k : RDecIs w h b off cc l s) (hb : Below w.heap.size w w') : RDecIs w' h b off cc l s := by
  obtain ⟨x, y, h1, h2⟩ := k; exact ⟨x, y, h1, h2.below hb⟩

theorem code_ref (c b : Nat) (hc : c < 4294967296) (hb : b < 256) : (IntKind.u64.wrap (IntKind.u64.wrap (256 * (c : Int)) + IntKind.u64.wrap (b : Int))).tmod 4294967296 = (((256 * c + b) % 4294967296 : Nat) : Int) := by
  have e1 : IntKind.u64.wrap (256 * (c : Int)) = ((256 * c : Nat) : Int) := by rw [IntKind.wrap_u64]; omega
  have e2 : IntKind.u64.wrap (b : Int) = (b : Int) := by rw [IntKind.wrap_u64]; omega
  have e3 : IntKind.u64.wrap (((256 * c : Nat) : Int) + (b : Int)) = ((256 * c + b : Nat) : Int) := by rw [IntKind.wrap_u64]; omega
  rw [e1, e2, e3, Int.tmod_eq_emod_of_nonneg (by omega)]; omega

set_option maxRecDepth 100000 in
set_option maxHeartbeats 1000000 in
theorem rdscale_any (N h b off cc : Nat) (l : List UInt8) (s : Rd.St) (w : World) (hE : RDecAt w h b off cc l s.c s.r s.pos false) (hso : s.out = false) (hf : s.fits l) (hl : l.length ≤ 140737488355328) (hr : 16777216 ≤ s.r * 256 ^ N) :
    Calls Try.prog 94 #[.pointer (some ⟨h, 0, none⟩)] w (Did (RMoved w h b off cc l (Rd.scale l N s))) := by
  go_enter Try.func94, Try.ntmps94
  go_wp2_with fail
  go_loopg [6] N (fun gk s6 wr => ∃ (pos c r : Nat), RDecAt wr h b off cc l c r pos false ∧ Rd.St.fits l ⟨pos, c, r, false⟩ ∧ Hid (16777216 ≤ r * 256 ^ gk) ∧ Hid (Rd.scale l N s = Rd.scale l gk ⟨pos, c, r, false⟩) ∧ Only [h] w wr)
  case atStart =>
    obtain ⟨pos, c, r, out⟩ := s
    simp only at hso
    subst hso
    exact ⟨pos, c, r, hE, hf, hr, rfl, Only.refl _ _⟩
  case round =>
    obtain ⟨pos, c, r, hT, hft, hrt, hsc, hon⟩ := hrel
    clear hE hf hr hso
    have k3 := c53 hT.blk
    have f3 := frozen_of_row wr h 3 _ _ hT.blk
    by_cases hy : r < 16777216
    · have hy' : (r : Int) < 16777216 := by omega
      cases gk with
      | zero => have := hrt.out; simp at this; omega
      | succ gk =>
        have hstep := Rd.scale_step (l := l) (N := gk) (s := ⟨pos, c, r, false⟩) rfl hy
        have HST := Lib.hid (hsc.out.trans hstep)
        have hT1 : RDecAt (wr.setCell ⟨h, 3, none⟩ (.int .u64 ((r * 256 : Nat) : Int))) h b off cc l c (r * 256) pos false := ⟨s53 hT.blk _, bytes_set' hT.own hT.ne _, hT.ne, by simpa using hT.lt⟩
        have hon1 : Only [h] w (wr.setCell ⟨h, 3, none⟩ (.int .u64 ((r * 256 : Nat) : Int))) := hon.setCell (.inl (by simp)) _
        have hmul : ((r * 256 : Nat) : Int) = (r : Int) * 256 := by omega
        rw [hmul] at hon1
        have hT2 : RDecAt (wr.setCell ⟨h, 3, none⟩ (.int .u64 ((r : Int) * 256))) h b off cc l c (r * 256) pos false := by rw [← hmul]; exact hT1
        clear hT1
        generalize hw1 : wr.setCell ⟨h, 3, none⟩ (.int .u64 ((r : Int) * 256)) = w1 at *
        have HW1 := Lib.hid hw1
        have hnx : 16777216 ≤ r * 256 * 256 ^ gk := by
          have := hrt.out
          rw [Nat.pow_succ, Nat.mul_comm (256 ^ gk), ← Nat.mul_assoc] at this; exact this
        have HNX := Lib.hid hnx
        have q0 : w1.drew.cell? ⟨h, 0, none⟩ = some (.slice (some ⟨b, off, none⟩) l.length cc) := c50 hT2.blk
        have q1 : w1.drew.cell? ⟨h, 1, none⟩ = some (.int .i64 (pos : Nat)) := c51 hT2.blk
        clear hstep hw1 hmul hrt hsc hnx
        by_cases hp : pos < l.length
        · have hpn : ¬ ((l.length : Int) ≤ (pos : Int)) := by omega
          have hbl : (l[pos]).toNat < 256 := (l[pos]).toNat_lt
          have hcv := code_ref c (l[pos]).toNat hft.2.1 hbl
          have hfn := Rd.next_fits hft hy
          have hnx := Rd.next_in (l := l) (s := ⟨pos, c, r, false⟩) hp
          rw [hnx] at hfn HST
          simp only at hfn HST
          have hcell := bytes_at hT2.own hp
          generalize hC : (256 * c + (l[pos]).toNat) % 4294967296 = C at *
          generalize l[pos] = bb at *
          have HCV := Lib.hid hcv
          generalize hL : l.length = L at *
          have HL := Lib.hid hL
          have hpz : pos < L := hp
          clear hnx hC hcv hL
          go_upto_region 2 with (fail)
          rw [HW1.out]
          clear k3 f3 HW1 hT hon
          refine wp_region_held_drew (S := fun w' => w'.cell? ⟨h, 0, none⟩ = some (.slice (some ⟨b, off, none⟩) L cc) ∧ w'.cell? ⟨h, 1, none⟩ = some (.int .i64 (pos : Nat))) (by kernel_rfl) ⟨q0, q1⟩ (fun hS => ?_)
          refine tk 0 (v := ?va1) ?ya1 hS ?_
          case ya1 =>
            intro w hSw
            go_simp; all_goals (with_reducible rfl)
          simp only [Act.put, List.setIfInBounds_toArray, List.set_cons_zero, List.set_cons_succ]
          refine tk 1 (v := ?va2) ?ya2 hS ?_
          case ya2 =>
            intro w hSw
            go_simp; all_goals (with_reducible rfl)
          simp only [Act.put, List.setIfInBounds_toArray, List.set_cons_zero, List.set_cons_succ]
          refine tk 2 (v := ?va3) ?ya3 hS ?_
          case ya3 =>
            intro w hSw
            go_simp; all_goals (with_reducible rfl)
          simp only [Act.put, List.setIfInBounds_toArray, List.set_cons_zero, List.set_cons_succ]
          refine tk 3 (v := ?va4) ?ya4 hS ?_
          case ya4 =>
            intro w hSw
            obtain ⟨j0, j1⟩ := hSw
            go_simp; all_goals (with_reducible rfl)
          simp only [Act.put, List.setIfInBounds_toArray, List.set_cons_zero, List.set_cons_succ]
          refine tk 4 (v := ?va5) ?ya5 hS ?_
          case ya5 =>
            intro w hSw
            go_simp; all_goals (with_reducible rfl)
          simp only [Act.put, List.setIfInBounds_toArray, List.set_cons_zero, List.set_cons_succ]
          refine tk 5 (v := ?va6) ?ya6 hS ?_
          case ya6 =>
            intro w hSw
            go_simp; all_goals (with_reducible rfl)
          simp only [Act.put, List.setIfInBounds_toArray, List.set_cons_zero, List.set_cons_succ]
          refine tk 6 (v := ?va7) ?ya7 hS ?_
          case ya7 =>
            intro w hSw
            go_simp; all_goals (with_reducible rfl)
          simp only [Act.put, List.setIfInBounds_toArray, List.set_cons_zero, List.set_cons_succ]
          refine tk 7 (v := ?va8) ?ya8 hS ?_
          case ya8 =>
            intro w hSw
            obtain ⟨j0, j1⟩ := hSw
            go_simp; all_goals (with_reducible rfl)
          simp only [Act.put, List.setIfInBounds_toArray, List.set_cons_zero, List.set_cons_succ]
          refine tk 8 (v := ?va9) ?ya9 hS ?_
          case ya9 =>
            intro w hSw
            go_simp; all_goals (with_reducible rfl)
          simp only [Act.put, List.setIfInBounds_toArray, List.set_cons_zero, List.set_cons_succ]
          refine tk 9 (v := ?va10) ?ya10 hS ?_
          case ya10 =>
            intro w hSw
            go_simp; all_goals (with_reducible rfl)
          simp only [Act.put, List.setIfInBounds_toArray, List.set_cons_zero, List.set_cons_succ]
          refine wpAnyH_done (by kernel_rfl) ?_ _
          have hT3 := hT2.below (drew_below w1)
          have hon2 := hon1.drew
          have hcell2 : w1.drew.cell? ⟨b, off + pos, none⟩ = some (B8 bb) := hcell
          clear hT2 hon1 hcell
          generalize w1.drew = wd at *
          go_upto_region 4 with (fail)
          have hT4a : RDecAt (wd.setCell ⟨h, 2, none⟩ (.int .u64 (C : Nat))) h b off cc l C (r * 256) pos false := ⟨s52 hT3.blk _, bytes_set' hT3.own hT3.ne _, hT3.ne, by simpa using hT3.lt⟩
          have hT4 := hT4a.below (drew_below _)
          have hon4 : Only [h] w (wd.setCell ⟨h, 2, none⟩ (.int .u64 (C : Nat))).drew := (hon2.setCell (.inl (by simp)) _).drew
          have hq2 : (wd.setCell ⟨h, 2, none⟩ (.int .u64 (C : Nat))).drew.cell? ⟨b, off + pos, none⟩ = some (B8 bb) := (World.cell?_setCell_far wd _ _ _ hT3.ne).trans hcell2
          have hq0 : (wd.setCell ⟨h, 2, none⟩ (.int .u64 (C : Nat))).drew.cell? ⟨h, 0, none⟩ = some (.slice (some ⟨b, off, none⟩) L cc) := by rw [← HL.out]; exact c50 hT4.blk
          have hq := And.intro hq0 (And.intro (c51 hT4.blk) hq2)
          have k2 : wd.drew.cell? ⟨h, 2, none⟩ = some (.int .u64 (c : Nat)) := c52 hT3.blk
          have f2 : wd.drew.frozen? ⟨h, 2, none⟩ = false := frozen_of_row wd.drew h 2 _ _ hT3.blk
          have q2 : wd.drew.cell? ⟨b, off + pos, none⟩ = some (B8 bb) := hcell2
          clear hT4a hq0 hq2 hcell2
          refine wp_region_held_drew (S := fun w' => w'.cell? ⟨h, 0, none⟩ = some (.slice (some ⟨b, off, none⟩) L cc) ∧ w'.cell? ⟨h, 1, none⟩ = some (.int .i64 (pos : Nat)) ∧ w'.cell? ⟨b, off + pos, none⟩ = some (B8 bb)) (by kernel_rfl) ⟨q0, q1, q2⟩ (fun hS => ?_)
          refine tk 0 (v := ?vb11) ?yb11 hS ?_
          case yb11 =>
            intro w hSw
            go_simp; all_goals (with_reducible rfl)
          simp only [Act.put, List.setIfInBounds_toArray, List.set_cons_zero, List.set_cons_succ]
          refine tk 1 (v := ?vb12) ?yb12 hS ?_
          case yb12 =>
            intro w hSw
            go_simp; all_goals (with_reducible rfl)
          simp only [Act.put, List.setIfInBounds_toArray, List.set_cons_zero, List.set_cons_succ]
          refine tk 2 (v := ?vb13) ?yb13 hS ?_
          case yb13 =>
            intro w hSw
            go_simp; all_goals (with_reducible rfl)
          simp only [Act.put, List.setIfInBounds_toArray, List.set_cons_zero, List.set_cons_succ]
          refine tk 3 (v := ?vb14) ?yb14 hS ?_
          case yb14 =>
            intro w hSw
            go_simp; all_goals (with_reducible rfl)
          simp only [Act.put, List.setIfInBounds_toArray, List.set_cons_zero, List.set_cons_succ]
          refine tk 6 (v := ?vb15) ?yb15 hS ?_
          case yb15 =>
            intro w hSw
            go_simp; all_goals (with_reducible rfl)
          simp only [Act.put, List.setIfInBounds_toArray, List.set_cons_zero, List.set_cons_succ]
          refine tk 7 (v := ?vb16) ?yb16 hS ?_
          case yb16 =>
            intro w hSw
            go_simp; all_goals (with_reducible rfl)
          simp only [Act.put, List.setIfInBounds_toArray, List.set_cons_zero, List.set_cons_succ]
          refine tk 8 (v := ?vb17) ?yb17 hS ?_
          case yb17 =>
            intro w hSw
            go_simp; all_goals (with_reducible rfl)
          simp only [Act.put, List.setIfInBounds_toArray, List.set_cons_zero, List.set_cons_succ]
          refine tk 9 (v := ?vb18) ?yb18 hS ?_
          case yb18 =>
            intro w hSw
            obtain ⟨j0, j1, j2⟩ := hSw
            go_simp; all_goals (with_reducible rfl)
          simp only [Act.put, List.setIfInBounds_toArray, List.set_cons_zero, List.set_cons_succ]
          refine tk 10 (v := ?vb19) ?yb19 hS ?_
          case yb19 =>
            intro w hSw
            go_simp; all_goals (with_reducible rfl)
          simp only [Act.put, List.setIfInBounds_toArray, List.set_cons_zero, List.set_cons_succ]
          refine tk 11 (v := ?vb20) ?yb20 hS ?_
          case yb20 =>
            intro w hSw
            go_simp; all_goals (with_reducible rfl)
          simp only [Act.put, List.setIfInBounds_toArray, List.set_cons_zero, List.set_cons_succ]
          refine tk 12 (v := ?vb21) ?yb21 hS ?_
          case yb21 =>
            intro w hSw
            go_simp; all_goals (with_reducible rfl)
          simp only [Act.put, List.setIfInBounds_toArray, List.set_cons_zero, List.set_cons_succ]
          refine tk 13 (v := ?vb22) ?yb22 hS ?_
          case yb22 =>
            intro w hSw
            obtain ⟨j0, j1, j2⟩ := hSw
            go_simp; all_goals (with_reducible rfl)
          simp only [Act.put, List.setIfInBounds_toArray, List.set_cons_zero, List.set_cons_succ]
          refine tk 14 (v := ?vb23) ?yb23 hS ?_
          case yb23 =>
            intro w hSw
            go_simp; all_goals (with_reducible rfl)
          simp only [Act.put, List.setIfInBounds_toArray, List.set_cons_zero, List.set_cons_succ]
          refine tk 15 (v := ?vb24) ?yb24 hS ?_
          case yb24 =>
            intro w hSw
            obtain ⟨j0, j1, j2⟩ := hSw
            go_simp; all_goals (with_reducible rfl)
          simp only [Act.put, List.setIfInBounds_toArray, List.set_cons_zero, List.set_cons_succ]
          refine tk 16 (v := ?vb25) ?yb25 hS ?_
          case yb25 =>
            intro w hSw
            go_simp; all_goals (with_reducible rfl)
          simp only [Act.put, List.setIfInBounds_toArray, List.set_cons_zero, List.set_cons_succ]
          refine wpAnyH_ready (rs := [4]) (by kernel_rfl) (by simp) ?_
          refine (AllReadyH.cons (o := { dst := some 32, op := Op.load 95 (Operand.tmp 31), type := 95, pos := "ref.go:38", after := #[{ on := 3, ground := Ground.data }], guard := none }) rfl (fun K hK => ?_) AllReadyH.nil)
          go_simp
          refine hK.out _ _ hS (fun _ => ?_)
          clear hK K
          refine tk 5 (v := ?vb26) ?yb26 hS ?_
          case yb26 =>
            intro w hSw
            go_simp; all_goals (with_reducible rfl)
          simp only [Act.put, List.setIfInBounds_toArray, List.set_cons_zero, List.set_cons_succ]
          refine tk 17 (v := ?vb27) ?yb27 hS ?_
          case yb27 =>
            intro w hSw
            go_simp; all_goals (with_reducible rfl)
          simp only [Act.put, List.setIfInBounds_toArray, List.set_cons_zero, List.set_cons_succ]
          refine tk 18 (v := .int .u64 (C : Nat)) ?yb28 hS ?_
          case yb28 =>
            intro w hSw
            go_simp; rw [HCV.out]
          simp only [Act.put, List.setIfInBounds_toArray, List.set_cons_zero, List.set_cons_succ]
          refine tk 19 (v := ?vb29) ?yb29 hS ?_
          case yb29 =>
            intro w hSw
            go_simp; all_goals (with_reducible rfl)
          simp only [Act.put, List.setIfInBounds_toArray, List.set_cons_zero, List.set_cons_succ]
          refine tk 20 (v := ?vb30) ?yb30 hS ?_
          case yb30 =>
            intro w hSw
            go_simp; all_goals (with_reducible rfl)
          simp only [Act.put, List.setIfInBounds_toArray, List.set_cons_zero, List.set_cons_succ]
          refine wpAnyH_ready (rs := [21]) (by kernel_rfl) (by simp) ?_
          refine (AllReadyH.cons (o := { dst := none, op := Op.store 95 (Operand.tmp 48) (Operand.tmp 46), type := 0, pos := "ref.go:38", after := #[{ on := 20, ground := Ground.data }, { on := 18, ground := Ground.data }, { on := 0, ground := Ground.phase }, { on := 1, ground := Ground.phase }, { on := 2, ground := Ground.phase }, { on := 3, ground := Ground.phase }, { on := 4, ground := Ground.phase }, { on := 5, ground := Ground.phase }, { on := 6, ground := Ground.phase }, { on := 7, ground := Ground.phase }, { on := 8, ground := Ground.phase }, { on := 9, ground := Ground.phase }, { on := 10, ground := Ground.phase }, { on := 11, ground := Ground.phase }, { on := 12, ground := Ground.phase }, { on := 13, ground := Ground.phase }, { on := 14, ground := Ground.phase }, { on := 15, ground := Ground.phase }, { on := 16, ground := Ground.phase }, { on := 17, ground := Ground.phase }, { on := 18, ground := Ground.phase }], guard := none }) rfl (fun K hK => ?_) AllReadyH.nil)
          go_simp
          refine hK.out _ _ hq (fun _ => ?_)
          clear hK K
          refine wpAnyH_done (by kernel_rfl) ?_ _
          generalize (wd.setCell ⟨h, 2, none⟩ (.int .u64 (C : Nat))).drew = w5 at *
          clear k2 f2 q0 q1 q2 hq hT3 hon2 HCV
          have k1 := c51 hT4.blk
          have f1 := frozen_of_row w5 h 1 _ _ hT4.blk
          have hT5 : RDecAt (w5.setCell ⟨h, 1, none⟩ (.int .i64 ((pos + 1 : Nat) : Int))) h b off cc l C (r * 256) (pos + 1) false := ⟨s51 hT4.blk _, bytes_set' hT4.own hT4.ne _, hT4.ne, by simpa using hT4.lt⟩
          have hon5 : Only [h] w (w5.setCell ⟨h, 1, none⟩ (.int .i64 ((pos + 1 : Nat) : Int))) := hon4.setCell (.inl (by simp)) _
          have hsum : ((pos + 1 : Nat) : Int) = (pos : Int) + 1 := by omega
          rw [hsum] at hon5
          have hT6 : RDecAt (w5.setCell ⟨h, 1, none⟩ (.int .i64 ((pos : Int) + 1))) h b off cc l C (r * 256) (pos + 1) false := by rw [← hsum]; exact hT5
          clear hT5 hsum
          go_wp2_with fail
          go_roundg gk
          case measure => omega
          case rel => exact ⟨pos + 1, C, r * 256, hT6, hfn, HNX.out, HST.out, hon5⟩
        · have hpn : ((l.length : Int) ≤ (pos : Int)) := by omega
          have hnx := Rd.next_end (l := l) (s := ⟨pos, c, r, false⟩) hp
          rw [hnx, Rd.scale_out (s := ⟨pos, 0, 0, true⟩) rfl] at HST
          generalize hL : l.length = L at *
          have HL := Lib.hid hL
          clear hnx hL
          go_upto_region 2 with (fail)
          rw [HW1.out]
          clear k3 f3 HW1 hT hon
          refine wp_region_held_drew (S := fun w' => w'.cell? ⟨h, 0, none⟩ = some (.slice (some ⟨b, off, none⟩) L cc) ∧ w'.cell? ⟨h, 1, none⟩ = some (.int .i64 (pos : Nat))) (by kernel_rfl) ⟨q0, q1⟩ (fun hS => ?_)
          refine tk 0 (v := ?vc31) ?yc31 hS ?_
          case yc31 =>
            intro w hSw
            go_simp; all_goals (with_reducible rfl)
          simp only [Act.put, List.setIfInBounds_toArray, List.set_cons_zero, List.set_cons_succ]
          refine tk 1 (v := ?vc32) ?yc32 hS ?_
          case yc32 =>
            intro w hSw
            go_simp; all_goals (with_reducible rfl)
          simp only [Act.put, List.setIfInBounds_toArray, List.set_cons_zero, List.set_cons_succ]
          refine tk 2 (v := ?vc33) ?yc33 hS ?_
          case yc33 =>
            intro w hSw
            go_simp; all_goals (with_reducible rfl)
          simp only [Act.put, List.setIfInBounds_toArray, List.set_cons_zero, List.set_cons_succ]
          refine tk 3 (v := ?vc34) ?yc34 hS ?_
          case yc34 =>
            intro w hSw
            obtain ⟨j0, j1⟩ := hSw
            go_simp; all_goals (with_reducible rfl)
          simp only [Act.put, List.setIfInBounds_toArray, List.set_cons_zero, List.set_cons_succ]
          refine tk 4 (v := ?vc35) ?yc35 hS ?_
          case yc35 =>
            intro w hSw
            go_simp; all_goals (with_reducible rfl)
          simp only [Act.put, List.setIfInBounds_toArray, List.set_cons_zero, List.set_cons_succ]
          refine tk 5 (v := ?vc36) ?yc36 hS ?_
          case yc36 =>
            intro w hSw
            go_simp; all_goals (with_reducible rfl)
          simp only [Act.put, List.setIfInBounds_toArray, List.set_cons_zero, List.set_cons_succ]
          refine tk 6 (v := ?vc37) ?yc37 hS ?_
          case yc37 =>
            intro w hSw
            go_simp; all_goals (with_reducible rfl)
          simp only [Act.put, List.setIfInBounds_toArray, List.set_cons_zero, List.set_cons_succ]
          refine tk 7 (v := ?vc38) ?yc38 hS ?_
          case yc38 =>
            intro w hSw
            obtain ⟨j0, j1⟩ := hSw
            go_simp; all_goals (with_reducible rfl)
          simp only [Act.put, List.setIfInBounds_toArray, List.set_cons_zero, List.set_cons_succ]
          refine tk 8 (v := ?vc39) ?yc39 hS ?_
          case yc39 =>
            intro w hSw
            go_simp; all_goals (with_reducible rfl)
          simp only [Act.put, List.setIfInBounds_toArray, List.set_cons_zero, List.set_cons_succ]
          refine tk 9 (v := ?vc40) ?yc40 hS ?_
          case yc40 =>
            intro w hSw
            go_simp; all_goals (with_reducible rfl)
          simp only [Act.put, List.setIfInBounds_toArray, List.set_cons_zero, List.set_cons_succ]
          refine wpAnyH_done (by kernel_rfl) ?_ _
          have hT3 := hT2.below (drew_below w1)
          have hon2 := hon1.drew
          clear hT2 hon1 q0 q1
          generalize w1.drew = wd at *
          have k4 := c54 hT3.blk
          have f4 := frozen_of_row wd h 4 _ _ hT3.blk
          have hT4 : RDecAt (wd.setCell ⟨h, 4, none⟩ (.bool true)) h b off cc l c (r * 256) pos true := ⟨s54 hT3.blk _, bytes_set' hT3.own hT3.ne _, hT3.ne, by simpa using hT3.lt⟩
          have hon4 : Only [h] w (wd.setCell ⟨h, 4, none⟩ (.bool true)) := hon2.setCell (.inl (by simp)) _
          go_wp2_with fail
          refine bodyPost_ret (v := .tuple #[]) (by simp [results, Try.results94]) rfl ?_
          exact ⟨rfl, by rw [HST.out]; exact ⟨c, r * 256, (fun h => by cases h), hT4⟩, hon4⟩
    · have hy' : ¬ (r : Int) < 16777216 := by omega
      have hst : Rd.scale l gk ⟨pos, c, r, false⟩ = ⟨pos, c, r, false⟩ := Rd.scale_big hy
      have HST := Lib.hid (hsc.out.trans hst)
      clear hst hrt hsc hy hft
      go_wp2_with fail
      go_end0
      exact ⟨rfl, by rw [HST.out]; exact ⟨c, r, (fun _ => ⟨rfl, rfl⟩), hT⟩, hon⟩
end Go.Proofs.Ytkckjjchfccdjaa

/- The walks over the reference's Fair and Next. -/
namespace Go.Proofs.Ytkckjjchfccdjaa
set_option maxRecDepth 100000
open Go.RowKit

theorem bound_u64 (r p : Nat) (hr : r < 4294967296) (hp : p ≤ 2047) : IntKind.u64.wrap (((r : Int) / 2048) * (p : Int)) = ((r / 2048 * p : Nat) : Int) := by
  have h : r / 2048 * p ≤ r / 2048 * 2047 := Nat.mul_le_mul_left _ hp
  have e : ((r : Int) / 2048) * (p : Int) = ((r / 2048 * p : Nat) : Int) := by simp
  rw [e, IntWalk.u64_in _ ⟨by omega, by omega⟩]

set_option maxHeartbeats 400000 in
theorem fair_any (c : BitVec 16) (w : World) : Calls Try.prog 92 #[.int .u16 c.toNat] w fun e w' => e = .returned (.int .u64 (Rc.fair c.toNat : Nat)) ∧ w = w' := by
  have hc := c.isLt
  by_cases h1 : c.toNat = 0
  · have hf : Rc.fair c.toNat = 1024 := by unfold Rc.fair; rw [if_pos (.inl (by omega))]
    rw [hf, h1]
    go_enter Try.func92, Try.ntmps92
    go_wp2_with fail
    go_ret
    exact ⟨rfl, rfl⟩
  · have h1' : ((c.toNat : Int) == 0) = false := beq_eq_false_iff_ne.2 (by omega)
    by_cases h2 : 2048 ≤ c.toNat
    · have hf : Rc.fair c.toNat = 1024 := by unfold Rc.fair; rw [if_pos (.inr h2)]
      rw [hf]
      have h2' : (2047 : Int) < c.toNat := by omega
      go_enter Try.func92, Try.ntmps92
      go_wp2_with fail
      go_ret
      exact ⟨rfl, rfl⟩
    · have hf : Rc.fair c.toNat = c.toNat := by unfold Rc.fair; rw [if_neg (by omega)]
      rw [hf]
      have h2' : ¬ (2047 : Int) < c.toNat := by omega
      go_enter Try.func92, Try.ntmps92
      go_wp2_with fail
      go_ret
      exact ⟨rfl, rfl⟩

set_option maxHeartbeats 400000 in
theorem rnext_any (p : Nat) (one : Bool) (w : World) (h1 : 1 ≤ p) (h2 : p ≤ 2047) : Calls Try.prog 93 #[.int .u64 p, .int .i64 (bitI one)] w fun e w' => e = .returned (.int .u16 (Rc.next p one : Nat)) ∧ w = w' := by
  cases one
  · have hn : ((Rc.next p false : Nat) : Int) = (p : Int) + (2048 - (p : Int)) / 32 := by simp only [Rc.next, Bool.false_eq_true, if_false]; omega
    have HN := Lib.hid hn
    clear hn
    unfold bitI
    simp only [Bool.false_eq_true, if_false]
    go_enter Try.func93, Try.ntmps93
    go_wp2_with fail
    go_ret
    exact ⟨congrArg (fun n : Int => Ending.returned (Value.int .u16 n)) HN.out.symm, rfl⟩
  · have hn : ((Rc.next p true : Nat) : Int) = (p : Int) - (p : Int) / 32 := by simp only [Rc.next, if_true]; omega
    have HN := Lib.hid hn
    clear hn
    unfold bitI
    simp only [if_true]
    go_enter Try.func93, Try.ntmps93
    go_wp2_with fail
    go_ret
    exact ⟨congrArg (fun n : Int => Ending.returned (Value.int .u16 n)) HN.out.symm, rfl⟩
end Go.Proofs.Ytkckjjchfccdjaa
