/- The walks over the coder's add and its function literal. -/
import Derived.Test.YtdkimllfpiphgaaRcEnc
namespace Go.Proofs.Ytdkimllfpiphgaa
open Go.RowKit

theorem inc_u8 (b : UInt8) : ((b.toNat : Int) + 1) % 256 = ((b + 1).toNat : Int) := by
  rw [UInt8.toNat_add]; simp

set_option maxHeartbeats 400000 in
theorem carries_any (i q g o n cap : Nat) (b : UInt8) (w : World) (hi : i < n) (_hn : n ≤ 9223372036854775807) (hqo : q ≠ o) (hgo : g ≠ o)
    (cq : w.cell? ⟨q, 0, none⟩ = some (.pointer (some ⟨g, 0, none⟩))) (cg : w.cell? ⟨g, 2, none⟩ = some (.slice (some ⟨o, 0, none⟩) n cap))
    (co : w.cell? ⟨o, i, none⟩ = some (.int .u8 (b.toNat : Nat))) (fo : w.frozen? ⟨o, i, none⟩ = false) :
    Calls Try.prog 96 #[.int .i64 i, .pointer (some ⟨q, 0, none⟩)] w fun e w' => e = .returned (.bool (((b + 1).toNat : Int) == 0)) ∧ w' = w.setCell ⟨o, i, none⟩ (B8 (b + 1)) := by
  have hinc := inc_u8 b
  have hb := b.toNat_lt
  generalize hs : b + 1 = s at *
  have HS := Lib.hid hs; clear hs
  have e1 : (⟨q, 0, none⟩ : Addr) ≠ ⟨o, i, none⟩ := fun e => hqo (congrArg Addr.block e)
  have e2 : (⟨g, 2, none⟩ : Addr) ≠ ⟨o, i, none⟩ := fun e => hgo (congrArg Addr.block e)
  have d1 : (w.setCell ⟨o, i, none⟩ (B8 s)).cell? ⟨q, 0, none⟩ = some (.pointer (some ⟨g, 0, none⟩)) := (World.cell?_setCell_other _ _ _ _ (fun e => e1 e.symm)).trans cq
  have d2 : (w.setCell ⟨o, i, none⟩ (B8 s)).cell? ⟨g, 2, none⟩ = some (.slice (some ⟨o, 0, none⟩) n cap) := (World.cell?_setCell_other _ _ _ _ (fun e => e2 e.symm)).trans cg
  go_enter Try.func96, Try.ntmps96
  go_wp2_with fail
  go_ret
  exact ⟨rfl, rfl⟩

theorem blk_set0 {w : World} {g : Nat} {a b c : Value} {t : TypeId} (h : w.heap[g]? = some (.cells #[a, b, c] t (0, 0))) (u : Value) : (w.setCell ⟨g, 0, none⟩ u).heap[g]? = some (.cells #[u, b, c] t (0, 0)) := by
  rw [heap_setCell_same w g 0 _ t u h]; rfl
theorem blk_set1 {w : World} {g : Nat} {a b c : Value} {t : TypeId} (h : w.heap[g]? = some (.cells #[a, b, c] t (0, 0))) (u : Value) : (w.setCell ⟨g, 1, none⟩ u).heap[g]? = some (.cells #[a, u, c] t (0, 0)) := by
  rw [heap_setCell_same w g 1 _ t u h]; rfl
theorem blk_set2 {w : World} {g : Nat} {a b c : Value} {t : TypeId} (h : w.heap[g]? = some (.cells #[a, b, c] t (0, 0))) (u : Value) : (w.setCell ⟨g, 2, none⟩ u).heap[g]? = some (.cells #[a, b, u] t (0, 0)) := by
  rw [heap_setCell_same w g 2 _ t u h]; rfl
theorem own_other {w : World} {e o n cap : Nat} {xs : List Value} {p : Addr} (h : w.ownsRow 0 e 1 (.slice (some ⟨o, 0, none⟩) n cap) n xs) (hp : p.block ≠ o) (u : Value) : (w.setCell p u).ownsRow 0 e 1 (.slice (some ⟨o, 0, none⟩) n cap) n xs :=
  World.ownsRow.kept (row := some p.block) h ⟨rfl, rfl, rfl, by simp, fun j _ hj => heap_setCell_other _ _ j _ (fun e => hj (by simp [e]))⟩ (.inr (by simpa [Value.ownBlock] using fun e => hp e.symm))

theorem inc_ne (x : Nat) (h : x < 256) (h2 : x ≠ 255) : ((((UInt8.ofNat x + 1 : UInt8)).toNat : Int) == 0) = false := by
  rw [beq_eq_false_iff_ne, UInt8.toNat_add, UInt8.toNat_ofNat']; simp; omega

def Did (P : World → Prop) (e : Ending) (w' : World) : Prop := e = .returned (.tuple #[]) ∧ P w'

set_option maxRecDepth 100000 in
set_option maxHeartbeats 1000000 in
theorem add_any (g o cap : Nat) (s : Rc.St) (n : Nat) (w : World) (hE : EncAt w g o cap s) (hn : n < 4294967296) (hk : 1 + s.k ≤ 9223372036854775807) :
    Calls Try.prog 95 #[.pointer (some ⟨g, 0, none⟩), .int .u32 n] w (Did fun w' => EncAt w' g o cap ⟨s.k, s.v + n, s.r⟩ ∧ Only [g, o] w w') := by
  have c0 : w.cell? ⟨g, 0, none⟩ = some (.int .u32 ((s.v % 4294967296 : Nat) : Int)) := by rw [cell_of_row _ _ _ _ _ _ hE.blk]; rfl
  have f0 : w.frozen? ⟨g, 0, none⟩ = false := frozen_of_row _ _ _ _ _ hE.blk
  have hgl : g < w.heap.size := block_lt_of_cell c0
  generalize hlow : s.v % 4294967296 = low at *
  have hll : low < 4294967296 := by omega
  have HLOW := Lib.hid hlow
  clear hlow
  by_cases hcar : low + n < 4294967296
  · have hq : ((low : Int) + (n : Int)) / 4294967296 = 0 := by omega
    have hr : ((low : Int) + (n : Int)) % 4294967296 = (((low + n : Nat)) : Int) := by omega
    go_enter Try.func95, Try.ntmps95
    go_wp2_with fail
    refine bodyPost_ret (results_none rfl _ _ _) rfl ⟨rfl, ?_, ?_⟩
    · refine ⟨?_, ?_, hE.ne⟩
      · rw [Below.heap_alloc _ _ _ (by simpa using hgl), blk_set0 hE.blk]
        have e1 : (s.v + n) % 4294967296 = low + n := by have := HLOW.out; omega
        show some (Obj.cells #[.int .u32 ((low : Int) + (n : Int)), _, _] _ _) = some (Obj.cells #[.int .u32 (((s.v + n) % 4294967296 : Nat) : Int), _, _] _ _)
        rw [e1]; rfl
      · have e2 : (s.v + n) / 4294967296 = s.v / 4294967296 := by have := HLOW.out; omega
        show World.ownsRow _ 0 _ 1 _ _ ((Rc.be (1 + s.k) ((s.v + n) / 4294967296)).map B8)
        rw [e2]
        exact World.ownsRow.alloc (own_other hE.own hE.ne _) _
    · exact ((Only.refl _ _).setCell (by simp) _).alloc _
  · obtain ⟨lo, hlo⟩ : ∃ lo, low + n = lo + 4294967296 := ⟨low + n - 4294967296, by omega⟩
    have hq : ((low : Int) + (n : Int)) / 4294967296 = 1 := by omega
    have hr : ((low : Int) + (n : Int)) % 4294967296 = (lo : Int) := by omega
    have c2 : w.cell? ⟨g, 2, none⟩ = some (.slice (some ⟨o, 0, none⟩) (1 + s.k) cap) := by rw [cell_of_row _ _ _ _ _ _ hE.blk]; rfl
    have hol : o < w.heap.size := by
      have := World.ownsRow.lt hE.own o rfl
      exact this.2
    have hne := hE.ne
    have c2' : (w.setCell ⟨g, 0, none⟩ (.int .u32 lo)).cell? ⟨g, 2, none⟩ = some (.slice (some ⟨o, 0, none⟩) (1 + s.k) cap) := (World.cell?_setCell_other _ _ _ _ (by simp)).trans c2
    have hk1 : (1 : Int) ≤ ((1 + s.k : Nat) : Int) := by omega
    have hown := hE.own
    generalize hmm : 1 + s.k = m at *
    have HM := Lib.hid hmm
    have HLO := Lib.hid hlo
    clear hmm hlo
    go_enter Try.func95, Try.ntmps95
    go_wp2_with fail
    rw [hr]
    have hblk1 : ((w.setCell ⟨g, 0, none⟩ (.int .u32 lo)).alloc (.cells #[.pointer (some ⟨g, 0, none⟩)] 54)).heap[g]? = some (.cells #[.int .u32 lo, .int .u32 ((s.r : Nat) : Int), .slice (some ⟨o, 0, none⟩) m cap] 96 (0, 0)) := by
      rw [Below.heap_alloc _ _ _ (by simpa using hgl)]
      have hb := hE.blk
      rw [HM.out] at hb
      exact blk_set0 hb _
    have hq1 : ((w.setCell ⟨g, 0, none⟩ (.int .u32 lo)).alloc (.cells #[.pointer (some ⟨g, 0, none⟩)] 54)).heap[w.heap.size]? = some (.cells #[.pointer (some ⟨g, 0, none⟩)] 54 (0, 0)) := by
      have := heap_alloc_new (w.setCell ⟨g, 0, none⟩ (.int .u32 lo)) (.cells #[.pointer (some ⟨g, 0, none⟩)] 54)
      simpa using this
    have hown1 : ((w.setCell ⟨g, 0, none⟩ (.int .u32 lo)).alloc (.cells #[.pointer (some ⟨g, 0, none⟩)] 54)).ownsRow 0 5 1 (.slice (some ⟨o, 0, none⟩) m cap) m ((Rc.rolled m 0 (s.v / 4294967296)).map B8) := by
      rw [Rc.rolled_zero]; exact World.ownsRow.alloc (own_other hown hne _) _
    have hon1 : Only [g, o] w ((w.setCell ⟨g, 0, none⟩ (.int .u32 lo)).alloc (.cells #[.pointer (some ⟨g, 0, none⟩)] 54)) := ((Only.refl _ _).setCell (by simp) _).alloc _
    generalize (w.setCell ⟨g, 0, none⟩ (.int .u32 lo)).alloc (.cells #[.pointer (some ⟨g, 0, none⟩)] 54) = w1 at *
    generalize hQ : w.heap.size = q at *
    have hqg : g < q := hgl
    have hqo : o < q := hol
    have HQ := Lib.hid hQ
    have hdone : ∀ w', w'.heap[g]? = some (.cells #[.int .u32 lo, .int .u32 ((s.r : Nat) : Int), .slice (some ⟨o, 0, none⟩) m cap] 96 (0, 0)) → w'.ownsRow 0 5 1 (.slice (some ⟨o, 0, none⟩) m cap) m ((Rc.be m (s.v / 4294967296 + 1)).map B8) → EncAt w' g o cap ⟨s.k, s.v + n, s.r⟩ := by
      intro w' h1 h2
      have e1 : (s.v + n) % 4294967296 = lo := by have := HLOW.out; have := HLO.out; omega
      have e2 : (s.v + n) / 4294967296 = s.v / 4294967296 + 1 := by have := HLOW.out; have := HLO.out; omega
      refine ⟨?_, ?_, hne⟩
      · show w'.heap[g]? = some (.cells #[.int .u32 (((s.v + n) % 4294967296 : Nat) : Int), .int .u32 ((s.r : Nat) : Int), .slice (some ⟨o, 0, none⟩) (1 + s.k) cap] _ (0, 0))
        rw [e1, HM.out]; exact h1
      · show w'.ownsRow 0 _ 1 (.slice (some ⟨o, 0, none⟩) (1 + s.k) cap) (1 + s.k) ((Rc.be (1 + s.k) ((s.v + n) / 4294967296)).map B8)
        rw [e2, HM.out]; exact h2
    have HDONE := Lib.hid hdone
    clear hdone hr hq c0 c2 c2' f0 hE hown hcar hQ hgl hol
    generalize s.v / 4294967296 = V at *
    go_loopw [6] (fun i wr => ∃ t : Nat, t ≤ m ∧ i = .int .i64 ((m : Int) - 1 - (t : Int)) ∧ Hid (V % 256 ^ t = 256 ^ t - 1) ∧ wr.heap[g]? = some (.cells #[.int .u32 lo, .int .u32 ((s.r : Nat) : Int), .slice (some ⟨o, 0, none⟩) m cap] 96 (0, 0)) ∧ wr.heap[q]? = some (.cells #[.pointer (some ⟨g, 0, none⟩)] 54 (0, 0)) ∧ wr.ownsRow 0 5 1 (.slice (some ⟨o, 0, none⟩) m cap) m ((Rc.rolled m t V).map B8) ∧ Only [g, o] w wr) (fun i _ => (intOf i + 1).toNat)
    case atStart => exact ⟨0, by omega, by go_num, by simp [Hid, Nat.mod_one], hblk1, hq1, hown1, hon1⟩
    case round =>
      clear hblk1 hq1 hown1 hon1
      obtain ⟨t, ht, rfl, hall, hblk, hqb, hown, hon⟩ := hrel
      by_cases hlt : t < m
      · obtain ⟨j, hj⟩ : ∃ j : Nat, j = m - 1 - t := ⟨_, rfl⟩
        have hji : (m : Int) - 1 - (t : Int) = (j : Int) := by omega
        have hjm : j < m := by omega
        have cq : wr.cell? ⟨q, 0, none⟩ = some (.pointer (some ⟨g, 0, none⟩)) := by rw [cell_of_row _ _ _ _ _ _ hqb]; rfl
        have cg : wr.cell? ⟨g, 2, none⟩ = some (.slice (some ⟨o, 0, none⟩) m cap) := by rw [cell_of_row _ _ _ _ _ _ hblk]; rfl
        have co := hown.cellAt j (by omega)
        have fo := hown.frozenAt j
        rw [List.getElem?_map, hj, Rc.rolled_get m t V hlt, ← hj] at co
        simp only [Option.map] at co
        obtain ⟨hs1, hs2⟩ := hown.stored j (B8 (UInt8.ofNat (V / 256 ^ t % 256) + 1))
        rw [← List.map_set] at hs1
        have hon' : Only [g, o] w (wr.setCell ⟨o, j, none⟩ (B8 (UInt8.ofNat (V / 256 ^ t % 256) + 1))) := hon.setCell (by simp) _
        have hblk' : (wr.setCell ⟨o, j, none⟩ (B8 (UInt8.ofNat (V / 256 ^ t % 256) + 1))).heap[g]? = some (.cells #[.int .u32 lo, .int .u32 ((s.r : Nat) : Int), .slice (some ⟨o, 0, none⟩) m cap] 96 (0, 0)) := (heap_setCell_other _ _ _ _ hne).trans hblk
        have hqb' : (wr.setCell ⟨o, j, none⟩ (B8 (UInt8.ofNat (V / 256 ^ t % 256) + 1))).heap[q]? = some (.cells #[.pointer (some ⟨g, 0, none⟩)] 54 (0, 0)) := (heap_setCell_other _ _ _ _ (by simp; omega)).trans hqb
        have hcall := Lib.hid (carries_any j q g o m cap (UInt8.ofNat (V / 256 ^ t % 256)) wr hjm hk (by omega) hne cq cg co fo)
        have hpos : (0 : Int) ≤ (j : Int) := by omega
        by_cases h255 : V / 256 ^ t % 256 = 255
        · have hz : UInt8.ofNat (V / 256 ^ t % 256) + 1 = 0 := by rw [h255]; decide
          rw [hz, hj, Rc.rolled_next m t V hlt] at hs1
          rw [hz] at hcall hon' hblk' hqb'
          have HN := Lib.hid (Rc.all_next t V hall.out h255)
          have HJ := Lib.hid hj
          rw [← hj] at hs1
          clear hz hs2 co cq cg fo hj h255
          rw [hji]
          go_wp2_with fail
          refine hcall.out.mono ?_
          rintro e w' ⟨rfl, rfl⟩
          go_wp2_with fail
          go_roundw
          case rel => exact ⟨t + 1, by omega, congrArg (Value.int .i64) (by omega), HN, hblk', hqb', hs1, hon'⟩
          case measure => simp [intOf] <;> omega
        · have hx := inc_ne (V / 256 ^ t % 256) (Nat.mod_lt _ (by omega)) h255
          rw [hj, Rc.rolled_stop m t V hlt hall.out h255, ← hj] at hs1
          rw [hx] at hcall
          generalize UInt8.ofNat (V / 256 ^ t % 256) + 1 = x at *
          clear hs2 co cq cg fo hj h255 hx
          rw [hji]
          go_wp2_with fail
          refine hcall.out.mono ?_
          rintro e w' ⟨rfl, rfl⟩
          go_wp2_with fail
          go_end0
          exact ⟨rfl, HDONE.out _ hblk' hs1, hon'⟩
      · obtain rfl : t = m := by omega
        rw [Rc.rolled_end t V hall.out] at hown
        have hneg : (t : Int) - 1 - (t : Int) = -1 := by omega
        rw [hneg]
        go_wp2_with fail
        go_end0
        exact ⟨rfl, HDONE.out _ hblk hown, hon⟩
end Go.Proofs.Ytdkimllfpiphgaa
