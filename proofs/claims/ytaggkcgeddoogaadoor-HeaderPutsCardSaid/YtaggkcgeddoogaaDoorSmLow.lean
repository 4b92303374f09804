/- A number's bytes, the lowest first: flags.leastFirst, and the reference's Low (for seats that want no more than CRC-32: in place of XFlLow). -/
import Derived.Test.YtaggkcgeddoogaaDoorBase
import Derived.Test.YtaggkcgeddoogaaDoorVals
import Derived.Test.YtaggkcgeddoogaaDoorLift
namespace Go.Proofs.YtaggkcgeddoogaaDoor
open Go.RowKit

/-- What hands back bytes in memory of its own. -/
def BytesDone (w : World) (L : List UInt8) (e : Ending) (w' : World) : Prop := ∃ A c, e = .returned (.slice A L.length c) ∧ L.length ≤ c ∧ c ≤ 9223372036854775807 ∧ Bytes w' A L ∧ Below w.heap.size w w'

theorem below_one (w : World) (o : Obj) : Below w.heap.size w (w.alloc o) := (Below.refl _ _).alloc (Nat.le_refl _) _
theorem heap_set {w : World} {g : Nat} {L : List Value} {t : TypeId} (h : w.heap[g]? = some (.cells L.toArray t (0, 0))) (i : Nat) (v : Value) : (w.setCell ⟨g, i, none⟩ v).heap[g]? = some (.cells (L.set i v).toArray t (0, 0)) := by
  unfold World.setCell
  simp [Array.getElem?_modify, h]
theorem heap_of_full {w : World} {base n : Nat} {t : TypeId} {g : Nat} {xs : List Value} (h : w.ownsRow base t 1 (.slice (some ⟨g, 0, none⟩) n n) n xs) : w.heap[g]? = some (.cells xs.toArray t (0, 0)) := by
  obtain ⟨hl, ⟨h, _⟩ | ⟨g', cap, cur, e, _, hg, _, _, hsz, ht⟩⟩ := h
  · cases h
  · injection e with e1 _ e3
    injection e1 with e1
    injection e1 with e1
    subst e1; subst e3
    rw [Nat.mul_one] at hl hsz ht
    have : cur.toList = xs := by rw [← ht, List.take_of_length_le (by simp; omega)]
    rw [hg, ← this]
theorem madeZ (n : Nat) : (madeCells (Value.int .u8 0).cells (n * 1)).toList = List.replicate n (Value.int .u8 0) := by
  rw [Nat.mul_one, show (Value.int .u8 0).cells = #[Value.int .u8 0] from rfl, toList_madeCells_one]
theorem set_one (R t : List Value) (a x : Value) (o : Nat) (h : R.length = o) : (R ++ a :: t).set o x = R ++ x :: t := by subst h; simp
theorem free_of_row {w : World} {g : Nat} {C : Array Value} {t : TypeId} (h : w.heap[g]? = some (.cells C t (0, 0))) (j : Nat) : w.frozen? ⟨g, j, none⟩ = false := by simp [World.frozen?, h]

def lowB (v : Nat) : Nat → List UInt8
  | 0 => []
  | n + 1 => UInt8.ofNat (v % 256) :: lowB (v / 256) n
theorem lowB_length (n : Nat) : ∀ v, (lowB v n).length = n := by
  induction n with
  | zero => intro v; rfl
  | succ n ih => intro v; simp [lowB, ih]
theorem lowB_get (n : Nat) : ∀ (v i : Nat) (h : i < (lowB v n).length), (lowB v n)[i] = UInt8.ofNat (v / 2 ^ (8 * i) % 256) := by
  induction n with
  | zero => intro v i h; simp [lowB] at h
  | succ n ih =>
    intro v i h
    cases i with
    | zero => simp [lowB]
    | succ i =>
      simp only [lowB, List.getElem_cons_succ]
      rw [ih (v / 256) i (by simpa [lowB] using h), Nat.div_div_eq_div_mul, show 8 * (i + 1) = 8 * i + 8 by omega, Nat.pow_add, Nat.mul_comm]
/-- What hands back bytes that may be appended to. -/
def OwnDone (w : World) (L : List UInt8) (e : Ending) (w' : World) : Prop := ∃ v, e = .returned v ∧ Own w.heap.size w' v L ∧ Below w.heap.size w w'
theorem OwnDone.bytes {w : World} {L : List UInt8} {e : Ending} {w' : World} (h : OwnDone w L e w') : BytesDone w L e w' := by
  obtain ⟨v, rfl, ho, hb⟩ := h
  obtain ⟨A, c, rfl, h1, h2, h3⟩ := ho.read
  exact ⟨A, c, rfl, h1, h2, h3, hb⟩
theorem set_next {w : World} {g k n : Nat} {L : List UInt8} (h : w.heap[g]? = some (.cells ((L.take k).map B8 ++ List.replicate (n - k) (Value.int .u8 0)).toArray 5 (0, 0))) (hL : L.length = n) (hk : k < n) :
    (w.setCell ⟨g, k, none⟩ (B8 (L[k]'(by omega)))).heap[g]? = some (.cells ((L.take (k + 1)).map B8 ++ List.replicate (n - (k + 1)) (Value.int .u8 0)).toArray 5 (0, 0)) := by
  rw [heap_set h k]
  congr 3
  have hl : ((L.take k).map B8).length = k := by rw [List.length_map, List.length_take]; omega
  obtain ⟨m, hm⟩ : ∃ m, n - k = m + 1 := ⟨n - k - 1, by omega⟩
  rw [hm, List.replicate_succ, show n - (k + 1) = m by omega, List.take_succ_eq_append_getElem (by omega), List.map_append, List.append_assoc]
  have := set_one ((L.take k).map B8) (List.replicate m (Value.int .u8 0)) (.int .u8 0) (B8 (L[k]'(by omega))) k hl
  rw [this]; rfl

set_option maxRecDepth 100000 in
set_option maxHeartbeats 1000000 in
theorem leastFirst_any (v n : Nat) (hv : v < 18446744073709551616) (hn : n ≤ 8) (w : World) :
    Calls Tryd.prog 51 #[.int .u64 (v : Nat), .int .i64 (n : Nat)] w (OwnDone w (lowB v n)) := by
  obtain ⟨i, hi, hz0, hz1, hz2⟩ := info_parts info8
  have hmk : i.bytes * n ≤ 281474976710656 := by rw [hz2]; omega
  have hml : n ≤ maxLen := by unfold maxLen; omega
  have HG := Lib.hid (lowB_get n v)
  have HL := Lib.hid (lowB_length n v)
  generalize hLL : lowB v n = L at *
  clear hLL
  have hni : (n : Int) ≤ 8 := by omega
  have hv0 : (0 : Int) ≤ (v : Int) := by omega
  have hv1 : (v : Int) < 18446744073709551616 := by omega
  go_enter Tryd.func51, Tryd.ntmps51
  go_wp2_with (refine wpList_make_full _ rfl _ _ 26 rfl w.heap.size 5 i (.int .u8 0) 1 Tryd.underlying26 hi hz0 hz1 _ _ _ _ n rfl rfl (by omega) (by omega) hmk hml (Nat.le_refl _) ?_; intro w1 hown1 hg1; rw [madeZ] at hown1; have hh1 := heap_of_full hown1)
  have hb1 : Below w.heap.size w w1 := below_grown (Below.refl _ _) hg1 (Nat.le_refl _) (by simp)
  go_loopw [11] (fun a wr => ∃ k : Nat, k ≤ n ∧ a = .int .i64 k ∧ wr.heap[w.heap.size]? = some (.cells ((L.take k).map B8 ++ List.replicate (n - k) (Value.int .u8 0)).toArray 5 (0, 0)) ∧ Below w.heap.size w wr) (fun a _ => (n - intOf a).toNat)
  case atStart => exact ⟨0, by omega, rfl, by simpa using hh1, hb1⟩
  case round =>
    clear hh1 hown1 hg1 hb1
    obtain ⟨k, hk, rfl, hh, hb⟩ := hrel
    by_cases hlt : k < n
    · have hnx := set_next hh HL.out hlt
      have hget := HG.out k (by rw [HL.out]; exact hlt)
      rw [hget] at hnx
      obtain ⟨b, hbv⟩ : ∃ b, UInt8.ofNat (v / 2 ^ (8 * k) % 256) = b := ⟨_, rfl⟩
      rw [hbv] at hnx
      have hx : (v : Int) / 2 ^ (8 * k) % 256 = (b.toNat : Int) := by
        rw [← hbv, UInt8.toNat_ofNat']
        have e : ((2 : Int) ^ (8 * k)) = ((2 ^ (8 * k) : Nat) : Int) := by rw [Int.natCast_pow]; rfl
        rw [e, ← Int.natCast_ediv]
        generalize v / 2 ^ (8 * k) = q; omega
      have hc : wr.cell? ⟨w.heap.size, k, none⟩ = some (.int .u8 0) := by
        rw [cell_of_row _ _ _ _ _ _ hh, List.getElem?_toArray, List.getElem?_append_right (by simp; omega)]
        simp only [List.length_map, List.length_take]
        rw [Nat.min_eq_left (by rw [HL.out]; omega), Nat.sub_self, List.getElem?_replicate, if_pos (by omega)]
      have hf := free_of_row hh k
      have hb2 := hb.setCell (p := ⟨w.heap.size, k, none⟩) (Nat.le_refl _) (B8 b)
      have HNX := Lib.hid hnx
      have hki : (k : Int) < (n : Int) := by omega
      have ht : (8 * (k : Int)).toNat = 8 * k := by omega
      have h64 : 8 * (k : Int) ≤ 64 := by omega
      have h640 : 0 ≤ 8 * (k : Int) := by omega
      clear hnx hget hbv hh
      go_wp2_with fail
      go_roundw
      case rel => exact ⟨k + 1, by omega, by go_num, HNX.out, hb2⟩
      case measure => simp [intOf]; omega
    · obtain rfl : k = n := by omega
      have hfull : (L.take k).map B8 ++ List.replicate (k - k) (Value.int .u8 0) = L.map B8 := by rw [List.take_of_length_le (by rw [HL.out]; exact Nat.le_refl _)]; simp
      rw [hfull] at hh
      go_wp2_with fail
      go_ret
      refine ⟨_, rfl, ⟨?_, .inr ⟨w.heap.size, k, (L.map B8).toArray, ?_, Nat.le_refl _, hh, ?_, hml, ?_, ?_⟩⟩, hb⟩
      · simp
      · rw [HL.out]; rfl
      · rw [HL.out]; exact Nat.le_refl _
      · simp [HL.out]
      · rw [List.take_of_length_le (by simp)]

set_option maxRecDepth 100000 in
set_option maxHeartbeats 1000000 in
theorem low_any (n : Nat) : ∀ (v : Nat) (w : World), v < 18446744073709551616 → n ≤ 8 → Calls Tryd.prog 41 #[.int .u64 (v : Nat), .int .i64 (n : Nat)] w (OwnDone w (lowB v n)) := by
  induction n with
  | zero =>
    intro v w _ _
    go_enter Tryd.func41, Tryd.ntmps41
    go_wp2_with fail
    go_ret
    exact ⟨_, rfl, Own.nil _ _, Below.refl _ _⟩
  | succ n ih =>
    intro v w hv hn
    have hni : ((n + 1 : Nat) : Int) ≤ 8 := by omega
    have hnz : (((n + 1 : Nat) : Int) == 0) = false := by simp; omega
    obtain ⟨b, hb⟩ : ∃ b, UInt8.ofNat (v % 256) = b := ⟨_, rfl⟩
    obtain ⟨v2, hv2⟩ : ∃ x, v / 256 = x := ⟨_, rfl⟩
    have hbv : (v : Int) % 256 = (b.toNat : Int) := by rw [← hb, UInt8.toNat_ofNat']; omega
    have hvv : (v : Int) / 256 = (v2 : Int) := by omega
    have hm1 : ((n + 1 : Nat) : Int) - 1 = (n : Int) := by omega
    have HL : Hid (lowB v (n + 1) = [b] ++ lowB v2 n) := Lib.hid (by rw [← hb, ← hv2]; rfl)
    have HLL := Lib.hid (lowB_length n v2)
    have HIH := Lib.hid (fun w => ih v2 w (by omega) (by omega))
    have hown0 : Own w.heap.size (w.alloc (.cells #[B8 b] 5)) (.slice (some ⟨w.heap.size, 0, none⟩) 1 1) [b] := Own.lit (base := w.heap.size) w [b] (Nat.le_refl _) (by simp)
    have hb0 := below_one w (.cells #[B8 b] 5)
    have hv0 : (0 : Int) ≤ (v : Int) := by omega
    have hv1 : (v : Int) < 18446744073709551616 := by omega
    generalize hN : ((n + 1 : Nat) : Int) = N at *
    clear hN hb hv2 ih
    go_enter Tryd.func41, Tryd.ntmps41
    go_wp2_with fail
    refine (HIH.out _).mono ?_
    rintro e w1 ⟨v1, rfl, ho1, hb1⟩
    obtain ⟨A1, c1, rfl, hc1, hm1', hB1⟩ := ho1.read
    have hown1 := hown0.below hb1
    have hbb := hb0.trans (hb1.mono hb0.size)
    have hsz : [b].length + (lowB v2 n).length ≤ 140737488355328 := by rw [HLL.out]; simp; omega
    go_wp2_with (refine wpList_append_bytes rfl _ _ rfl w.heap.size _ (.slice (some ⟨w.heap.size, 0, none⟩) 1 1) [b] rfl hown1 A1 (lowB v2 n) c1 rfl hB1 hsz hbb.size ?_; intro v' w2 hown2 hg2)
    go_ret
    exact ⟨_, rfl, by rw [HL.out]; exact hown2, below_grown hbb hg2 hbb.size (fun g e => (World.ownsRow.lt hown1 g e).1)⟩
end Go.Proofs.YtaggkcgeddoogaaDoor
