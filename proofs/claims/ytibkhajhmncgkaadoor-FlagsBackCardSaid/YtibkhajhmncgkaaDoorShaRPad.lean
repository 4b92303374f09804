/- The walk over the reference's Padded. -/
import Derived.Test.YtibkhajhmncgkaaDoorShaPad
namespace Go.Proofs.YtibkhajhmncgkaaDoor
open Go.RowKit

/-- What hands back bytes in memory of its own. -/
def BytesDone (w : World) (L : List UInt8) (e : Ending) (w' : World) : Prop := ∃ A c, e = .returned (.slice A L.length c) ∧ L.length ≤ c ∧ c ≤ 9223372036854775807 ∧ Bytes w' A L ∧ Below w.heap.size w w'
def pAt (i : Nat) : Nat := if i < 8 then 256 ^ (7 - i) else 0
theorem pAt_div (i : Nat) (h : i < 8) : pAt i / 256 = pAt (i + 1) := by
  match i, h with
  | 0, _ | 1, _ | 2, _ | 3, _ | 4, _ | 5, _ | 6, _ | 7, _ => rfl
theorem pAt_pos (i : Nat) (h : i < 8) : 0 < pAt i ∧ pAt i ≤ 72057594037927936 := by
  match i, h with
  | 0, _ | 1, _ | 2, _ | 3, _ | 4, _ | 5, _ | 6, _ | 7, _ => decide
def be8 (M : Nat) : List UInt8 := (List.range 8).map fun i => UInt8.ofNat (M / pAt i % 256)
theorem be8_succ (M i : Nat) (h : i < 8) : (be8 M).take (i + 1) = (be8 M).take i ++ [UInt8.ofNat (M / pAt i % 256)] := by
  rw [List.take_succ_eq_append_getElem (by simpa [be8] using h)]
  simp [be8]
theorem be8_eq (M : Nat) : be8 M = be4 (BitVec.ofNat 32 (M / 4294967296)) ++ be4 (BitVec.ofNat 32 M) := by
  have key : ∀ a b : Nat, a % 256 = b % 256 → UInt8.ofNat a = UInt8.ofNat b := fun a b h => by
    apply UInt8.toNat_inj.1; simp [UInt8.toNat_ofNat']; exact h
  have e : be8 M = [UInt8.ofNat (M / 72057594037927936 % 256), UInt8.ofNat (M / 281474976710656 % 256), UInt8.ofNat (M / 1099511627776 % 256), UInt8.ofNat (M / 4294967296 % 256), UInt8.ofNat (M / 16777216 % 256), UInt8.ofNat (M / 65536 % 256), UInt8.ofNat (M / 256 % 256), UInt8.ofNat (M / 1 % 256)] := rfl
  rw [e]
  unfold be4
  simp only [BitVec.toNat_ofNat, List.cons_append, List.nil_append]
  simp only [List.cons.injEq, and_true]
  refine ⟨key _ _ ?_, key _ _ ?_, key _ _ ?_, key _ _ ?_, key _ _ ?_, key _ _ ?_, key _ _ ?_, key _ _ ?_⟩ <;> omega
theorem padding_eq (n : Nat) : padding n = 128 :: (List.replicate (zerosOf n) 0 ++ be8 (8 * n)) := by
  unfold padding; rw [be8_eq]
/-- The bytes, the mark, so many zeros. -/
def padTo (l : List UInt8) (z : Nat) : List UInt8 := l ++ [128] ++ List.replicate z 0
theorem padTo_length (l : List UInt8) (z : Nat) : (padTo l z).length = l.length + 1 + z := by simp [padTo]; omega
theorem padTo_succ (l : List UInt8) (z : Nat) : padTo l (z + 1) = padTo l z ++ [0] := by simp [padTo, List.replicate_succ']
theorem padTo_end (l : List UInt8) : padTo l (zerosOf l.length) ++ (be8 (8 * l.length)).take 8 = l ++ padding l.length := by
  rw [padding_eq, List.take_of_length_le (by simp [be8])]
  simp [padTo]

set_option maxRecDepth 100000 in
set_option maxHeartbeats 2000000 in
theorem padded_any (A : Option Addr) (l : List UInt8) (c : Nat) (w : World) (hB : Bytes w A l) (hn : l.length ≤ 100000000) :
    Calls Tryd.prog 44 #[.slice A l.length c] w (BytesDone w (l ++ padding l.length)) := by
  have HE := Lib.hid (padTo_end l)
  have HZ := Lib.hid (zerosOf_lt l.length)
  have hb0 := below_one w (.cells #[] 5)
  have hown0 : Own w.heap.size (w.alloc (.cells #[] 5)) (.slice (some ⟨w.heap.size, 0, none⟩) 0 0) [] := Own.lit (base := w.heap.size) w [] (Nat.le_refl _) (by simp)
  have hB0 := hB.below hb0
  have HN := Lib.hid hn
  have hsz0 : ([] : List UInt8).length + l.length ≤ 140737488355328 := by simp; omega
  have hni : (l.length : Int) ≤ 100000000 := by omega
  clear hn hB
  go_enter Tryd.func44, Tryd.ntmps44
  go_wp2_with (first
    | (refine wpList_append_bytes rfl _ _ rfl w.heap.size _ (.slice (some ⟨w.heap.size, 0, none⟩) 0 0) [] rfl hown0 A l c rfl hB0 hsz0 hb0.size ?_; intro v1 w1 hown1 hg1; have hb1 := below_grown hb0 hg1 hb0.size (fun g e => (World.ownsRow.lt hown0 g e).1); rw [List.nil_append] at hown1; have hown2 := hown1.alloc (.cells #[.int .u8 128] 5); have hB2 : Bytes (w1.alloc (.cells #[.int .u8 128] 5)) (some ⟨w1.heap.size, 0, none⟩) [128] := Bytes.one w1 128; have hb2 := hb1.alloc hb1.size (.cells #[.int .u8 128] 5); clear hown1)
    | (refine wpList_append_bytes rfl _ _ rfl w.heap.size _ v1 l rfl hown2 _ [128] 1 rfl hB2 (by have := HN.out; simp; omega) hb2.size ?_; intro v2 w2 hown3 hg3; have hb3 := below_grown hb2 hg3 hb2.size (fun g e => (World.ownsRow.lt hown2 g e).1)))
  go_loopw [3] (fun v wr => ∃ z : Nat, z ≤ zerosOf l.length ∧ Own w.heap.size wr v (padTo l z) ∧ Below w.heap.size w wr) (fun v _ => zerosOf l.length + l.length + 1 - (match v with | .slice _ n _ => n | _ => 0))
  case atStart => exact ⟨0, by omega, by simpa [padTo] using hown3, hb3⟩
  case round =>
    obtain ⟨z, hz, hown, hb⟩ := hrel
    clear hown3 hg3 hb3 hB2 hown2 hb2 hg1 hb1 hown0 hb0 hB0
    obtain ⟨Az, cz, rfl, hcz, hmz, hBz⟩ := hown.read
    have hlen := padTo_length l z
    rw [hlen] at hcz hown ⊢
    have hzi : (z : Int) ≤ (zerosOf l.length : Int) := by omega
    have hNN := HN.out
    have hmod : ((l.length + 1 + z : Nat) : Int) % 64 = 56 ↔ z = zerosOf l.length := by unfold zerosOf at hz ⊢; omega
    have hz64 := HZ.out
    by_cases hlt : z < zerosOf l.length
    · have hne : ((l.length + 1 + z : Nat) : Int) % 64 ≠ 56 := fun h => by have := hmod.1 h; omega
      have HS := Lib.hid (padTo_succ l z)
      have HLN := Lib.hid hlen
      have hown2 := hown.alloc (.cells #[.int .u8 0] 5)
      have hB2 : Bytes (wr.alloc (.cells #[.int .u8 0] 5)) (some ⟨wr.heap.size, 0, none⟩) [0] := Bytes.one wr 0
      have hb2 := hb.alloc hb.size (.cells #[.int .u8 0] 5)
      have hsz : (padTo l z).length + [(0 : UInt8)].length ≤ 140737488355328 := by rw [hlen]; simp; omega
      obtain ⟨m, hm⟩ : ∃ m, l.length + 1 + z = m := ⟨_, rfl⟩
      rw [hm] at hne hown hown2 hcz ⊢
      have HM := Lib.hid hm
      have hmi : (m : Int) ≤ 100000100 := by omega
      have hne2 : ((m : Int) % 64 == 56) = false := by simpa using hne
      clear hmod hlen hne hm hz64 hNN
      generalize padTo l z = L at *
      go_wp2_with (refine wpList_append_bytes rfl _ _ rfl w.heap.size _ (.slice Az m cz) L rfl hown2 _ [0] 1 rfl hB2 hsz hb2.size ?_; intro v2 w2 hown3 hg3; rw [← HS.out] at hown3; have hb3 := below_grown hb2 hg3 hb2.size (fun g e => (World.ownsRow.lt hown2 g e).1))
      obtain ⟨A3, c3, rfl, _, _, _⟩ := hown3.read
      have hl3 := padTo_length l (z + 1)
      go_roundw
      case rel => exact ⟨z + 1, by omega, hown3, hb3⟩
      case measure => have := HM.out; simp [hl3]; omega
    · obtain rfl : z = zerosOf l.length := by omega
      have heq := hmod.2 rfl
      clear hmod
      obtain ⟨m, hm⟩ : ∃ m, l.length + 1 + zerosOf l.length = m := ⟨_, rfl⟩
      rw [hm] at heq hown hcz hlen ⊢
      have HM := Lib.hid hm
      have HLN := Lib.hid hlen
      have hmi : (m : Int) ≤ 100000100 := by omega
      clear hlen hm
      have HEO := HE.out
      generalize padTo l (zerosOf l.length) = L at *
      generalize l ++ padding l.length = LL at *
      have HEE := Lib.hid HEO
      clear HEO HE
      have HSB := Lib.hid (fun i h => be8_succ (8 * l.length) i h)
      have hM : (8 : Int) * (l.length : Int) = ((8 * l.length : Nat) : Int) := by omega
      have hMb : 8 * l.length ≤ 800000000 := by omega
      have HBL : Hid ((be8 (8 * l.length)).length = 8) := Lib.hid (by simp [be8])
      generalize 8 * l.length = M at *
      generalize be8 M = E at *
      go_wp2_with fail
      clear heq
      go_loopw [3, 5, 6] (fun v p i wx => ∃ k : Nat, k ≤ 8 ∧ i = .int .i64 k ∧ p = .int .u64 (pAt k : Nat) ∧ Own w.heap.size wx v (L ++ E.take k) ∧ Below w.heap.size w wx) (fun _ _ i _ => (8 - intOf i).toNat)
      case atStart => exact ⟨0, by omega, rfl, rfl, by simpa using hown, hb⟩
      case round =>
        obtain ⟨k, hk, rfl, rfl, hownk, hbk⟩ := hrel
        by_cases hk8 : k < 8
        · obtain ⟨p0, p1⟩ := pAt_pos k hk8
          have hpd := pAt_div k hk8
          obtain ⟨p2, hp2⟩ : ∃ p, pAt (k + 1) = p := ⟨_, rfl⟩
          rw [hp2] at hpd
          have HP2 := Lib.hid hp2
          have HS := Lib.hid (HSB.out k hk8)
          obtain ⟨B, hB⟩ : ∃ b, UInt8.ofNat (M / pAt k % 256) = b := ⟨_, rfl⟩
          rw [hB] at HS
          have hBn : (M : Int) / (pAt k : Int) % 256 = (B.toNat : Int) := by
            rw [← hB, UInt8.toNat_ofNat']
            rw [← Int.natCast_ediv]; omega
          have hdl := Nat.div_le_self M (pAt k)
          clear hp2 hB
          generalize pAt k = p at *
          have hdi : (M : Int) / (p : Int) = ((M / p : Nat) : Int) := (Int.natCast_ediv M p).symm
          generalize M / p = q at *
          have hp0 : (0 : Int) < (p : Int) := by omega
          have hpm : (p : Int) ≤ 72057594037927936 := by omega
          have hq : (q : Int) ≤ 800000000 := by omega
          have hpdi : (p : Int) / 256 = (p2 : Int) := by omega
          rw [hdi] at hBn
          have hBnw : IntKind.u8.wrap ((q : Int) % 256) = (B.toNat : Int) := by rw [IntKind.wrap_u8, hBn]; have := B.toNat_lt; omega
          have hown2 := hownk.alloc (.cells #[B8 B] 5)
          have hB2 : Bytes (wr.alloc (.cells #[B8 B] 5)) (some ⟨wr.heap.size, 0, none⟩) [B] := Bytes.one wr B
          have hb2 := hbk.alloc hbk.size (.cells #[B8 B] 5)
          have hsz : (L ++ E.take k).length + [B].length ≤ 140737488355328 := by rw [List.length_append, HLN.out, List.length_take]; simp; omega
          have HPD := Lib.hid hpdi
          clear hpd hpdi
          go_wp2_with (refine wpList_append_bytes rfl _ _ rfl w.heap.size _ u3 _ rfl hown2 _ [B] 1 rfl hB2 hsz hb2.size ?_; intro v2 w2 hown3 hg3; rw [List.append_assoc, ← HS.out] at hown3; have hb3 := below_grown hb2 hg3 hb2.size (fun g e => (World.ownsRow.lt hown2 g e).1))
          go_roundw
          case rel => exact ⟨k + 1, by omega, by go_num, by rw [HP2.out, ← HPD.out], hown3, hb3⟩
          case measure => simp [intOf]; omega
        · obtain rfl : k = 8 := by omega
          rw [HEE.out] at hownk
          obtain ⟨Aw, cw, rfl, hcw, hmw, hBw⟩ := hownk.read
          go_wp2_with fail
          go_ret
          exact ⟨Aw, cw, rfl, hcw, hmw, hBw, hbk⟩
end Go.Proofs.YtibkhajhmncgkaaDoor
