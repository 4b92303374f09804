/- The walk over the reference's Put of a number. -/
import Derived.Test.YthfmhjpmcapcbaaDoorVliRef
import Derived.Test.YthfmhjpmcapcbaaDoorVliPut
import Derived.Deep.RegionHeld3
namespace Go.Proofs.YthfmhjpmcapcbaaDoor
open Go.RowKit

def GivesB (w : World) (l : List UInt8) (e : Ending) (w' : World) : Prop := ∃ v, e = .returned v ∧ Own w.heap.size w' v l ∧ Below w.heap.size w w'
theorem below_after {a b c : World} (h : Below a.heap.size a b) (k : Below b.heap.size b c) : Below a.heap.size a c := h.trans (k.mono h.size)

set_option maxRecDepth 100000 in
set_option maxHeartbeats 1000000 in
theorem rput_any : ∀ (f n : Nat) (w : World), f ≤ 20 → n < 128 ^ (f + 1) → n < 18446744073709551616 → Calls Tryd.prog 22 #[.int .u64 (n : Nat)] w (GivesB w (Vl.put f n))
  | f, n, w, hf, hn, h64 => by
    by_cases hs : n < 128
    · have hsi : (n : Int) < 128 := by omega
      have hp := Vl.put_small (f := f) hs
      have hx : (n : Int) = ((UInt8.ofNat n).toNat : Int) := by rw [UInt8.toNat_ofNat']; omega
      have HP := Lib.hid hp
      have ho : Own w.heap.size (w.alloc (.cells #[.int .u8 (n : Int)] 5)) (.slice (some ⟨w.heap.size, 0, none⟩) 1 1) [UInt8.ofNat n] := by
        have := Own.lit w [UInt8.ofNat n] (Nat.le_refl _) (by simp)
        rw [hx]; exact this
      clear hp hx
      go_enter Tryd.func22, Tryd.ntmps22
      go_wp2_with fail
      go_ret
      exact ⟨_, rfl, by rw [HP.out]; exact ho, (Below.refl _ _).alloc (Nat.le_refl _) _⟩
    · have hsi : ¬ (n : Int) < 128 := by omega
      match f with
      | 0 => exact absurd (by simpa using hn) hs
      | f + 1 =>
        have hn2 : n / 128 < 128 ^ (f + 1) := by
          rw [Nat.div_lt_iff_lt_mul (by omega)]; rw [Nat.pow_succ] at hn; exact hn
        have HP := Lib.hid (Vl.put_big (f := f) hs)
        have hx : (n : Int) % 128 + 128 = ((UInt8.ofNat (n % 128 + 128)).toNat : Int) := by rw [UInt8.toNat_ofNat']; omega
        have hq : (n : Int) / 128 = ((n / 128 : Nat) : Int) := by omega
        have ho : Own w.heap.size (w.alloc (.cells #[.int .u8 ((UInt8.ofNat (n % 128 + 128)).toNat : Int)] 5)) (.slice (some ⟨w.heap.size, 0, none⟩) 1 1) [UInt8.ofNat (n % 128 + 128)] := Own.lit w [UInt8.ofNat (n % 128 + 128)] (Nat.le_refl _) (by simp)
        have ih := rput_any f (n / 128) (w.alloc (.cells #[.int .u8 ((UInt8.ofNat (n % 128 + 128)).toNat : Int)] 5)) (by omega) hn2 (by omega)
        have hlen := (Vl.put_length f (n / 128)).2
        generalize Vl.put f (n / 128) = r at *
        have hxl : (UInt8.ofNat (n % 128 + 128)).toNat < 256 := (UInt8.ofNat (n % 128 + 128)).toNat_lt
        have HX : Hid (∀ u, Value.int .u8 ((UInt8.ofNat (n % 128 + 128)).toNat : Int) = u → B8 (UInt8.ofNat (n % 128 + 128)) = u) := fun u h => h
        generalize n / 128 = n2 at *
        generalize hX : UInt8.ofNat (n % 128 + 128) = X at *
        generalize hXn : X.toNat = xn at *
        have IH := Lib.hid ih
        have hb0 : Below w.heap.size w (w.alloc (.cells #[.int .u8 (xn : Int)] 5)) := (Below.refl _ _).alloc (Nat.le_refl _) _
        clear hX hXn ih HX
        go_enter Tryd.func22, Tryd.ntmps22
        go_wp2_with fail
        refine IH.out.mono ?_
        rintro e w1 ⟨v1, rfl, hO1, hb1⟩
        obtain ⟨A1, c1, rfl, hc1, hm1, hB1⟩ := hO1.read
        have ho1 := ho.below hb1
        have hb2 : Below w.heap.size w w1 := hb0.trans (hb1.mono hb0.size)
        have hfit : [X].length + r.length ≤ 140737488355328 := by simp; omega
        go_wp2_with (at_builtin; refine wpList_append_bytes rfl (.tmp 12) (.tmp 15) rfl w.heap.size _ _ [X] rfl ho1 A1 r c1 rfl hB1 hfit hb2.size ?_; intro v2 w4 ho4 hg4; have hb4 : Below w.heap.size w w4 := below_grown hb2 hg4 hb2.size (fun g' hg' => (ho1.from_base g' hg').1))
        go_ret
        exact ⟨_, rfl, by rw [HP.out]; exact ho4, hb4⟩
end Go.Proofs.YthfmhjpmcapcbaaDoor
