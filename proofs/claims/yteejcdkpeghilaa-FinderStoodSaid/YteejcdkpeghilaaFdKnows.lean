/- The finder's examples. -/
import Derived.Test.YteejcdkpeghilaaFdBest
import Derived.Lib.SlBytesConst
namespace Go.Proofs.Yteejcdkpeghilaa
open Go.RowKit

set_option maxRecDepth 100000 in
theorem Best_nil (place most : Int) (w : World) : Calls Try.prog 7 #[.pointer none, .int .i64 place, .int .i64 most] w fun e w' => e = .returned (.tuple #[.int .i64 0, .int .i64 0]) ∧ w = w' := by
  have HH := Lib.hid (has_nil place w)
  go_enter Try.func7, Try.ntmps7
  go_wp2_with fail
  refine HH.out.mono ?_
  rintro e w1 ⟨rfl, rfl⟩
  go_wp2_with fail
  go_ret2
  exact ⟨rfl, rfl⟩
def exA : List UInt8 := [97, 98, 99, 97, 98, 99, 97, 98, 100]
theorem exA_best : bestV exA 9 273 3 99 = (5, 3) := by decide +kernel
theorem exA_like : backOf exA 9 6 3 99 = 2 := by decide +kernel
def exV : Array Value := #[.int .u8 97, .int .u8 98, .int .u8 99, .int .u8 97, .int .u8 98, .int .u8 99, .int .u8 97, .int .u8 98, .int .u8 100]
theorem exA_bytes (w : World) : Bytes (w.alloc (.cells exV 5 (9, 10))) (some ⟨w.heap.size, 0, none⟩) exA := by
  refine .inr ⟨_, _, rfl, by simp, fun k hk => ?_⟩
  rw [cell_of_row _ _ _ exV 5 (9, 10) (heap_alloc_last _ _), Nat.zero_add]
  have hk9 : k < 9 := by simpa [exA] using hk
  match k, hk9 with
  | 0, _ | 1, _ | 2, _ | 3, _ | 4, _ | 5, _ | 6, _ | 7, _ | 8, _ => rfl
def KnowsDone (w : World) (e : Ending) (w' : World) : Prop := e = .returned (.bool true) ∧ Below w.heap.size w w'
set_option maxRecDepth 100000 in
set_option maxHeartbeats 2000000 in
theorem knows_any (w : World) : Calls Try.prog 5 #[] w (KnowsDone w) := by
  have kc := fun (w : World) (C : Array Value) (n c : Nat) => Lib.run_convert_bytes_const (P := Try.prog) w 22 5 C n c Try.underlying22 Try.underlying5
  have hB1 := exA_bytes w
  unfold exV at hB1
  have HN := Lib.hid (New_any _ exA 9 9 273 _ hB1 (by simp [exA]) (by simp [exA]) (by decide) (by decide) (by decide))
  have HB1 := Lib.hid ((Below.refl w.heap.size w).alloc (Nat.le_refl _) (.cells #[.int .u8 97, .int .u8 98, .int .u8 99, .int .u8 97, .int .u8 98, .int .u8 99, .int .u8 97, .int .u8 98, .int .u8 100] 5 (9, 10)))
  clear hB1
  go_enter Try.func5, Try.ntmps5
  go_wp2_with fail
  refine HN.out.mono ?_
  rintro e w1 ⟨F, A, c, mp, B, rfl, hR, hb⟩
  have HR := Lib.hid hR
  have HB2 := Lib.hid (HB1.out.trans (hb.mono HB1.out.size))
  clear hR hb
  go_wp2_with fail
  refine (new_bad (.slice none 0 0) 0 2 w1 (by decide)).mono ?_
  rintro e w2 ⟨rfl, rfl⟩
  go_wp2_with fail
  refine (Best_any F A c exA 9 273 mp B 3 99 w1 HR.out).mono ?_
  rintro e w2 ⟨rfl, hb⟩
  have HR2 := Lib.hid (HR.out.below hb)
  have HB3 := Lib.hid (HB2.out.trans (hb.mono HB2.out.size))
  clear hb
  rw [exA_best]
  go_wp2_with fail
  refine (Best_nil 0 9 w2).mono ?_
  rintro e w3 ⟨rfl, rfl⟩
  go_wp2_with fail
  refine (Like_any F A c exA 9 273 mp _ 6 3 99 w2 HR2.out.at_).mono ?_
  rintro e w3 ⟨rfl, m, rfl⟩
  rw [exA_like]
  go_wp2_with fail
  go_ret
  exact ⟨rfl, below_drewN HB3.out _⟩
end Go.Proofs.Yteejcdkpeghilaa
