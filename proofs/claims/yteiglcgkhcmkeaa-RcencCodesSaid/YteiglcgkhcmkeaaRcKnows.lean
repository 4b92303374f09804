/- The statements' examples of the range encoder. -/
import Derived.Test.YteiglcgkhcmkeaaRcPlain
import Derived.Test.YteiglcgkhcmkeaaRcBytes
namespace Go.Proofs.Yteiglcgkhcmkeaa
open Go.RowKit

theorem own_keep {w w' : World} {e o n cap : Nat} {xs : List Value} (h : w.ownsRow 0 e 1 (.slice (some ⟨o, 0, none⟩) n cap) n xs) (ho : w'.heap[o]? = w.heap[o]?) : w'.ownsRow 0 e 1 (.slice (some ⟨o, 0, none⟩) n cap) n xs := by
  rcases h with ⟨h1, h2 | ⟨g, cap', cur, h2, h3, h4, h5⟩⟩
  · exact ⟨h1, .inl h2⟩
  · injection h2 with e1 e2 e3
    injection e1 with e1
    injection e1 with e1
    subst e1 e3
    exact ⟨h1, .inr ⟨o, cap, cur, rfl, h3, ho.trans h4, h5⟩⟩
theorem EncAt.keep {w w' : World} {g o cap : Nat} {s : Rc.St} (h : EncAt w g o cap s) (hg : w'.heap[g]? = w.heap[g]?) (ho : w'.heap[o]? = w.heap[o]?) : EncAt w' g o cap s :=
  ⟨hg.trans h.blk, own_keep h.own ho, h.ne⟩
theorem EncAt.lt {w : World} {g o cap : Nat} {s : Rc.St} (h : EncAt w g o cap s) : g < w.heap.size ∧ o < w.heap.size :=
  ⟨block_lt_of_cell (cell0_of h.blk), (h.own.lt o rfl).2⟩
theorem EncAt.below {w w' : World} {g o cap : Nat} {s : Rc.St} (h : EncAt w g o cap s) (hb : Below w.heap.size w w') : EncAt w' g o cap s :=
  h.keep (hb.block g h.lt.1) (hb.block o h.lt.2)

set_option maxRecDepth 100000 in
set_option maxHeartbeats 400000 in
theorem knows_any (w : World) : Calls Try.prog 6 #[] w fun e w' => e = .returned (.bool true) ∧ Below w.heap.size w w' := by
  go_enter Try.func6, Try.ntmps6
  go_wp2_with fail
  refine (new_any _).mono ?_
  rintro e w1 ⟨g, o, cap, rfl, hE, hb1, hg, ho⟩
  go_wp2_with fail
  refine (bytes_any g o cap st0 _ hE (by decide)).mono ?_
  rintro e w2 ⟨v, rfl, hO, hb2⟩
  have hE2 := hE.below hb2
  obtain ⟨A, c, rfl, _, _, hB⟩ := hO.read
  have hs : (convert 38 9 (.slice A 5 c)).run Try.prog w2 = .ok (.string ⟨#[0, 0, 0, 0, 0]⟩) w2 := run_str hB c
  have hl : (Rc.be (5 + st0.k) st0.v).length = 5 := rfl
  rw [hl]
  go_wp2_with fail
  refine (plain_any g o cap st0 1#32 1 _ hE2 st0_ok (by decide)).mono ?_
  rintro e w3 ⟨rfl, o3, cap3, hE3, hon3, ho3⟩
  have hx : ((1#32).toNat % 2 ^ many 1) = 1 := by decide
  have hm : many 1 = 1 := by decide
  rw [hx, hm] at hE3
  rw [hx]
  have hst : st0.plain 1 1 = ⟨0, 2147483647, 2147483647⟩ := by rfl
  rw [hst] at hE3
  go_wp2_with fail
  refine (bytes_any g o3 cap3 _ _ hE3 (by decide)).mono ?_
  rintro e w4 ⟨v, rfl, hO4, hb4⟩
  obtain ⟨A4, c4, rfl, _, _, hB4⟩ := hO4.read
  have hs4 : (convert 38 9 (.slice A4 5 c4)).run Try.prog w4 = .ok (.string ⟨#[0, 127, 255, 255, 255]⟩) w4 := run_str hB4 c4
  have hl4 : (Rc.be (5 + (⟨0, 2147483647, 2147483647⟩ : Rc.St).k) (⟨0, 2147483647, 2147483647⟩ : Rc.St).v).length = 5 := rfl
  rw [hl4]
  go_wp2_with fail
  go_ret
  have h02 : Below w.heap.size w w2 := hb1.trans (hb2.mono hb1.size)
  have h03 : Below w.heap.size w w3 := h02.trans (hon3.below h02.size (by intro i hi; simp at hi; rcases hi with rfl | rfl <;> assumption))
  exact ⟨rfl, h03.trans (hb4.mono h03.size)⟩
end Go.Proofs.Yteiglcgkhcmkeaa
