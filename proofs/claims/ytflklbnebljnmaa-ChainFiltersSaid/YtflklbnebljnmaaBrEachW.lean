/- The walk over branch's each: the calls. -/
import Derived.Test.YtflklbnebljnmaaBrEach
namespace Go.Proofs.Ytflklbnebljnmaa
open Go.RowKit

/-- Bytes of one's own and an error's number come back. -/
def Gives (w : World) (l : List UInt8) (err : Int) (e : Ending) (w' : World) : Prop := ∃ v, e = .returned (.tuple #[v, .int .i64 err]) ∧ Own w.heap.size w' v l ∧ Below w.heap.size w w'

theorem infoC : (Try.prog.info? 70).map (fun i => (i.zero, i.size)) = some (some .nilFunc, 1) := by kernel_rfl

set_option maxRecDepth 100000 in
set_option maxHeartbeats 1000000 in
theorem each_none (id : Int) (start : Nat) (A : Option Addr) (n c : Nat) (f : Value) (w : World) (h : (id ≠ 5 ∧ id ≠ 7 ∧ id ≠ 9 ∧ id ≠ 10) ∨ start % 4 ≠ 0) :
    Calls Try.prog 41 #[.int .i64 id, .int .u32 (start : Nat), .slice A n c, f] w fun e w' => e = .returned (.tuple #[.slice none 0 0, .int .i64 1]) ∧ Below w.heap.size w w' := by
  have key : ∃ a, Instr.findNow (.int .i64) (.int .i64 id) ents.toList 0 = some a ∧ (a = none ∨ start % 4 ≠ 0) := by
    by_cases h5 : id = 5
    · subst h5; exact ⟨_, look_5, .inr (by omega)⟩
    by_cases h7 : id = 7
    · subst h7; exact ⟨_, look_7, .inr (by omega)⟩
    by_cases h9 : id = 9
    · subst h9; exact ⟨_, look_9, .inr (by omega)⟩
    by_cases h10 : id = 10
    · subst h10; exact ⟨_, look_10, .inr (by omega)⟩
    exact ⟨_, look_none id h5 h7 h9 h10, .inl rfl⟩
  obtain ⟨a, hf, ha⟩ := key
  have HF := Lib.hid hf
  clear hf h
  have hz := (zero_of_info infoC).1
  have HFA := Lib.hid (filters_any w)
  go_enter Try.func41, Try.ntmps41
  go_wp2_with fail
  refine HFA.out.mono ?_
  rintro e w1 ⟨r, rfl, hr, hrl, hb⟩
  have hl := run_look w1 r id hr a HF.out .nilFunc (hz w1)
  clear hz hr
  cases a with
  | none =>
    simp only [Option.map_none, Option.getD_none, Option.isSome_none] at hl
    go_wp2_with fail
    go_ret2
    exact ⟨rfl, hb⟩
  | some q =>
    have hs : start % 4 ≠ 0 := by simpa using ha
    have hs' : ((start : Int) % 4 != 0) = true := by simp; omega
    simp only [Option.map_some, Option.getD_some, Option.isSome_some] at hl
    clear ha hs
    generalize q.2 = qv at *
    go_wp2_with fail
    go_ret2
    exact ⟨rfl, hb⟩

theorem word_lt (low : Bool) (a b c d : UInt8) : word low a b c d < 4294967296 := by
  have h1 := a.toNat_lt; have h2 := b.toNat_lt; have h3 := c.toNat_lt; have h4 := d.toNat_lt
  unfold word; split <;> omega
theorem own_list {base : Nat} {w : World} {v : Value} {l : List UInt8} {n : Nat} (h : Own base w v l) (hn : n = l.length) : w.ownsRow base 5 1 v n (l.map B8) := by subst hn; exact h

set_option maxRecDepth 100000 in
set_option maxHeartbeats 4000000 in
theorem each_yes (id : Int) (low : Bool) (F L q : Nat) (cv : Nat → Nat → Nat) (hid : (id == 7 || id == 10) = low) (hlk : Instr.findNow (.int .i64) (.int .i64 id) ents.toList 0 = some (some (q, .func (.func F) #[] #[])))
    (hF : ∀ (args : Array Value) (w : World), (callFunc F args).run Try.prog w = .ok (.enter F args) w)
    (hcv : ∀ (W P : Nat) (w : World), W < 4294967296 → P < 4294967296 → Calls Try.prog F #[.int .u32 (W : Nat), .int .u32 (P : Nat), .func (.func L) #[] #[]] w fun e w' => e = .returned (.int .u32 (cv W P : Nat)) ∧ w = w')
    (hlt : ∀ W P, W < 4294967296 → cv W P < 4294967296)
    (start : Nat) (hst : start < 4294967296) (hs4 : start % 4 = 0) (A : Option Addr) (l : List UInt8) (c : Nat) (w : World) (hB : Bytes w A l) (hm : l.length ≤ 140737488355328) :
    Calls Try.prog 41 #[.int .i64 id, .int .u32 (start : Nat), .slice A l.length c, .func (.func L) #[] #[]] w (Gives w (coded low cv start l) 0) := by
  have HF := Lib.hid hlk
  have HFN := Lib.hid hF
  have HCV := Lib.hid hcv
  have HLT := Lib.hid hlt
  have HID := Lib.hid hid
  have hz := (zero_of_info infoC).1
  have HFA := Lib.hid (filters_any w)
  have hs' : ((start : Int) % 4 != 0) = false := by simp; omega
  clear hlk hF hcv hlt hid
  go_enter Try.func41, Try.ntmps41
  go_wp2_with fail
  refine HFA.out.mono ?_
  rintro e w1 ⟨r, rfl, hr, hrl, hb⟩
  have hl := run_look w1 r id hr _ HF.out .nilFunc (hz w1)
  clear hz hr
  simp only [Option.map_some, Option.getD_some, Option.isSome_some] at hl
  have hon : Own w.heap.size w1 (.slice none 0 0) [] := Own.nil _ _
  have hfit : ([] : List UInt8).length + l.length ≤ 140737488355328 := by simpa using hm
  have hwb := hb.size
  go_wp2_with (at_builtin; refine wpList_append_bytes rfl (.const (.slice none 0 0)) (.tmp 28) rfl w.heap.size _ (.slice none 0 0) [] rfl hon A l c rfl (hB.below hb) hfit hwb ?_; intro v1 w2 ho1 hg1)
  have hb2 : Below w.heap.size w w2 := below_grown hb hg1 hwb (by simp [Value.ownBlock])
  rw [List.nil_append] at ho1
  obtain ⟨A2, c2, rfl, hlc, hcm, _⟩ := ho1.read
  clear hon hfit hl hwb hb hg1 hs' hrl
  go_loopw [13] (fun i wr => ∃ k : Nat, 4 * k ≤ l.length ∧ i = .int .i64 (4 * k : Nat) ∧ Own w.heap.size wr (.slice A2 l.length c2) (pre low cv start l k ++ l.drop (4 * k)) ∧ Below w.heap.size w wr) (fun i _ => l.length - (intOf i).toNat)
  case atStart => exact ⟨0, by omega, rfl, by simpa [pre] using ho1, hb2⟩
  case round =>
    clear ho1 hb2
    obtain ⟨k, hk, rfl, hown, hb⟩ := hrel
    by_cases hlt : 4 * k + 4 ≤ l.length
    · obtain ⟨a, b, c, d, t, e⟩ := drop_four l (4 * k) hlt
      have hpl := pre_length low cv start l k hk
      have hgrp : Hid (pre low cv start l (k + 1) ++ l.drop (4 * (k + 1)) = pre low cv start l k ++ bytesOf low (cv (word low a b c d) ((start + 4 * k) % 4294967296)) ++ t) := by
        apply Lib.hid
        have h2 : l.drop (4 * (k + 1)) = t := by
          rw [show 4 * (k + 1) = 4 * k + 4 by omega, ← List.drop_drop, e]; rfl
        rw [h2]; simp only [pre, grp, e]
      rw [e] at hown
      have hll : l.length = (pre low cv start l k ++ a :: b :: c :: d :: t).length := by
        have := congrArg List.length e
        simp at this
        simp [hpl]; omega
      generalize pre low cv start l k = R at *
      have how := own_list hown hll
      obtain ⟨g, cap, hgc, hgb, hglt⟩ := World.ownsRow.form how (by omega)
      injection hgc with hgc1 _ hgc3
      subst hgc1; subst hgc3
      have hc : ∀ j (hj : j < 4), wr.cell? ⟨g, 4 * k + j, none⟩ = some (B8 ([a, b, c, d][j])) := by
        intro j hj
        rw [how.cellAt (4 * k + j) (by omega), List.getElem?_map, List.getElem?_append_right (by omega), hpl]
        rw [show 4 * k + j - 4 * k = j by omega]
        match j, hj with
        | 0, _ => rfl
        | 1, _ => rfl
        | 2, _ => rfl
        | 3, _ => rfl
      have h0 := hc 0 (by omega)
      have h1 := hc 1 (by omega)
      have h2 := hc 2 (by omega)
      have h3 := hc 3 (by omega)
      rw [Nat.add_zero] at h0
      simp only [List.getElem_cons_zero, List.getElem_cons_succ] at h0 h1 h2 h3
      have HG := Lib.hid (get_any id g (4 * k) (c2 - 4 * k) a b c d wr h0 h1 h2 h3)
      rw [HID.out] at HG
      have hwl := word_lt low a b c d
      have hcl := HLT.out (word low a b c d) ((start + 4 * k) % 4294967296) hwl
      have HC := Lib.hid (fun w' => HCV.out (word low a b c d) ((start + 4 * k) % 4294967296) w' hwl (by omega))
      generalize word low a b c d = W at *
      generalize cv W ((start + 4 * k) % 4294967296) = V at *
      have hH := HFN.out
      have k0 : ¬ c2 = 4 * k := by omega
      clear hc h0 h1 h2 h3 e
      have HPL := Lib.hid hpl
      have HLL := Lib.hid hll
      clear hpl hll
      go_wp2_with fail
      ((with_reducible refine HG.out.mono ?_); rintro e w3 ⟨rfl, hb3⟩)
      have how3 : w3.ownsRow w.heap.size 5 1 (.slice (some ⟨g, 0, none⟩) l.length c2) l.length ((R ++ a :: b :: c :: d :: t).map B8) := own_list (hown.below hb3) HLL.out
      have hpl : ((start : Int) + 4 * (k : Int) % 4294967296) % 4294967296 = (((start + 4 * k) % 4294967296 : Nat) : Int) := by omega
      have HPU := Lib.hid (put_own id low HID.out w.heap.size g l.length c2 (c2 - 4 * k) (4 * k) V R t a b c d w3 hcl HPL.out hgb HLL.out how3)
      have hbw := hb.trans (hb3.mono hb.size)
      generalize (start + 4 * k) % 4294967296 = PL at *
      clear how how3 hb3 hown hb
      go_wp2_with fail
      refine (HC.out w3).mono ?_
      rintro e w' ⟨rfl, rfl⟩
      go_wp2_with fail
      refine HPU.out.mono ?_
      rintro e w4 ⟨rfl, ho4, hb4⟩
      go_wp2_with fail
      go_roundw
      case rel => exact ⟨k + 1, by omega, by go_num, by rw [hgrp.out]; exact ho4, hbw.trans hb4⟩
      case measure => simp [intOf]; omega
    · have hkk : l.length / 4 = k := by omega
      have HCD : Hid (pre low cv start l k ++ l.drop (4 * k) = coded low cv start l) := by
        apply Lib.hid; unfold coded; rw [hkk]
      clear hkk
      go_wp2_with fail
      go_ret2
      exact ⟨_, rfl, by rw [← HCD.out]; exact hown, hb⟩
end Go.Proofs.Ytflklbnebljnmaa
