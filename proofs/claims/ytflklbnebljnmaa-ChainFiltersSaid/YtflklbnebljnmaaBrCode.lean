/- Encode and Decode of branch; the reference's Number and Four. -/
import Derived.Test.YtflklbnebljnmaaBrMath
namespace Go.Proofs.Ytflklbnebljnmaa
open Go.RowKit

def lowOf (id : Int) : Bool := id == 7 || id == 10
/-- What the filters make of a word. -/
def cvOf (id : Int) (back : Bool) (W P : Nat) : Nat := if id = 5 then rPpc back W P else if id = 7 then rArm back W P else if id = 9 then rSparc back W P else rArm64 back W P
def isId (id : Int) : Prop := id = 5 ∨ id = 7 ∨ id = 9 ∨ id = 10
theorem ids_lt (back : Bool) (W P : Nat) (hW : W < 4294967296) : rPpc back W P < 4294967296 ∧ rArm back W P < 4294967296 ∧ rSparc back W P < 4294967296 ∧ rArm64 back W P < 4294967296 := by
  have h1 := tld_lt back (W / 4 % 16777216) (P / 4) 16777216 (by omega)
  have h2 := tld_lt back (W % 16777216) (P / 4 + 2) 16777216 (by omega)
  have h3 := sgn_lt _ 8388608 1073741824 (tld_lt back (W % 8388608) (P / 4) 8388608 (by omega)) (by omega)
  have h4 := tld_lt back (W % 67108864) (P / 4) 67108864 (by omega)
  have h5 := sgn_lt _ 262144 2097152 (tld_lt back (pageNo W % 262144) (P / 4096) 262144 (by omega)) (by omega)
  refine ⟨?_, ?_, ?_, ?_⟩
  · unfold rPpc; split <;> omega
  · unfold rArm; split <;> omega
  · unfold rSparc; split <;> omega
  · unfold rArm64 rPageOf
    split
    · omega
    · split
      · generalize sgn (tld back (pageNo W % 262144) (P / 4096) 262144) 262144 2097152 = U at *
        have : U % 4 < 4 := by omega
        omega
      · omega
theorem cvOf_lt (id : Int) (back : Bool) (W P : Nat) (hW : W < 4294967296) : cvOf id back W P < 4294967296 := by
  obtain ⟨h1, h2, h3, h4⟩ := ids_lt back W P hW
  unfold cvOf; split
  · exact h1
  · split
    · exact h2
    · split
      · exact h3
      · exact h4
theorem cvOf_back (id : Int) (back : Bool) (W P : Nat) (hW : W < 4294967296) : cvOf id (!back) (cvOf id back W P) P = W := by
  unfold cvOf; split
  · exact rPpc_back back W P
  · split
    · exact rArm_back back W P
    · split
      · exact rSparc_back back W P hW
      · exact rArm64_back back W P

theorem enters {f : FuncId} {fn : Func} (hf : Try.prog.funcs[f]? = some fn) (hn : fn.name ≠ "runtime.NumGoroutine") (hb : fn.body.isNone = false) (args : Array Value) (w : World) : (callFunc f args).run Try.prog w = .ok (.enter f args) w := by
  have hb' : ¬ fn.body = none := by intro h; simp [h] at hb
  simp [callFunc, hf, hn, hb']
theorem enter21 (args : Array Value) (w : World) : (callFunc 50 args).run Try.prog w = .ok (.enter 50 args) w := enters Try.func50 (by decide) (by rfl) args w
theorem enter23 (args : Array Value) (w : World) : (callFunc 52 args).run Try.prog w = .ok (.enter 52 args) w := enters Try.func52 (by decide) (by rfl) args w
theorem enter24 (args : Array Value) (w : World) : (callFunc 53 args).run Try.prog w = .ok (.enter 53 args) w := enters Try.func53 (by decide) (by rfl) args w
theorem enter26 (args : Array Value) (w : World) : (callFunc 55 args).run Try.prog w = .ok (.enter 55 args) w := enters Try.func55 (by decide) (by rfl) args w

theorem pre_congr (low : Bool) (cv cv' : Nat → Nat → Nat) (h : ∀ W P, W < 4294967296 → P < 4294967296 → cv W P = cv' W P) (start : Nat) (l : List UInt8) (k : Nat) : pre low cv start l k = pre low cv' start l k := by
  induction k with
  | zero => rfl
  | succ k ih =>
    simp only [pre, ih]
    congr 1
    unfold grp
    split
    · rw [h _ _ (word_lt _ _ _ _ _) (by omega)]
    · rfl
theorem coded_congr (low : Bool) (cv cv' : Nat → Nat → Nat) (h : ∀ W P, W < 4294967296 → P < 4294967296 → cv W P = cv' W P) (start : Nat) (l : List UInt8) : coded low cv start l = coded low cv' start l := by
  unfold coded; rw [pre_congr low cv cv' h]

theorem each_any (id : Int) (hid : isId id) (back : Bool) (start : Nat) (hst : start < 4294967296) (hs4 : start % 4 = 0) (A : Option Addr) (l : List UInt8) (c : Nat) (w : World) (hB : Bytes w A l) (hm : l.length ≤ 140737488355328) :
    Calls Try.prog 41 #[.int .i64 id, .int .u32 (start : Nat), .slice A l.length c, .func (.func (litOf back)) #[] #[]] w (Gives w (coded (lowOf id) (cvOf id back) start l) 0) := by
  rcases hid with rfl | rfl | rfl | rfl
  · rw [coded_congr _ (cvOf 5 back) (ppc back) (fun W P h1 h2 => by simp [cvOf, ppc_eq back W P h1 h2])]
    refine each_yes 5 _ _ _ _ _ rfl look_5 enter21 (fun W P w h1 h2 => ppc_any back W P w h1 h2) (fun W P h => ?_) start hst hs4 A l c w hB hm
    unfold ppc; split
    · exact mix_lt _ _ _ _ (by omega) (by omega) h
    · exact h
  · rw [coded_congr _ (cvOf 7 back) (arm back) (fun W P h1 h2 => by simp [cvOf, arm_eq back W P h1 h2])]
    refine each_yes 7 _ _ _ _ _ rfl look_7 enter23 (fun W P w h1 h2 => arm_any back W P w h1 h2) (fun W P h => ?_) start hst hs4 A l c w hB hm
    unfold arm; split
    · exact mix_lt _ _ _ _ (by omega) (by omega) h
    · exact h
  · rw [coded_congr _ (cvOf 9 back) (sparc back) (fun W P h1 h2 => by simp [cvOf, sparc_eq back W P h1 h2])]
    refine each_yes 9 _ _ _ _ _ rfl look_9 enter24 (fun W P w h1 h2 => sparc_any back W P w h1 h2) (fun W P h => ?_) start hst hs4 A l c w hB hm
    unfold sparc; split
    · exact mix_lt _ _ _ _ (by omega) (by omega) (by omega)
    · exact h
  · rw [coded_congr _ (cvOf 10 back) (arm64 back) (fun W P h1 h2 => by simp [cvOf, arm64_eq back W P h1 h2])]
    refine each_yes 10 _ _ _ _ _ rfl look_10 enter26 (fun W P w h1 h2 => arm64_any back W P w h1 h2) (fun W P h => ?_) start hst hs4 A l c w hB hm
    unfold arm64; split
    · exact mix_lt _ _ _ _ (by omega) (by omega) h
    · unfold page; split
      · exact mix_lt _ _ _ _ (by omega) (by omega) (mix_lt _ _ _ _ (by omega) (by omega) h)
      · exact h

def codeFn (back : Bool) : Nat := if back then 35 else 33
set_option maxHeartbeats 400000 in
theorem encode_any (id : Int) (hid : isId id) (start : Nat) (hst : start < 4294967296) (hs4 : start % 4 = 0) (A : Option Addr) (l : List UInt8) (c : Nat) (w : World) (hB : Bytes w A l) (hm : l.length ≤ 140737488355328) :
    Calls Try.prog 33 #[.int .i64 id, .int .u32 (start : Nat), .slice A l.length c] w (Gives w (coded (lowOf id) (cvOf id false) start l) 0) := by
  have HE := Lib.hid (each_any id hid false start hst hs4 A l c w hB hm)
  rw [lit_on] at HE
  clear hs4
  generalize coded (lowOf id) (cvOf id false) start l = X at *
  go_enter Try.func33, Try.ntmps33
  go_wp2_with fail
  refine HE.out.mono ?_
  rintro e w1 ⟨v, rfl, ho, hb⟩
  go_wp2_with fail
  go_ret2
  exact ⟨v, rfl, ho, hb⟩
set_option maxHeartbeats 400000 in
theorem decode_any (id : Int) (hid : isId id) (start : Nat) (hst : start < 4294967296) (hs4 : start % 4 = 0) (A : Option Addr) (l : List UInt8) (c : Nat) (w : World) (hB : Bytes w A l) (hm : l.length ≤ 140737488355328) :
    Calls Try.prog 35 #[.int .i64 id, .int .u32 (start : Nat), .slice A l.length c] w (Gives w (coded (lowOf id) (cvOf id true) start l) 0) := by
  have HE := Lib.hid (each_any id hid true start hst hs4 A l c w hB hm)
  rw [lit_back] at HE
  clear hs4
  generalize coded (lowOf id) (cvOf id true) start l = X at *
  go_enter Try.func35, Try.ntmps35
  go_wp2_with fail
  refine HE.out.mono ?_
  rintro e w1 ⟨v, rfl, ho, hb⟩
  go_wp2_with fail
  go_ret2
  exact ⟨v, rfl, ho, hb⟩
set_option maxHeartbeats 400000 in
theorem encode_no (id : Int) (start : Nat) (A : Option Addr) (n c : Nat) (w : World) (h : ¬ isId id ∨ start % 4 ≠ 0) :
    Calls Try.prog 33 #[.int .i64 id, .int .u32 (start : Nat), .slice A n c] w fun e w' => e = .returned (.tuple #[.slice none 0 0, .int .i64 1]) ∧ Below w.heap.size w w' := by
  have HE := Lib.hid (each_none id start A n c (.func (.func 42) #[] #[]) w (by unfold isId at h; omega))
  clear h
  go_enter Try.func33, Try.ntmps33
  go_wp2_with fail
  refine HE.out.mono ?_
  rintro e w1 ⟨rfl, hb⟩
  go_wp2_with fail
  go_ret2
  exact ⟨rfl, hb⟩
set_option maxHeartbeats 400000 in
theorem decode_no (id : Int) (start : Nat) (A : Option Addr) (n c : Nat) (w : World) (h : ¬ isId id ∨ start % 4 ≠ 0) :
    Calls Try.prog 35 #[.int .i64 id, .int .u32 (start : Nat), .slice A n c] w fun e w' => e = .returned (.tuple #[.slice none 0 0, .int .i64 1]) ∧ Below w.heap.size w w' := by
  have HE := Lib.hid (each_none id start A n c (.func (.func 44) #[] #[]) w (by unfold isId at h; omega))
  clear h
  go_enter Try.func35, Try.ntmps35
  go_wp2_with fail
  refine HE.out.mono ?_
  rintro e w1 ⟨rfl, hb⟩
  go_wp2_with fail
  go_ret2
  exact ⟨rfl, hb⟩
end Go.Proofs.Ytflklbnebljnmaa
