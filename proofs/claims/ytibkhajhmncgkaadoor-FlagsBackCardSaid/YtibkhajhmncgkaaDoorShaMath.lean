/- The words that a block gives, and the rounds. -/
import Derived.Test.YtibkhajhmncgkaaDoorShaBits
namespace Go.Proofs.YtibkhajhmncgkaaDoor
open Go.RowKit

abbrev U32 (x : BitVec 32) : Value := .int .u32 (x.toNat : Nat)
/-- Four bytes' word, the highest first. -/
def be (a b c d : UInt8) : BitVec 32 := BitVec.ofNat 32 (a.toNat * 16777216 + b.toNat * 65536 + c.toNat * 256 + d.toNat)
theorem be_nat (a b c d : UInt8) : (be a b c d).toNat = a.toNat * 16777216 + b.toNat * 65536 + c.toNat * 256 + d.toNat := by
  have h1 := a.toNat_lt; have h2 := b.toNat_lt; have h3 := c.toNat_lt; have h4 := d.toNat_lt
  unfold be; rw [BitVec.toNat_ofNat]; omega
theorem or_low (a b k : Nat) (ha : a < 2 ^ k) : b * 2 ^ k ||| a = b * 2 ^ k + a := by
  rw [← Nat.shiftLeft_eq, ← Nat.shiftLeft_add_eq_or_of_lt ha]
theorem be_of (a b c d : UInt8) :
    bits .or .u32 (bits .or .u32 (bits .or .u32 (IntKind.u32.wrap (IntKind.u32.wrap (a.toNat : Int) * 16777216)) (IntKind.u32.wrap (IntKind.u32.wrap (b.toNat : Int) * 65536))) (IntKind.u32.wrap (IntKind.u32.wrap (c.toNat : Int) * 256))) (IntKind.u32.wrap (d.toNat : Int)) = ((be a b c d).toNat : Int) := by
  have h1 := a.toNat_lt; have h2 := b.toNat_lt; have h3 := c.toNat_lt; have h4 := d.toNat_lt
  rw [be_nat]
  generalize a.toNat = a at *
  generalize b.toNat = b at *
  generalize c.toNat = c at *
  generalize d.toNat = d at *
  have w0 : ∀ x : Nat, x < 256 → IntKind.u32.wrap (x : Int) = (x : Int) := fun x hx => by rw [IntKind.wrap_u32]; omega
  rw [w0 a (by omega), w0 b (by omega), w0 c (by omega), w0 d (by omega)]
  have e1 : IntKind.u32.wrap ((a : Int) * 16777216) = ((a * 2 ^ 24 : Nat) : Int) := by rw [IntKind.wrap_u32]; omega
  have e2 : IntKind.u32.wrap ((b : Int) * 65536) = ((b * 2 ^ 16 : Nat) : Int) := by rw [IntKind.wrap_u32]; omega
  have e3 : IntKind.u32.wrap ((c : Int) * 256) = ((c * 2 ^ 8 : Nat) : Int) := by rw [IntKind.wrap_u32]; omega
  have o1 : a * 2 ^ 24 ||| b * 2 ^ 16 = (a * 256 + b) * 2 ^ 16 := by rw [or_low _ _ 24 (by omega)]; omega
  have o2 : (a * 256 + b) * 2 ^ 16 ||| c * 2 ^ 8 = (a * 65536 + b * 256 + c) * 2 ^ 8 := by rw [or_low _ _ 16 (by omega)]; omega
  have o3 : (a * 65536 + b * 256 + c) * 2 ^ 8 ||| d = (a * 65536 + b * 256 + c) * 2 ^ 8 + d := or_low _ _ 8 (by omega)
  rw [e1, e2, e3, u32_or_nat _ _ (by omega) (by omega), o1, u32_or_nat _ _ (by omega) (by omega), o2, u32_or_nat _ _ (by omega) (by omega), o3]
  omega

def s0 (x : BitVec 32) : BitVec 32 := rot 7 x ^^^ rot 18 x ^^^ (x >>> 3)
def s1 (x : BitVec 32) : BitVec 32 := rot 17 x ^^^ rot 19 x ^^^ (x >>> 10)
def wordAt (blk : List UInt8) (i : Nat) : BitVec 32 := be (blk.getD (4 * i) 0) (blk.getD (4 * i + 1) 0) (blk.getD (4 * i + 2) 0) (blk.getD (4 * i + 3) 0)
def nextW (blk : List UInt8) (l : List (BitVec 32)) (n : Nat) : BitVec 32 := if n < 16 then wordAt blk n else l.getD (n - 16) 0 + s0 (l.getD (n - 15) 0) + l.getD (n - 7) 0 + s1 (l.getD (n - 2) 0)
/-- The first n words of a block. -/
def schedTo (blk : List UInt8) : Nat → List (BitVec 32)
  | 0 => []
  | n + 1 => schedTo blk n ++ [nextW blk (schedTo blk n) n]
theorem schedTo_length (blk : List UInt8) (n : Nat) : (schedTo blk n).length = n := by
  induction n with
  | zero => rfl
  | succ n ih => simp [schedTo, ih]
def cellW (blk : List UInt8) (n i : Nat) : Value := U32 ((schedTo blk n).getD i 0)
theorem cellW_set (blk : List UInt8) (n : Nat) : ∀ i, (if i = n then U32 (nextW blk (schedTo blk n) n) else cellW blk n i) = cellW blk (n + 1) i := by
  intro i
  have hl := schedTo_length blk n
  unfold cellW
  simp only [schedTo]
  by_cases h : i = n
  · subst h
    rw [if_pos rfl, List.getD_eq_getElem?_getD, List.getElem?_append_right (by omega), hl, Nat.sub_self]; rfl
  · rw [if_neg h, List.getD_eq_getElem?_getD, List.getD_eq_getElem?_getD]
    by_cases h2 : i < n
    · rw [List.getElem?_append_left (by omega)]
    · rw [List.getElem?_eq_none (by omega), List.getElem?_eq_none (by simp; omega)]
def words (blk : List UInt8) : Array Value := ((List.range 64).map fun i => cellW blk 64 i).toArray
def zero64 : Array Value := Array.replicate 64 (.int .u32 0)
theorem infoW : (Tryd.prog.info? 91).map (fun i => (i.zero, i.size)) = some (some (.agg zero64), 64) := by kernel_rfl
theorem zsizeW : (Tryd.prog.info? 91).map (·.size) = some 64 := by kernel_rfl
theorem rowW_new (blk : List UInt8) (w : World) : (w.alloc (.cells zero64 91)).rowIs w.heap.size 91 64 (cellW blk 0) := by
  have h := World.rowIs_alloc w zero64 91 (cellW blk 0) (fun i hi => by
    unfold zero64 at hi ⊢
    rw [Array.getElem?_replicate, if_pos (by simpa using hi)]; simp [cellW, schedTo])
  have e : zero64.size = 64 := by simp [zero64]
  rwa [e] at h
theorem words_eq (blk : List UInt8) {cs : Array Value} (hn : cs.size = 64) (hv : ∀ i, i < 64 → cs[i]? = some (cellW blk 64 i)) : cs = words blk := by
  apply Array.ext_getElem?
  intro i
  by_cases hi : i < 64
  · rw [hv i hi]
    unfold words
    rw [List.getElem?_toArray, List.getElem?_map, List.getElem?_range hi]; rfl
  · rw [Array.getElem?_eq_none (by omega), Array.getElem?_eq_none (by simp [words]; omega)]
theorem words_one (blk : List UInt8) : (words blk).all (·.oneCell') = true := by
  unfold words
  rw [List.all_toArray, List.all_map, List.all_eq_true]
  intro x _; rfl
end Go.Proofs.YtibkhajhmncgkaaDoor
