/- The rounds of SHA-256. -/
import Derived.Test.YtibkhajhmncgkaaDoorShaSpread
namespace Go.Proofs.YtibkhajhmncgkaaDoor
open Go.RowKit

structure R8 where
  a : BitVec 32
  b : BitVec 32
  c : BitVec 32
  d : BitVec 32
  e : BitVec 32
  f : BitVec 32
  g : BitVec 32
  h : BitVec 32
def kList : List (BitVec 32) := [1116352408, 1899447441, 3049323471, 3921009573, 961987163, 1508970993, 2453635748, 2870763221, 3624381080, 310598401, 607225278, 1426881987, 1925078388, 2162078206, 2614888103, 3248222580, 3835390401, 4022224774, 264347078, 604807628, 770255983, 1249150122, 1555081692, 1996064986, 2554220882, 2821834349, 2952996808, 3210313671, 3336571891, 3584528711, 113926993, 338241895, 666307205, 773529912, 1294757372, 1396182291, 1695183700, 1986661051, 2177026350, 2456956037, 2730485921, 2820302411, 3259730800, 3345764771, 3516065817, 3600352804, 4094571909, 275423344, 430227734, 506948616, 659060556, 883997877, 958139571, 1322822218, 1537002063, 1747873779, 1955562222, 2024104815, 2227730452, 2361852424, 2428436474, 2756734187, 3204031479, 3329325298]
def Kc (i : Nat) : BitVec 32 := kList.getD i 0
def tOf (r : R8) (k v : BitVec 32) : BitVec 32 := r.h + (rot 6 r.e ^^^ rot 11 r.e ^^^ rot 25 r.e) + ((r.e &&& r.f) ^^^ (~~~r.e &&& r.g)) + k + v
def uOf (r : R8) : BitVec 32 := (rot 2 r.a ^^^ rot 13 r.a ^^^ rot 22 r.a) + ((r.a &&& r.b) ^^^ (r.a &&& r.c) ^^^ (r.b &&& r.c))
def roundOf (k v : BitVec 32) (r : R8) : R8 := ⟨tOf r k v + uOf r, r.a, r.b, r.c, r.d + tOf r k v, r.e, r.f, r.g⟩
def wd (blk : List UInt8) (i : Nat) : BitVec 32 := (schedTo blk 64).getD i 0
def rounds (blk : List UInt8) : Nat → R8 → R8
  | 0, r => r
  | n + 1, r => roundOf (Kc n) (wd blk n) (rounds blk n r)
def R8.get (r : R8) (i : Nat) : BitVec 32 := if i = 0 then r.a else if i = 1 then r.b else if i = 2 then r.c else if i = 3 then r.d else if i = 4 then r.e else if i = 5 then r.f else if i = 6 then r.g else r.h
def R8.add (r s : R8) : R8 := ⟨r.a + s.a, r.b + s.b, r.c + s.c, r.d + s.d, r.e + s.e, r.f + s.f, r.g + s.g, r.h + s.h⟩
/-- The words after a block. -/
def mixS (r : R8) (blk : List UInt8) : R8 := r.add (rounds blk 64 r)
abbrev R8.agg (r : R8) : Array Value := #[U32 r.a, U32 r.b, U32 r.c, U32 r.d, U32 r.e, U32 r.f, U32 r.g, U32 r.h]
theorem R8.agg_at (r : R8) (i : Nat) (h : i < 8) : r.agg[i]? = some (U32 (r.get i)) := by
  match i, h with
  | 0, _ | 1, _ | 2, _ | 3, _ | 4, _ | 5, _ | 6, _ | 7, _ => rfl
def zero8 : Array Value := Array.replicate 8 (.int .u32 0)
theorem info8W : (Tryd.prog.info? 82).map (fun i => (i.zero, i.size)) = some (some (.agg zero8), 8) := by kernel_rfl
theorem zsize8 : (Tryd.prog.info? 82).map (·.size) = some 8 := by kernel_rfl
theorem zsizeB : (Tryd.prog.info? 83).map (·.size) = some 64 := by kernel_rfl
theorem words_at (blk : List UInt8) (i : Nat) (h : i < 64) : (words blk)[i]? = some (U32 (wd blk i)) := by
  unfold words
  rw [List.getElem?_toArray, List.getElem?_map, List.getElem?_range h]; rfl
theorem words_size (blk : List UInt8) : (words blk).size = 64 := by simp [words]
theorem words_index (blk : List UInt8) (j : Nat) (hj : j < 64) (w : World) : (Instr.index 91 (.agg (words blk)) (.int .i64 j)).run Tryd.prog w = .ok (U32 (wd blk j)) w := by
  have hs : (Tryd.prog.info? 53).map (·.size) = some 1 := by kernel_rfl
  have hg := words_at blk j hj
  cases hq : Tryd.prog.info? 53 with
  | none => rw [hq] at hs; simp at hs
  | some i =>
    have hsz : i.size = 1 := by rw [hq] at hs; simpa using hs
    simp [Instr.index, asIntOf, run_underlying Tryd.underlying91, Sem.run_bind, sizeOf, typeInfo, hq, hsz, part, hg, hj]
theorem agg8_index (r : R8) (j : Nat) (hj : j < 8) (w : World) : (Instr.index 82 (.agg r.agg) (.int .i64 j)).run Tryd.prog w = .ok (U32 (r.get j)) w := by
  have hs : (Tryd.prog.info? 53).map (·.size) = some 1 := by kernel_rfl
  have hg := r.agg_at j hj
  generalize r.agg = A at *
  cases hq : Tryd.prog.info? 53 with
  | none => rw [hq] at hs; simp at hs
  | some i =>
    have hsz : i.size = 1 := by rw [hq] at hs; simpa using hs
    simp [Instr.index, asIntOf, run_underlying Tryd.underlying82, Sem.run_bind, sizeOf, typeInfo, hq, hsz, part, hg, hj]
theorem agg8_eq (r : R8) {cs : Array Value} (hn : cs.size = 8) (hv : ∀ i, i < 8 → cs[i]? = some (U32 (r.get i))) : cs = r.agg := by
  apply Array.ext_getElem?
  intro i
  by_cases hi : i < 8
  · rw [hv i hi, r.agg_at i hi]
  · rw [Array.getElem?_eq_none (by omega), Array.getElem?_eq_none (by simp; omega)]
theorem add_get (r s : R8) (i : Nat) : (r.add s).get i = r.get i + s.get i := by
  unfold R8.get R8.add
  simp only
  repeat (split; rfl)
  rfl
theorem agg8_one (r : R8) : r.agg.all (·.oneCell') = true := by simp [Value.oneCell']
theorem bnot32 (a : BitVec 32) : bits .xor .u32 IntKind.u32.max (a.toNat : Int) = ((~~~a).toNat : Int) := by
  have h : IntKind.u32.max = ((4294967295#32).toNat : Int) := rfl
  have e : 4294967295#32 ^^^ a = ~~~a := by
    rw [show (4294967295#32) = BitVec.allOnes 32 from rfl, BitVec.xor_comm, BitVec.xor_allOnes]
  rw [h, sx32, e]
theorem bnot32' (a : BitVec 32) : bits .xor .u32 (if IntKind.u32.signed = true then -1 else IntKind.u32.max) (a.toNat : Int) = ((~~~a).toNat : Int) := by
  rw [if_neg (by decide)]; exact bnot32 a
end Go.Proofs.YtibkhajhmncgkaaDoor
