/- What crc32.On returns for any bytes: the register's complement behind them; it leaves older memory alone. -/
import Derived.Test.YtaggkcgeddoogaaDoorCrcFour
import Derived.Test.YtaggkcgeddoogaaDoorBase
namespace Go.Proofs.YtaggkcgeddoogaaDoor.C3
open Go.RowKit

theorem bnot32 (a : BitVec 32) : bits .xor .u32 IntKind.u32.max (a.toNat : Int) = ((~~~a).toNat : Int) := by
  rw [show IntKind.u32.max = (((BitVec.allOnes 32).toNat : Nat) : Int) from rfl, bx32, BitVec.allOnes_xor]

theorem tabs_cell {w : World} {g : Nat} {t : TypeId} {fr : Nat × Nat} (h : w.heap[g]? = some (.cells tabs t fr)) (i : Nat) (hi : i < 1024) : w.cell? ⟨g, i, none⟩ = some (.int .u32 (T i).toNat) := by
  rw [cell_of_row w g i tabs t fr h]
  unfold tabs
  rw [List.getElem?_toArray, List.getElem?_map, List.getElem?_range hi]; rfl
theorem tabs_size : tabs.size = 1024 := by simp [tabs]
theorem tabs_one : tabs.all (·.oneCell') = true := by
  unfold tabs
  rw [List.all_toArray, List.all_map, List.all_eq_true]
  intro x _; rfl

/-- The state of the walk behind the tables: block g holds them, older memory is as it was. -/
structure Tabled (w0 : World) (g : Nat) (w : World) : Prop where
  tab : ∀ i, i < 1024 → w.cell? ⟨g, i, none⟩ = some (.int .u32 (T i).toNat)
  below : Below w0.heap.size w0 w
theorem Tabled.drewN {w0 w : World} {g : Nat} (h : Tabled w0 g w) (n : Nat) : Tabled w0 g (w.drewN n) := ⟨fun i hi => h.tab i hi, below_drewN h.below n⟩

/-- One byte by the first table. -/
theorem eat_byte (x : BitVec 32) (v : UInt8) (m : Nat) (hm : m = (x.toNat % 256) ^^^ v.toNat) : bits .xor .u32 ((x.toNat : Int) / 256) ((T m).toNat : Int) = ((Crc.eat P32 x v).toNat : Int) := by
  have hm256 : m < 256 := by
    have := v.toNat_lt
    rw [hm]; exact Nat.xor_lt_two_pow (n := 8) (by omega) (by omega)
  have e : (x.toNat : Int) / (256 : Int) = ((x >>> 8).toNat : Int) := by
    rw [BitVec.toNat_ushiftRight, Nat.shiftRight_eq_div_pow]; simp
  have hl : Crc.low (x ^^^ Crc.ext 32 v) = BitVec.ofNat 32 m := by
    unfold Crc.low
    apply BitVec.eq_of_toNat_eq
    have hv := v.toNat_lt
    simp only [BitVec.toNat_setWidth, BitVec.toNat_ofNat, BitVec.toNat_xor, ext_nat]
    rw [Nat.xor_mod_two_pow (n := 8), hm, Nat.mod_eq_of_lt (show v.toNat < 2 ^ 8 by omega)]
  have hs : (x ^^^ Crc.ext 32 v) >>> 8 = x >>> 8 := by
    apply BitVec.eq_of_getLsbD_eq
    intro i _
    rw [BitVec.getLsbD_ushiftRight, BitVec.getLsbD_ushiftRight, BitVec.getLsbD_xor, Crc.ext_bit 32 v _ (by omega)]; simp
  rw [e, bx32]
  unfold Crc.eat
  rw [Crc.sn_byte, hs, hl, T_low m hm256]

theorem byte_xor (x : BitVec 32) (v : UInt8) : ∃ m : Nat, m < 256 ∧ m = (x.toNat % 256) ^^^ v.toNat ∧ bits .xor .u8 ((x.toNat : Int) % 256) (v.toNat : Int) = (m : Int) := by
  have hv := v.toNat_lt
  refine ⟨_, Nat.xor_lt_two_pow (n := 8) (show x.toNat % 256 < 2 ^ 8 by omega) (show v.toNat < 2 ^ 8 by omega), rfl, ?_⟩
  rw [show (x.toNat : Int) % 256 = ((x.toNat % 256 : Nat) : Int) from by omega, u8_xor_nat _ _ (by omega) (by omega)]

theorem eats_four (x : BitVec 32) (l : List UInt8) (h : 4 ≤ l.length) : Crc.eats P32 x l = Crc.eats P32 (Crc.eats P32 x [l[0], l[1], l[2], l[3]]) (l.drop 4) := by
  match l, h with
  | b0 :: b1 :: b2 :: b3 :: r, _ => rfl
theorem eats_snoc (x : BitVec 32) (l : List UInt8) (k : Nat) (h : k < l.length) : Crc.eats P32 x (l.take (k + 1)) = Crc.eat P32 (Crc.eats P32 x (l.take k)) l[k] := by
  rw [List.take_succ_eq_append_getElem h, Crc.eats_append]; rfl
/-- The checksum of bytes whose checksum is s, followed by l. -/
def crcOf (s : BitVec 32) (l : List UInt8) : BitVec 32 := ~~~ Crc.eats P32 (~~~ s) l
def lenOf : Value → Nat | .slice _ n _ => n | _ => 0
def OnRel (w : World) (g : Nat) (x0 : BitVec 32) (l : List UInt8) (sl reg : Value) (wr : World) : Prop :=
  ∃ (A : Option Addr) (c : Nat) (rest : List UInt8) (x : BitVec 32), sl = .slice A rest.length c ∧ rest.length ≤ c ∧ c ≤ 9223372036854775807 ∧ Bytes wr A rest ∧ Tabled w g wr ∧ reg = .int .u32 x.toNat ∧ Crc.eats P32 x0 l = Crc.eats P32 x rest

set_option maxRecDepth 100000 in
set_option maxHeartbeats 1000000 in
theorem on_any (s : BitVec 32) (A : Option Addr) (l : List UInt8) (c : Nat) (w : World) (hB : Bytes w A l) (hc : l.length ≤ c) (hm : c ≤ 9223372036854775807) :
    Calls Tryd.prog 66 #[.int .u32 s.toNat, .slice A l.length c] w fun e w' =>
      e = .returned (.int .u32 (crcOf s l).toNat) ∧ Below w.heap.size w w' := by
  have hz := (zero_of_info info34).1
  go_enter Tryd.func66, Tryd.ntmps66
  go_wp2_with fail
  refine (mk_any w).mono ?_
  rintro e w1 ⟨rfl, hb1⟩
  go_wp2_with (refine wpList_store_row rfl 113 _ _ rfl w1.heap.size tabs rfl rfl 113 zero34 (heap_alloc_last _ _) ?c2 ?c3 ?c4 ?_)
  case c2 => rw [zsize34, tabs_size]
  case c3 => rw [tabs_size]; simp [zero34]
  case c4 => exact tabs_one
  rw [World.setRow_alloc_new, bnot32]
  have hT : Tabled w w1.heap.size (w1.alloc (.cells tabs 113)) := ⟨tabs_cell (heap_alloc_last _ _), hb1.alloc hb1.size _⟩
  have hB1 := hB.below hT.below
  generalize w1.alloc (.cells tabs 113) = w2 at *
  generalize w1.heap.size = g at *
  clear hb1 hz hB
  generalize hx0 : ~~~s = x0
  have HX0 := Lib.hid hx0; clear hx0
  go_loopw [1, 6] (fun sl reg wr => OnRel w g x0 l sl reg wr) (fun sl _ _ => lenOf sl)
  case atStart => exact ⟨A, c, l, _, rfl, hc, hm, hB1, hT, rfl, rfl⟩
  case round =>
    clear hB1 hT hc hm
    obtain ⟨A', c', rest, x, rfl, hc, hm, hB, hT, rfl, hx⟩ := hrel
    have HX := Lib.hid hx; clear hx
    by_cases h4 : 4 ≤ rest.length
    · obtain ⟨b, off, rfl, hlt, hcell⟩ := hB.addr (by omega)
      have d0 := hcell 0 (by omega)
      have d1 := hcell 1 (by omega)
      have d2 := hcell 2 (by omega)
      have d3 := hcell 3 (by omega)
      have HC := Lib.hid hcell; clear hcell
      have HT := Lib.hid hT.tab
      have He := Lib.hid (eats_four x rest h4)
      have hn0 : (4 : Int) ≤ rest.length := by omega
      generalize rest[0] = b0 at *
      generalize rest[1] = b1 at *
      generalize rest[2] = b2 at *
      generalize rest[3] = b3 at *
      by_cases hc4 : c' = 4
      · subst hc4
        go_wp2_with fail
        refine (enterFour_any g x b off _ _ b0 b1 b2 b3 _ h4 (by omega) (by simpa using d0) d1 d2 d3 HT.out).mono ?_
        rintro e w' ⟨rfl, nq, rfl⟩
        go_wp2_with fail
        go_roundw
        case rel =>
          have hl : rest.drop 4 = [] := by rw [List.drop_eq_nil_iff]; omega
          exact ⟨_, 0, rest.drop 4, _, by rw [hl]; rfl, by rw [hl]; simp, by omega, .inl hl, hT.drewN nq, rfl, by rw [HX.out, He.out]⟩
        case measure => simp [lenOf]; omega
      · go_wp2_with fail
        refine (enterFour_any g x b off _ _ b0 b1 b2 b3 _ h4 (by omega) (by simpa using d0) d1 d2 d3 HT.out).mono ?_
        rintro e w' ⟨rfl, nq, rfl⟩
        go_wp2_with fail
        go_roundw
        case rel =>
          exact ⟨_, _, rest.drop 4, _, by rw [List.length_drop], by rw [List.length_drop]; omega, by omega, (hB.drop 4).drewN nq, hT.drewN nq, rfl, by rw [HX.out, He.out]⟩
        case measure => simp [lenOf]; omega
    · go_wp2_with fail
      obtain ⟨wo, rfl⟩ : ∃ wo : World, wo = wr := ⟨_, rfl⟩
      go_loop [6, 22] (fun reg i => ∃ k : Nat, k ≤ rest.length ∧ i = .int .i64 k ∧ reg = .int .u32 (Crc.eats P32 x (rest.take k)).toNat) (fun _ i => rest.length - (intOf i).toNat)
      case atStart => exact ⟨0, by omega, rfl, by simp [Crc.eats]⟩
      case round =>
        obtain ⟨k, hk, rfl, rfl⟩ := hrel
        by_cases hlt : k < rest.length
        · obtain ⟨b, off, rfl, _, hcell⟩ := hB.addr (by omega)
          have hck := hcell k hlt
          have hs := Lib.hid (eats_snoc x rest k hlt)
          generalize Crc.eats P32 x (rest.take k) = y at *
          obtain ⟨m, hm256, hmv, hmw⟩ := byte_xor y rest[k]
          have hct := hT.tab m (by omega)
          have Hmv := Lib.hid hmv; clear hmv
          have i0 : (m : Int) < 256 := by omega
          generalize rest[k] = v at *
          clear hcell
          go_wp2_with fail
          go_round
          case rel => exact ⟨k + 1, by omega, by go_num, by rw [hs.out, ← eat_byte y v m Hmv.out]⟩
          case measure => simp [intOf]; omega
        · obtain rfl : k = rest.length := by omega
          go_wp2_with fail
          go_ret
          have hfin : Crc.eats P32 x rest = Crc.eats P32 (~~~ s) l := by rw [HX0.out, HX.out]
          have hnum : bits .xor .u32 IntKind.u32.max ((Crc.eats P32 x rest).toNat : Int) = ((crcOf s l).toNat : Int) := by rw [bnot32, hfin]; rfl
          exact ⟨congrArg (fun n : Int => Ending.returned (Value.int .u32 n)) hnum, hT.below⟩
end Go.Proofs.YtaggkcgeddoogaaDoor.C3
