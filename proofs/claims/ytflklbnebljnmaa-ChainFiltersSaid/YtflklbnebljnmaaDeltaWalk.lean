/- The walks over delta.each, Encode and Decode. -/
import Derived.Test.YtflklbnebljnmaaBase
import Derived.Test.YtflklbnebljnmaaDeltaMath
namespace Go.Proofs.Ytflklbnebljnmaa.De
open Go.RowKit Go.Proofs.Ytflklbnebljnmaa

/-- Bytes of one's own and an error's number come back. -/
def Gives (w : World) (l : List UInt8) (err : Int) (e : Ending) (w' : World) : Prop := ∃ v, e = .returned (.tuple #[v, .int .i64 err]) ∧ Own w.heap.size w' v l ∧ Below w.heap.size w w'

theorem sub_u8 (a b : UInt8) : IntKind.u8.wrap ((a.toNat : Int) - (b.toNat : Int)) = ((a - b).toNat : Int) := by
  have h1 := a.toNat_lt
  have h2 := b.toNat_lt
  rw [IntKind.wrap_u8', UInt8.toNat_sub]; omega
theorem add_u8 (a b : UInt8) : IntKind.u8.wrap ((a.toNat : Int) + (b.toNat : Int)) = ((a + b).toNat : Int) := by
  rw [IntKind.wrap_u8', UInt8.toNat_add]; omega

set_option maxHeartbeats 400000 in
theorem encF (v b : UInt8) (w : World) : Calls Try.prog 40 #[.int .u8 v.toNat, .int .u8 b.toNat] w fun e w' => e = .returned (.tuple #[.int .u8 (v - b).toNat, .int .u8 v.toNat]) ∧ w = w' := by
  have h := sub_u8 v b
  rw [IntKind.wrap_u8'] at h
  go_enter Try.func40, Try.ntmps40
  go_wp2_with fail
  go_ret2
  exact ⟨congrArg (fun n : Int => Ending.returned (.tuple #[.int .u8 n, .int .u8 v.toNat])) h, rfl⟩
set_option maxHeartbeats 400000 in
theorem decF (v b : UInt8) (w : World) : Calls Try.prog 43 #[.int .u8 v.toNat, .int .u8 b.toNat] w fun e w' => e = .returned (.tuple #[.int .u8 (v + b).toNat, .int .u8 (v + b).toNat]) ∧ w = w' := by
  have h := add_u8 v b
  rw [IntKind.wrap_u8'] at h
  go_enter Try.func43, Try.ntmps43
  go_wp2_with fail
  go_ret2
  exact ⟨congrArg (fun n : Int => Ending.returned (.tuple #[.int .u8 n, .int .u8 n])) h, rfl⟩

def zeroR : Array Value := Array.replicate 256 (.int .u8 0)
theorem infoR : (Try.prog.info? 66).map (fun i => (i.zero, i.size)) = some (some (.agg zeroR), 256) := by kernel_rfl
theorem ring_new (w : World) : (w.alloc (.cells zeroR 66)).rowIs w.heap.size 66 256 (fun _ => B8 0) := by
  have h := World.rowIs_alloc w zeroR 66 (fun _ => B8 0) (fun i hi => by
    unfold zeroR at hi ⊢
    rw [Array.getElem?_replicate, if_pos (by simpa using hi)]; rfl)
  have e : zeroR.size = 256 := by simp [zeroR]
  rwa [e] at h
theorem made_zeros (n : Nat) : (madeCells (Value.int .u8 0).cells (n * 1)).toList = (List.replicate n (0 : UInt8)).map B8 := by
  rw [Nat.mul_one, show (Value.int .u8 0).cells = #[Value.int .u8 0] from rfl, toList_madeCells_one, List.map_replicate]; rfl
theorem back_index (k : Nat) (d : Int) (h1 : 1 ≤ d) (h2 : d ≤ 256) (hk : k ≤ 9223372036854775807) : IntKind.u8.wrap ((k : Int) - d) = (((k + 256 - d.toNat) % 256 : Nat) : Int) := by
  rw [IntKind.wrap_u8']; omega
theorem at_get (l : List UInt8) (k : Nat) (h : k < l.length) : Delta.at_ l k = l[k] := by simp [Delta.at_, List.getD, h]
theorem put_next (a : List UInt8) (n k : Nat) (x : UInt8) (ha : a.length = k) (hk : k < n) : ((a ++ List.replicate (n - k) 0).map B8).set k (B8 x) = ((a ++ [x]) ++ List.replicate (n - (k + 1)) 0).map B8 := by
  rw [← List.map_set]
  congr 1
  obtain ⟨m, hm⟩ : ∃ m, n - k = m + 1 := ⟨n - k - 1, by omega⟩
  rw [hm, show n - (k + 1) = m by omega, List.replicate_succ, List.set_append_right _ _ (by omega), ha, Nat.sub_self, List.set_cons_zero, List.append_assoc]; rfl

theorem own_lower {w : World} {base base' e n : Nat} {v : Value} {xs : List Value} (h : w.ownsRow base e 1 v n xs) (hb : base' ≤ base) : w.ownsRow base' e 1 v n xs := by
  rcases h with ⟨h1, h2 | ⟨g, cap, cur, h2, h3, h4⟩⟩
  · exact ⟨h1, .inl h2⟩
  · exact ⟨h1, .inr ⟨g, cap, cur, h2, by omega, h4⟩⟩
theorem each_no (A : Option Addr) (n c : Nat) (d : Int) (f : Value) (w : World) (hd : d < 1 ∨ 256 < d) :
    Calls Try.prog 39 #[.slice A n c, .int .i64 d, f] w fun e w' => e = .returned (.tuple #[.slice none 0 0, .int .i64 1]) ∧ w = w' := by
  rcases hd with h | h
  · go_enter Try.func39, Try.ntmps39
    go_wp2_with fail
    go_ret2
    exact ⟨rfl, rfl⟩
  · have h' : ¬ d < 1 := by omega
    go_enter Try.func39, Try.ntmps39
    go_wp2_with fail
    go_ret2
    exact ⟨rfl, rfl⟩

set_option maxRecDepth 100000 in
set_option maxHeartbeats 1000000 in
theorem each_enc (A : Option Addr) (l : List UInt8) (c : Nat) (d : Int) (w : World) (hB : Bytes w A l) (hm : l.length ≤ 140737488355328) (hd1 : 1 ≤ d) (hd2 : d ≤ 256) :
    Calls Try.prog 39 #[.slice A l.length c, .int .i64 d, .func (.func 40) #[] #[]] w (Gives w (Delta.enc l d.toNat) 0) := by
  have hz := (zero_of_info infoR).1
  obtain ⟨i, hi, hz0, hz1, hz2⟩ := info_parts info8
  have g1 : decide (d < 1) = false := by simp; omega
  have g2 : decide (256 < d) = false := by simp; omega
  have hmk : i.bytes * l.length ≤ 281474976710656 := by rw [hz2]; omega
  have hml : l.length ≤ maxLen := by unfold maxLen; omega
  have hr0 := ring_new w
  have hb0 : Below w.heap.size w (w.alloc (.cells zeroR 66)) := (Below.refl _ _).alloc (Nat.le_refl _) _
  go_enter Try.func39, Try.ntmps39
  go_wp2_with (refine wpList_make_full _ rfl _ _ 23 rfl (w.heap.size + 1) 5 i (.int .u8 0) 1 Try.underlying23 hi hz0 hz1 _ _ _ _ l.length rfl rfl rfl rfl hmk hml (by simp) ?_; intro w1 hown1 hg1)
  rw [made_zeros] at hown1
  have hr1 : w1.rowIs w.heap.size 66 256 (fun _ => B8 0) := hr0.of_block (hg1.block _ (by simp) (by simp))
  have hb1 : Below w.heap.size w w1 := below_grown hb0 hg1 hb0.size (by simp)
  have hsz : (w.alloc (.cells zeroR 66)).heap.size = w.heap.size + 1 := by simp
  rw [hsz] at hown1
  clear hz hr0 hb0 hg1 hi hz0 hz1 hz2 hmk hsz
  generalize hg : w.heap.size + 1 = g at *
  have hgl : w.heap.size < g := by omega
  have HG := Lib.hid hg; clear hg
  generalize hdn : d.toNat = dn at *
  have HD := Lib.hid hdn
  have hdn1 : 1 ≤ dn := by omega
  have hdn2 : dn ≤ 256 := by omega
  clear hdn g1 g2
  go_loopw [23] (fun i wr => ∃ (k : Nat) (f : Nat → UInt8), k ≤ l.length ∧ i = .int .i64 k ∧ wr.rowIs w.heap.size 66 256 (fun j => B8 (f j)) ∧ Delta.Win (l.take k) f ∧ wr.ownsRow g 5 1 (.slice (some ⟨g, 0, none⟩) l.length l.length) l.length ((Delta.encTo l dn k ++ List.replicate (l.length - k) 0).map B8) ∧ Below w.heap.size w wr) (fun i _ => l.length - (intOf i).toNat)
  case atStart => exact ⟨0, fun _ => 0, by omega, rfl, hr1, Delta.Win.nil, by simpa [Delta.encTo] using hown1, hb1⟩
  case round =>
    clear hr1 hown1 hb1
    obtain ⟨k, f, hk, rfl, hr, hw, hown, hb⟩ := hrel
    by_cases hlt : k < l.length
    · obtain ⟨b, off, rfl, hbl, hcell⟩ := (hB.below hb).addr (by omega)
      have hck := hcell k hlt
      have hlen : (l.take k).length = k := by rw [List.length_take]; omega
      have hwd := hw dn hdn1 hdn2
      rw [hlen] at hwd
      have hoi := back_index k d hd1 hd2 (by omega)
      rw [HD.out] at hoi
      have hring := hr.cell (i := (k + 256 - dn) % 256) (by omega)
      have hring2 := hr.cell (i := k % 256) (by omega)
      have hrf := hr.frozen (k % 256)
      have hst := Lib.hid (hown.stored k)
      have hoc := hown.cellAt k (by omega)
      have hof := hown.frozenAt k
      rw [List.getElem?_map, List.getElem?_append_right (by rw [Delta.encTo_length]; exact Nat.le_refl _), Delta.encTo_length, Nat.sub_self, List.getElem?_replicate, if_pos (by omega)] at hoc
      simp only [Option.map] at hoc
      have hki : IntKind.u8.wrap (k : Int) = ((k % 256 : Nat) : Int) := by rw [IntKind.wrap_u8']; omega
      have hput := Lib.hid (put_next (Delta.encTo l dn k) l.length k (Delta.at_ l k - Delta.back l dn k) (Delta.encTo_length _ _ _) hlt)
      have hnext := Lib.hid (Delta.encTo_succ l dn k)
      have hon := Lib.hid (List.take_succ_eq_append_getElem hlt)
      have hwn := Lib.hid (hw.snoc (Delta.at_ l k))
      have hb1 : (((k + 256 - dn) % 256 : Nat) : Int) < 256 := by omega
      have hb2 : ((k % 256 : Nat) : Int) < 256 := by omega
      generalize hbb : f ((k + 256 - dn) % 256) = bb at *
      generalize hm1 : (k + 256 - dn) % 256 = m1 at *
      generalize hm2 : k % 256 = m2 at *
      have HM1 := Lib.hid hm1
      have HM2 := Lib.hid hm2
      have HBB := Lib.hid hbb
      have HWD := Lib.hid hwd
      have HW := Lib.hid hw
      have hat := at_get l k hlt
      generalize hv : l[k] = v at *
      have HV := Lib.hid hv
      have HAT := Lib.hid hat
      clear hm1 hm2 hbb hwd hw hv hat hcell
      go_wp2_with fail
      refine (encF v bb _).mono ?_
      rintro e w' ⟨rfl, rfl⟩
      generalize hsv : v - bb = sv at *
      have HSV := Lib.hid hsv; clear hsv
      go_wp2_with fail
      go_roundw
      case rel =>
        have hbk : bb = Delta.back (l.take k) dn k := HWD.out
        have hx : sv = Delta.at_ l k - Delta.back l dn k := by rw [← HSV.out, hbk, HAT.out]; rw [Delta.back_take _ _ _ hdn1]
        obtain ⟨hs1, hs2⟩ := hst.out (B8 sv)
        have h3 := hput.out
        have h4 := hnext.out
        rw [← hx] at h3 h4
        rw [h3, ← h4] at hs1
        refine ⟨k + 1, fun j => if j = m2 then v else f j, by omega, by go_num, ?_, ?_, ?_, ?_⟩
        · refine ((hr.setOther (by simp; omega) _).set m2 _).congr fun j _ => ?_
          by_cases e : j = m2 <;> simp [e]
        · have h2 := hwn.out
          rw [hlen, HM2.out] at h2
          rw [HAT.out] at h2; rw [hon.out]; exact h2
        · exact (World.ownsRow.kept (row := some w.heap.size) hs1 ⟨rfl, rfl, rfl, by simp, fun j _ hj => heap_setCell_other _ _ j _ (fun e => hj (by simp [e]))⟩ (.inr (by simp [Value.ownBlock]; omega)))
        · exact (hb.setCell (by simp; omega) _).setCell (by simp) _
      case measure => simp [intOf]; omega
    · obtain rfl : k = l.length := by omega
      go_wp2_with fail
      go_ret2
      refine ⟨_, rfl, ?_, hb⟩
      rw [Nat.sub_self, List.replicate_zero, List.append_nil] at hown
      have hl : (Delta.enc l dn).length = l.length := Delta.enc_length _ _
      unfold Own
      rw [hl]
      exact own_lower hown (by omega)

set_option maxRecDepth 100000 in
set_option maxHeartbeats 1000000 in
theorem each_dec (A : Option Addr) (l : List UInt8) (c : Nat) (d : Int) (w : World) (hB : Bytes w A l) (hm : l.length ≤ 140737488355328) (hd1 : 1 ≤ d) (hd2 : d ≤ 256) :
    Calls Try.prog 39 #[.slice A l.length c, .int .i64 d, .func (.func 43) #[] #[]] w (Gives w (Delta.dec l d.toNat) 0) := by
  have hz := (zero_of_info infoR).1
  obtain ⟨i, hi, hz0, hz1, hz2⟩ := info_parts info8
  have g1 : decide (d < 1) = false := by simp; omega
  have g2 : decide (256 < d) = false := by simp; omega
  have hmk : i.bytes * l.length ≤ 281474976710656 := by rw [hz2]; omega
  have hml : l.length ≤ maxLen := by unfold maxLen; omega
  have hr0 := ring_new w
  have hb0 : Below w.heap.size w (w.alloc (.cells zeroR 66)) := (Below.refl _ _).alloc (Nat.le_refl _) _
  go_enter Try.func39, Try.ntmps39
  go_wp2_with (refine wpList_make_full _ rfl _ _ 23 rfl (w.heap.size + 1) 5 i (.int .u8 0) 1 Try.underlying23 hi hz0 hz1 _ _ _ _ l.length rfl rfl rfl rfl hmk hml (by simp) ?_; intro w1 hown1 hg1)
  rw [made_zeros] at hown1
  have hr1 : w1.rowIs w.heap.size 66 256 (fun _ => B8 0) := hr0.of_block (hg1.block _ (by simp) (by simp))
  have hb1 : Below w.heap.size w w1 := below_grown hb0 hg1 hb0.size (by simp)
  have hsz : (w.alloc (.cells zeroR 66)).heap.size = w.heap.size + 1 := by simp
  rw [hsz] at hown1
  clear hz hr0 hb0 hg1 hi hz0 hz1 hz2 hmk hsz
  generalize hg : w.heap.size + 1 = g at *
  have hgl : w.heap.size < g := by omega
  have HG := Lib.hid hg; clear hg
  generalize hdn : d.toNat = dn at *
  have HD := Lib.hid hdn
  have hdn1 : 1 ≤ dn := by omega
  have hdn2 : dn ≤ 256 := by omega
  clear hdn g1 g2
  go_loopw [23] (fun i wr => ∃ (k : Nat) (f : Nat → UInt8), k ≤ l.length ∧ i = .int .i64 k ∧ wr.rowIs w.heap.size 66 256 (fun j => B8 (f j)) ∧ Delta.Win (Delta.decTo l dn k) f ∧ wr.ownsRow g 5 1 (.slice (some ⟨g, 0, none⟩) l.length l.length) l.length ((Delta.decTo l dn k ++ List.replicate (l.length - k) 0).map B8) ∧ Below w.heap.size w wr) (fun i _ => l.length - (intOf i).toNat)
  case atStart => exact ⟨0, fun _ => 0, by omega, rfl, hr1, Delta.Win.nil, by simpa [Delta.decTo] using hown1, hb1⟩
  case round =>
    clear hr1 hown1 hb1
    obtain ⟨k, f, hk, rfl, hr, hw, hown, hb⟩ := hrel
    by_cases hlt : k < l.length
    · obtain ⟨b, off, rfl, hbl, hcell⟩ := (hB.below hb).addr (by omega)
      have hck := hcell k hlt
      have hlen : (Delta.decTo l dn k).length = k := by exact Delta.decTo_length _ _ _
      have hwd := hw dn hdn1 hdn2
      rw [hlen] at hwd
      have hoi := back_index k d hd1 hd2 (by omega)
      rw [HD.out] at hoi
      have hring := hr.cell (i := (k + 256 - dn) % 256) (by omega)
      have hring2 := hr.cell (i := k % 256) (by omega)
      have hrf := hr.frozen (k % 256)
      have hst := Lib.hid (hown.stored k)
      have hoc := hown.cellAt k (by omega)
      have hof := hown.frozenAt k
      rw [List.getElem?_map, List.getElem?_append_right (by rw [Delta.decTo_length]; exact Nat.le_refl _), Delta.decTo_length, Nat.sub_self, List.getElem?_replicate, if_pos (by omega)] at hoc
      simp only [Option.map] at hoc
      have hki : IntKind.u8.wrap (k : Int) = ((k % 256 : Nat) : Int) := by rw [IntKind.wrap_u8']; omega
      have hput := Lib.hid (put_next (Delta.decTo l dn k) l.length k (Delta.at_ l k + Delta.back (Delta.decTo l dn k) dn k) (Delta.decTo_length _ _ _) hlt)
      have hnext := Lib.hid (Delta.decTo_succ l dn k)
      have hon := Lib.hid (Delta.decTo_succ l dn k)
      have hwn := Lib.hid (hw.snoc (Delta.at_ l k + Delta.back (Delta.decTo l dn k) dn k))
      have hb1 : (((k + 256 - dn) % 256 : Nat) : Int) < 256 := by omega
      have hb2 : ((k % 256 : Nat) : Int) < 256 := by omega
      generalize hbb : f ((k + 256 - dn) % 256) = bb at *
      generalize hm1 : (k + 256 - dn) % 256 = m1 at *
      generalize hm2 : k % 256 = m2 at *
      have HM1 := Lib.hid hm1
      have HM2 := Lib.hid hm2
      have HBB := Lib.hid hbb
      have HWD := Lib.hid hwd
      have HW := Lib.hid hw
      have hat := at_get l k hlt
      generalize hv : l[k] = v at *
      have HV := Lib.hid hv
      have HAT := Lib.hid hat
      clear hm1 hm2 hbb hwd hw hv hat hcell
      go_wp2_with fail
      refine (decF v bb _).mono ?_
      rintro e w' ⟨rfl, rfl⟩
      generalize hsv : v + bb = sv at *
      have HSV := Lib.hid hsv; clear hsv
      go_wp2_with fail
      go_roundw
      case rel =>
        have hbk : bb = Delta.back (Delta.decTo l dn k) dn k := HWD.out
        have hx : sv = Delta.at_ l k + Delta.back (Delta.decTo l dn k) dn k := by rw [← HSV.out, hbk, HAT.out]
        obtain ⟨hs1, hs2⟩ := hst.out (B8 sv)
        have h3 := hput.out
        have h4 := hnext.out
        rw [← hx] at h3 h4
        rw [h3, ← h4] at hs1
        refine ⟨k + 1, fun j => if j = m2 then sv else f j, by omega, by go_num, ?_, ?_, ?_, ?_⟩
        · refine ((hr.setOther (by simp; omega) _).set m2 _).congr fun j _ => ?_
          by_cases e : j = m2 <;> simp [e]
        · have h2 := hwn.out
          rw [hlen, HM2.out] at h2
          rw [← hx] at h2; rw [h4]; exact h2
        · exact (World.ownsRow.kept (row := some w.heap.size) hs1 ⟨rfl, rfl, rfl, by simp, fun j _ hj => heap_setCell_other _ _ j _ (fun e => hj (by simp [e]))⟩ (.inr (by simp [Value.ownBlock]; omega)))
        · exact (hb.setCell (by simp; omega) _).setCell (by simp) _
      case measure => simp [intOf]; omega
    · obtain rfl : k = l.length := by omega
      go_wp2_with fail
      go_ret2
      refine ⟨_, rfl, ?_, hb⟩
      rw [Nat.sub_self, List.replicate_zero, List.append_nil] at hown
      have hl : (Delta.dec l dn).length = l.length := Delta.dec_length _ _
      unfold Own
      rw [hl]
      exact own_lower hown (by omega)

set_option maxHeartbeats 400000 in
theorem encode_no (A : Option Addr) (n c : Nat) (d : Int) (w : World) (hd : d < 1 ∨ 256 < d) :
    Calls Try.prog 32 #[.slice A n c, .int .i64 d] w fun e w' => e = .returned (.tuple #[.slice none 0 0, .int .i64 1]) ∧ w = w' := by
  go_enter Try.func32, Try.ntmps32
  go_wp2_with fail
  refine (each_no A n c d _ _ hd).mono ?_
  rintro e w' ⟨rfl, rfl⟩
  go_wp2_with fail
  go_ret2
  exact ⟨rfl, rfl⟩
set_option maxHeartbeats 400000 in
theorem decode_no (A : Option Addr) (n c : Nat) (d : Int) (w : World) (hd : d < 1 ∨ 256 < d) :
    Calls Try.prog 34 #[.slice A n c, .int .i64 d] w fun e w' => e = .returned (.tuple #[.slice none 0 0, .int .i64 1]) ∧ w = w' := by
  go_enter Try.func34, Try.ntmps34
  go_wp2_with fail
  refine (each_no A n c d _ _ hd).mono ?_
  rintro e w' ⟨rfl, rfl⟩
  go_wp2_with fail
  go_ret2
  exact ⟨rfl, rfl⟩
set_option maxHeartbeats 400000 in
theorem encode_any (A : Option Addr) (l : List UInt8) (c : Nat) (d : Int) (w : World) (hB : Bytes w A l) (hm : l.length ≤ 140737488355328) (hd1 : 1 ≤ d) (hd2 : d ≤ 256) :
    Calls Try.prog 32 #[.slice A l.length c, .int .i64 d] w (Gives w (Delta.enc l d.toNat) 0) := by
  go_enter Try.func32, Try.ntmps32
  go_wp2_with fail
  refine (each_enc A l c d _ hB hm hd1 hd2).mono ?_
  rintro e w' ⟨v, rfl, ho, hb⟩
  go_wp2_with fail
  go_ret2
  exact ⟨v, rfl, ho, hb⟩
set_option maxHeartbeats 400000 in
theorem decode_any (A : Option Addr) (l : List UInt8) (c : Nat) (d : Int) (w : World) (hB : Bytes w A l) (hm : l.length ≤ 140737488355328) (hd1 : 1 ≤ d) (hd2 : d ≤ 256) :
    Calls Try.prog 34 #[.slice A l.length c, .int .i64 d] w (Gives w (Delta.dec l d.toNat) 0) := by
  go_enter Try.func34, Try.ntmps34
  go_wp2_with fail
  refine (each_dec A l c d _ hB hm hd1 hd2).mono ?_
  rintro e w' ⟨v, rfl, ho, hb⟩
  go_wp2_with fail
  go_ret2
  exact ⟨v, rfl, ho, hb⟩
end Go.Proofs.Ytflklbnebljnmaa.De
