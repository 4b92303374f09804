/- The walk over the reference's Sum. -/
import Derived.Test.YtibkhajhmncgkaaDoorShaRSpread
import Derived.Test.YtibkhajhmncgkaaDoorShaRPad
import Derived.Test.YtibkhajhmncgkaaDoorShaSum
namespace Go.Proofs.YtibkhajhmncgkaaDoor
open Go.RowKit

theorem step_append_bytes {ops : Array Oper} {o : Oper} {a : Act} {K : Act → World → Prop} {Q : Exit → Act → World → Prop} (hgd : o.guard = none) (s x : Operand)
    (ho : o.op = .call { callee := .builtin .append, args := #[s, x], argTypes := #[22, 22] })
    (base : Nat) (w : World) (v : Value) (xs : List UInt8) (hs : a.eval s = v) (hown : Own base w v xs) (A : Option Addr) (l : List UInt8) (c : Nat) (hx : a.eval x = .slice A l.length c) (hB : Bytes w A l)
    (hsz : xs.length + l.length ≤ 140737488355328) (hbase : base ≤ w.heap.size)
    (h : ∀ v' w', Own base w' v' (xs ++ l) → w.grownBy w' v.ownBlock → K (a.put o.dst v') w') : if Region.wanted o (yielded ops a.tmps) = true then Oper.wp Tryd.prog o a w K Q else K (a.put o.dst undef) w := by
  rw [if_pos (by simp [Region.wanted, hgd])]
  obtain ⟨v', w', hr, h2, h3⟩ := run_append_bytes base o.type w v xs hown A l c hB hsz hbase
  unfold Oper.wp execOp
  simp only [ho, resolve, invoke, builtin, Sem.run_bind, Sem.run_pure, Result.andThen_ok, List.map_toArray, List.map_cons, List.map_nil, hs, hx, hr]
  exact h v' w' h2 h3

/-- The words behind some blocks. -/
def comp (r : R8) (L : List UInt8) : Nat → R8
  | 0 => r
  | j + 1 => mixS (comp r L j) ((L.drop (64 * j)).take 64)
theorem lay_all (blk ch : List UInt8) (hb : blk.length = 64) (hc : ch.length = 64) : lay blk 0 ch = ch := by
  unfold lay; rw [hc, List.drop_eq_nil_of_le (by omega)]; simp
theorem comp_puts (s : St) (L : List UInt8) (hs : s.n % 64 = 0) (hb : s.blk.length = 64) : ∀ j, 64 * j ≤ L.length → (s.puts (L.take (64 * j))).ws = comp s.ws L j
  | 0, _ => rfl
  | j + 1, h => by
    have ih := comp_puts s L hs hb j (by omega)
    have e : L.take (64 * (j + 1)) = L.take (64 * j) ++ (L.drop (64 * j)).take 64 := by rw [show 64 * (j + 1) = 64 * j + 64 by omega, List.take_add]
    have hch : ((L.drop (64 * j)).take 64).length = 64 := by rw [List.length_take, List.length_drop]; omega
    have hn : (s.puts (L.take (64 * j))).n % 64 = 0 := by rw [St.puts_n, List.length_take]; omega
    have hbl := St.puts_blk (L.take (64 * j)) s hb
    rw [e, St.puts_append, St.puts_chunk _ _ hbl (by rw [hn, hch]; omega), hn, hch]
    simp only [comp, Nat.zero_add, if_true]
    rw [lay_all _ _ hbl hch, ih]
def blocksOf (l : List UInt8) : Nat := (l.length + (padding l.length).length) / 64
theorem blocksOf_len (l : List UInt8) : (l ++ padding l.length).length = 64 * blocksOf l := by
  unfold blocksOf
  rw [List.length_append, padding_length]
  unfold zerosOf; omega
theorem digest_comp (l : List UInt8) : (St.new.puts l).digest = digTo (comp first8 (l ++ padding l.length) (blocksOf l)) 8 := by
  have h := comp_puts St.new (l ++ padding l.length) rfl (by simp [St.new]) (blocksOf l) (by rw [blocksOf_len]; exact Nat.le_refl _)
  rw [← blocksOf_len, List.take_length] at h
  unfold St.digest
  rw [St.puts_n, ← St.puts_append]
  have e : St.new.n + l.length = l.length := by show 0 + l.length = _; omega
  rw [e, h]; rfl
theorem word_byte (x : BitVec 32) (d : Nat) : IntKind.u8.wrap ((x.toNat : Int) / (d : Int)) = ((UInt8.ofNat (x.toNat / d % 256)).toNat : Int) := by
  rw [IntKind.wrap_u8, of_mod, ← Int.natCast_ediv]; omega
theorem word_byte1 (x : BitVec 32) : IntKind.u8.wrap (x.toNat : Int) = ((UInt8.ofNat (x.toNat % 256)).toNat : Int) := by
  rw [IntKind.wrap_u8, of_mod]; omega
theorem kVals_at (i : Nat) (h : i < kVals.length) : kVals[i] = U32 (Kc i) := by
  have h' : i < kList.length := h
  show (kList.map U32)[i]'(by simpa using h') = _
  rw [List.getElem_map]; unfold Kc; simp [List.getD, h']
theorem not_sub (e : BitVec 32) : IntKind.u32.wrap (4294967295 - (e.toNat : Int)) = ((~~~e).toNat : Int) := by
  have h := e.isLt
  rw [IntKind.wrap_u32, BitVec.toNat_not]; omega

set_option maxRecDepth 100000 in
set_option maxHeartbeats 8000000 in
theorem rsum_any (A : Option Addr) (l : List UInt8) (c : Nat) (w : World) (hB : Bytes w A l) (hn : l.length ≤ 100000000) :
    Calls Tryd.prog 28 #[.slice A l.length c] w (BytesDone w (St.new.puts l).digest) := by
  have HDG := Lib.hid (digest_comp l)
  have HBL := Lib.hid (blocksOf_len l)
  have HN := Lib.hid hn
  have hbn : blocksOf l ≤ 100000000 := by unfold blocksOf; rw [padding_length]; have := zerosOf_lt l.length; omega
  generalize blocksOf l = m at *
  have HPAD := Lib.hid (fun w' (h : Bytes w' A l) => padded_any A l c w' h hn)
  clear hn
  generalize l ++ padding l.length = L at *
  go_enter Tryd.func28, Tryd.ntmps28
  go_wp2_with fail
  refine (roots_any w).mono ?_
  rintro e w1 ⟨v1, v2, rfl, hv1, hv2, hb1⟩
  have hB1 := hB.below hb1
  go_wp2_with fail
  refine (HPAD.out w1 hB1).mono ?_
  rintro e w2 ⟨AL, cL, rfl, hcL, hmL, hBL, hb2⟩
  have hv1' := hv1.below hb2
  have hv2' := hv2.below hb2
  have hb12 := hb1.trans (hb2.mono hb1.size)
  obtain ⟨gq, cq, rfl, hgq1, hgq2, hcq, hmq, hqc⟩ := hv2'.some_of_pos (by show 0 < 64; omega)
  have HQC : Hid (∀ i, i < 64 → w2.cell? ⟨gq, i, none⟩ = some (U32 (Kc i))) := Lib.hid (fun i hi => (hqc i hi).trans (congrArg some (kVals_at i hi)))
  rw [show kVals.length = 64 from rfl] at hcq ⊢
  clear hv1 hv2 hv2' hB hB1 hb1 hb2 hqc
  rw [HBL.out] at hcL ⊢
  go_wp2_with fail
  go_loopw [3, 6] (fun v i wr => ∃ j : Nat, j ≤ m ∧ i = .int .i64 ((64 * j : Nat) : Int) ∧ OwnV 53 w.heap.size wr v (comp first8 L j).agg.toList ∧ Below w2.heap.size w2 wr) (fun _ i _ => 64 * m - (intOf i).toNat)
  case atStart => exact ⟨0, by omega, rfl, hv1', Below.refl _ _⟩
  case round =>
    obtain ⟨j, hj, rfl, hv, hb⟩ := hrel
    clear hv1'
    obtain ⟨gl, cl, rfl, hgl1, hgl2, hcl, hml, hlc⟩ := hv.some_of_pos (by show 0 < 8; omega)
    rw [show (comp first8 L j).agg.toList.length = 8 from rfl] at hcl ⊢
    have HLC := Lib.hid hlc
    clear hlc
    by_cases hlt : j < m
    · have hbs : (L.drop (64 * j)).length = 64 * m - 64 * j := by rw [List.length_drop, HBL.out]
      obtain ⟨bL, oL, rfl, hbLl, hcellL⟩ := (hBL.below hb).addr (by rw [HBL.out]; omega)
      have hBk : Bytes wr (some ⟨bL, oL + 64 * j, none⟩) ((L.drop (64 * j)).take 64) := (Bytes.drop (64 * j) (.inr ⟨bL, oL, rfl, hbLl, hcellL⟩)).take 64
      have hch : ((L.drop (64 * j)).take 64).length = 64 := by rw [List.length_take, hbs]; omega
      have HCS : Hid (comp first8 L (j + 1) = mixS (comp first8 L j) ((L.drop (64 * j)).take 64)) := Lib.hid rfl
      have HRN : Hid (∀ blk n r, rounds blk (n + 1) r = roundOf (Kc n) (wd blk n) (rounds blk n r)) := Lib.hid (fun _ _ _ => rfl)
      have HRS := Lib.hid (rspread_any (some ⟨bL, oL + 64 * j, none⟩) ((L.drop (64 * j)).take 64) (cL - 64 * j) wr hBk hch)
      have HJ : Hid (64 * (j + 1) = 64 * j + 64) := Lib.hid (by omega)
      have hat : 64 * j + 64 ≤ 64 * m := by omega
      have hmm : 64 * m ≤ 6400000000 := by omega
      clear hbs hBk hch hcellL
      generalize (L.drop (64 * j)).take 64 = blk at *
      obtain ⟨at_, hat_⟩ : ∃ t, 64 * j = t := ⟨_, rfl⟩
      rw [hat_] at HRS hat HJ ⊢
      have HAT := Lib.hid hat_
      clear hat_
      obtain ⟨N, hN⟩ : ∃ t, 64 * m = t := ⟨_, rfl⟩
      rw [hN] at hat hmm hcL ⊢
      have HNN := Lib.hid hN
      clear hN
      have hti : (at_ : Int) < (N : Int) := by omega
      have hti0 : (0 : Int) ≤ (at_ : Int) := by omega
      have hti1 : (at_ : Int) + 64 ≤ (N : Int) := by omega
      have hti2 : (N : Int) ≤ 6400000000 := by omega
      have hti3 : (N : Int) ≤ (cL : Int) := by omega
      go_wp2_with fail
      refine HRS.out.mono ?_
      rintro e w3 ⟨v3, rfl, hv3, hb3⟩
      have hbw := hb.trans (hb3.mono hb.size)
      obtain ⟨gw, cw, rfl, hgw1, hgw2, hcw, hmw, hwc⟩ := hv3.some_of_pos (by rw [List.length_map, schedTo_length]; omega)
      have e64 : ((schedTo blk 64).map U32).length = 64 := by rw [List.length_map, schedTo_length]
      have HW3 : Hid (∀ i, i < 64 → w3.cell? ⟨gw, i, none⟩ = some (U32 (wd blk i))) := Lib.hid (fun i hi => by rw [hwc i (by rw [e64]; exact hi), sched_at]; rfl)
      rw [e64] at hcw ⊢
      have HQ3 : Hid (∀ i, i < 64 → w3.cell? ⟨gq, i, none⟩ = some (U32 (Kc i))) := Lib.hid (fun i hi => (hbw.cell (p := ⟨gq, i, none⟩) hgq2).trans (HQC.out i hi))
      have HY3 : Hid (∀ i (h : i < (comp first8 L j).agg.toList.length), w3.cell? ⟨gl, i, none⟩ = some (comp first8 L j).agg.toList[i]) := Lib.hid (fun i h => (hb3.cell (p := ⟨gl, i, none⟩) hgl2).trans (HLC.out i h))
      have hgl3 : gl < w3.heap.size := Nat.lt_of_lt_of_le hgl2 hb3.size
      have hgq3 : gq < w3.heap.size := Nat.lt_of_lt_of_le hgq2 hbw.size
      have hwb : w.heap.size ≤ w3.heap.size := Nat.le_trans hb12.size hbw.size
      clear hwc e64 hb3 HLC hv hv3 hgl2 HRS
      generalize comp first8 L j = r at *
      obtain ⟨x0, x1, x2, x3, x4, x5, x6, x7⟩ := r
      have y0 : w3.cell? ⟨gl, 0, none⟩ = some (U32 x0) := HY3.out 0 (by show 0 < 8; omega)
      have y1 : w3.cell? ⟨gl, 1, none⟩ = some (U32 x1) := HY3.out 1 (by show 1 < 8; omega)
      have y2 : w3.cell? ⟨gl, 2, none⟩ = some (U32 x2) := HY3.out 2 (by show 2 < 8; omega)
      have y3 : w3.cell? ⟨gl, 3, none⟩ = some (U32 x3) := HY3.out 3 (by show 3 < 8; omega)
      have y4 : w3.cell? ⟨gl, 4, none⟩ = some (U32 x4) := HY3.out 4 (by show 4 < 8; omega)
      have y5 : w3.cell? ⟨gl, 5, none⟩ = some (U32 x5) := HY3.out 5 (by show 5 < 8; omega)
      have y6 : w3.cell? ⟨gl, 6, none⟩ = some (U32 x6) := HY3.out 6 (by show 6 < 8; omega)
      have y7 : w3.cell? ⟨gl, 7, none⟩ = some (U32 x7) := HY3.out 7 (by show 7 < 8; omega)
      go_wp2_with fail
      clear y0 y1 y2 y3 y4 y5 y6 y7
      go_loopw [8, 9, 10, 11, 12, 13, 14, 15, 16] (fun s8 s9 s10 s11 s12 s13 s14 s15 i wr => ∃ (k : Nat) (a b c d e f g h : BitVec 32), k ≤ 64 ∧ rounds blk k ⟨x0, x1, x2, x3, x4, x5, x6, x7⟩ = ⟨a, b, c, d, e, f, g, h⟩ ∧ s8 = U32 a ∧ s9 = U32 b ∧ s10 = U32 c ∧ s11 = U32 d ∧ s12 = U32 e ∧ s13 = U32 f ∧ s14 = U32 g ∧ s15 = U32 h ∧ i = .int .i64 k ∧ Below w3.heap.size w3 wr) (fun _ _ _ _ _ _ _ _ i _ => 64 - (intOf i).toNat)
      case atStart => exact ⟨0, x0, x1, x2, x3, x4, x5, x6, x7, by omega, rfl, rfl, rfl, rfl, rfl, rfl, rfl, rfl, rfl, rfl, Below.refl _ _⟩
      case round =>
        obtain ⟨k, a, b, c, d, e, f, g, h, hk, hr, rfl, rfl, rfl, rfl, rfl, rfl, rfl, rfl, rfl, hbi⟩ := hrel
        by_cases hlt6 : k < 64
        · have hn := HRN.out blk k ⟨x0, x1, x2, x3, x4, x5, x6, x7⟩
          rw [hr] at hn
          have hu : uOf ⟨a, b, c, d, e, f, g, h⟩ = (rot 2 a ^^^ rot 13 a ^^^ rot 22 a) + ((a &&& b) ^^^ (a &&& c) ^^^ (b &&& c)) := rfl
          have ht : tOf ⟨a, b, c, d, e, f, g, h⟩ (Kc k) (wd blk k) = h + (rot 6 e ^^^ rot 11 e ^^^ rot 25 e) + ((e &&& f) ^^^ (~~~e &&& g)) + Kc k + wd blk k := rfl
          have hro : roundOf (Kc k) (wd blk k) ⟨a, b, c, d, e, f, g, h⟩ = ⟨tOf ⟨a, b, c, d, e, f, g, h⟩ (Kc k) (wd blk k) + uOf ⟨a, b, c, d, e, f, g, h⟩, a, b, c, d + tOf ⟨a, b, c, d, e, f, g, h⟩ (Kc k) (wd blk k), e, f, g⟩ := rfl
          rw [hro, hu, ht] at hn
          have kq : wr.drew.cell? ⟨gq, k, none⟩ = some (U32 (Kc k)) := (hbi.cell (p := ⟨gq, k, none⟩) hgq3).trans (HQ3.out k hlt6)
          have kw : wr.drew.cell? ⟨gw, k, none⟩ = some (U32 (wd blk k)) := (hbi.cell (p := ⟨gw, k, none⟩) hgw2).trans (HW3.out k hlt6)
          generalize wd blk k = wv at *
          generalize Kc k = kk at *
          have HR6 := Lib.hid (fun w => rot_any 6 (by omega) e w)
          have HR11 := Lib.hid (fun w => rot_any 11 (by omega) e w)
          have HR25 := Lib.hid (fun w => rot_any 25 (by omega) e w)
          have HR2 := Lib.hid (fun w => rot_any 2 (by omega) a w)
          have HR13 := Lib.hid (fun w => rot_any 13 (by omega) a w)
          have HR22 := Lib.hid (fun w => rot_any 22 (by omega) a w)
          clear hu ht hro hr
          generalize rot 6 e = r6 at *
          generalize rot 11 e = r11 at *
          generalize rot 25 e = r25 at *
          generalize rot 2 a = r2 at *
          generalize rot 13 a = r13 at *
          generalize rot 22 a = r22 at *
          have HX1 := Lib.hid (sx32 r6 r11)
          generalize r6 ^^^ r11 = z1 at *
          have HX2 := Lib.hid (sx32 z1 r25)
          generalize z1 ^^^ r25 = z2 at *
          have HV1 := Lib.hid (add32 h z2)
          generalize h + z2 = t1 at *
          have HA1 := Lib.hid (sa32 e f)
          generalize e &&& f = a1 at *
          have HNO := Lib.hid (not_sub e)
          generalize ~~~e = n1 at *
          have HA2 := Lib.hid (sa32 n1 g)
          generalize n1 &&& g = a2 at *
          have HC1 := Lib.hid (sx32 a1 a2)
          generalize a1 ^^^ a2 = c1 at *
          have HV2 := Lib.hid (add32 t1 c1)
          generalize t1 + c1 = t2 at *
          have HV3 := Lib.hid (add32 t2 kk)
          generalize t2 + kk = t3 at *
          have HV4 := Lib.hid (add32 t3 wv)
          generalize t3 + wv = t at *
          have HY1 := Lib.hid (sx32 r2 r13)
          generalize r2 ^^^ r13 = p1 at *
          have HY2 := Lib.hid (sx32 p1 r22)
          generalize p1 ^^^ r22 = p2 at *
          have HM1 := Lib.hid (sa32 a b)
          generalize a &&& b = m1 at *
          have HM2 := Lib.hid (sa32 a c)
          generalize a &&& c = m2 at *
          have HM3 := Lib.hid (sx32 m1 m2)
          generalize m1 ^^^ m2 = m3 at *
          have HM4 := Lib.hid (sa32 b c)
          generalize b &&& c = m4 at *
          have HM5 := Lib.hid (sx32 m3 m4)
          generalize m3 ^^^ m4 = m5 at *
          have HU := Lib.hid (add32m p2 m5)
          generalize p2 + m5 = u at *
          have HDT := Lib.hid (add32m d t)
          generalize d + t = dt at *
          have HTU := Lib.hid (add32m t u)
          generalize t + u = tu at *
          have HN6 := Lib.hid hn
          have hki : (k : Int) < 64 := by omega
          have hk0 : (0 : Int) ≤ (k : Int) := by omega
          clear hn
          go_wp2_with fail
          refine wp_region_held_drew (S := fun w' => w'.cell? ⟨gq, k, none⟩ = some (U32 kk) ∧ w'.cell? ⟨gw, k, none⟩ = some (U32 wv)) (by kernel_rfl) ⟨kq, kw⟩ (fun hS => ?_)
          refine wpAnyH_take (i := 0) (oi := { dst := some 67, op := Op.move (Operand.tmp 15), type := 53, pos := "ref.go:138", after := #[], guard := none }) (v := ?va20) rfl (by kernel_rfl) (by kernel_rfl) (by kernel_rfl) (fun _ _ _ h => h) (Or.inl ⟨by rfl, ?ya20⟩) hS ?_
          case ya20 =>
            intro w hSw
            go_simp; all_goals (with_reducible rfl)
          simp only [Act.put, List.setIfInBounds_toArray, List.set_cons_zero, List.set_cons_succ]
          refine wpAnyH_take (i := 1) (oi := { dst := some 68, op := Op.move (Operand.tmp 12), type := 53, pos := "ref.go:138", after := #[], guard := none }) (v := ?va21) rfl (by kernel_rfl) (by kernel_rfl) (by kernel_rfl) (fun _ _ _ h => h) (Or.inl ⟨by rfl, ?ya21⟩) hS ?_
          case ya21 =>
            intro w hSw
            go_simp; all_goals (with_reducible rfl)
          simp only [Act.put, List.setIfInBounds_toArray, List.set_cons_zero, List.set_cons_succ]
          refine wpAnyH_take (i := 3) (oi := { dst := some 70, op := Op.move (Operand.tmp 12), type := 53, pos := "ref.go:138", after := #[], guard := none }) (v := ?va22) rfl (by kernel_rfl) (by kernel_rfl) (by kernel_rfl) (fun _ _ _ h => h) (Or.inl ⟨by rfl, ?ya22⟩) hS ?_
          case ya22 =>
            intro w hSw
            go_simp; all_goals (with_reducible rfl)
          simp only [Act.put, List.setIfInBounds_toArray, List.set_cons_zero, List.set_cons_succ]
          refine wpAnyH_take (i := 6) (oi := { dst := some 73, op := Op.move (Operand.tmp 12), type := 53, pos := "ref.go:138", after := #[], guard := none }) (v := ?va23) rfl (by kernel_rfl) (by kernel_rfl) (by kernel_rfl) (fun _ _ _ h => h) (Or.inl ⟨by rfl, ?ya23⟩) hS ?_
          case ya23 =>
            intro w hSw
            go_simp; all_goals (with_reducible rfl)
          simp only [Act.put, List.setIfInBounds_toArray, List.set_cons_zero, List.set_cons_succ]
          refine wpAnyH_take (i := 10) (oi := { dst := some 77, op := Op.move (Operand.tmp 12), type := 53, pos := "ref.go:138", after := #[], guard := none }) (v := ?va24) rfl (by kernel_rfl) (by kernel_rfl) (by kernel_rfl) (fun _ _ _ h => h) (Or.inl ⟨by rfl, ?ya24⟩) hS ?_
          case ya24 =>
            intro w hSw
            go_simp; all_goals (with_reducible rfl)
          simp only [Act.put, List.setIfInBounds_toArray, List.set_cons_zero, List.set_cons_succ]
          refine wpAnyH_take (i := 11) (oi := { dst := some 78, op := Op.move (Operand.tmp 13), type := 53, pos := "ref.go:138", after := #[], guard := none }) (v := ?va25) rfl (by kernel_rfl) (by kernel_rfl) (by kernel_rfl) (fun _ _ _ h => h) (Or.inl ⟨by rfl, ?ya25⟩) hS ?_
          case ya25 =>
            intro w hSw
            go_simp; all_goals (with_reducible rfl)
          simp only [Act.put, List.setIfInBounds_toArray, List.set_cons_zero, List.set_cons_succ]
          refine wpAnyH_take (i := 12) (oi := { dst := some 79, op := Op.binOp BinOp.and 53 (Operand.tmp 77) (Operand.tmp 78) 53, type := 53, pos := "ref.go:138", after := #[{ on := 10, ground := Ground.data }, { on := 11, ground := Ground.data }], guard := none }) (v := ?va26) rfl (by kernel_rfl) (by kernel_rfl) (by kernel_rfl) (fun _ _ _ h => h) (Or.inl ⟨by rfl, ?ya26⟩) hS ?_
          case ya26 =>
            intro w hSw
            go_simp; all_goals (with_reducible rfl)
          simp only [Act.put, List.setIfInBounds_toArray, List.set_cons_zero, List.set_cons_succ]
          rw [HA1.out]
          refine wpAnyH_take (i := 13) (oi := { dst := some 80, op := Op.move (Operand.tmp 12), type := 53, pos := "ref.go:138", after := #[], guard := none }) (v := ?va27) rfl (by kernel_rfl) (by kernel_rfl) (by kernel_rfl) (fun _ _ _ h => h) (Or.inl ⟨by rfl, ?ya27⟩) hS ?_
          case ya27 =>
            intro w hSw
            go_simp; all_goals (with_reducible rfl)
          simp only [Act.put, List.setIfInBounds_toArray, List.set_cons_zero, List.set_cons_succ]
          refine wpAnyH_take (i := 14) (oi := { dst := some 81, op := Op.binOp BinOp.sub 53 (Operand.const (Value.int IntKind.u32 4294967295)) (Operand.tmp 80) 53, type := 53, pos := "ref.go:138", after := #[{ on := 13, ground := Ground.data }], guard := none }) (v := ?va28) rfl (by kernel_rfl) (by kernel_rfl) (by kernel_rfl) (fun _ _ _ h => h) (Or.inl ⟨by rfl, ?ya28⟩) hS ?_
          case ya28 =>
            intro w hSw
            go_simp; all_goals (with_reducible rfl)
          simp only [Act.put, List.setIfInBounds_toArray, List.set_cons_zero, List.set_cons_succ]
          rw [HNO.out]
          refine wpAnyH_take (i := 15) (oi := { dst := some 82, op := Op.move (Operand.tmp 14), type := 53, pos := "ref.go:138", after := #[], guard := none }) (v := ?va29) rfl (by kernel_rfl) (by kernel_rfl) (by kernel_rfl) (fun _ _ _ h => h) (Or.inl ⟨by rfl, ?ya29⟩) hS ?_
          case ya29 =>
            intro w hSw
            go_simp; all_goals (with_reducible rfl)
          simp only [Act.put, List.setIfInBounds_toArray, List.set_cons_zero, List.set_cons_succ]
          refine wpAnyH_take (i := 16) (oi := { dst := some 83, op := Op.binOp BinOp.and 53 (Operand.tmp 81) (Operand.tmp 82) 53, type := 53, pos := "ref.go:138", after := #[{ on := 14, ground := Ground.data }, { on := 15, ground := Ground.data }], guard := none }) (v := ?va30) rfl (by kernel_rfl) (by kernel_rfl) (by kernel_rfl) (fun _ _ _ h => h) (Or.inl ⟨by rfl, ?ya30⟩) hS ?_
          case ya30 =>
            intro w hSw
            go_simp; all_goals (with_reducible rfl)
          simp only [Act.put, List.setIfInBounds_toArray, List.set_cons_zero, List.set_cons_succ]
          rw [HA2.out]
          refine wpAnyH_take (i := 17) (oi := { dst := some 84, op := Op.binOp BinOp.xor 53 (Operand.tmp 79) (Operand.tmp 83) 53, type := 53, pos := "ref.go:138", after := #[{ on := 12, ground := Ground.data }, { on := 16, ground := Ground.data }], guard := none }) (v := ?va31) rfl (by kernel_rfl) (by kernel_rfl) (by kernel_rfl) (fun _ _ _ h => h) (Or.inl ⟨by rfl, ?ya31⟩) hS ?_
          case ya31 =>
            intro w hSw
            go_simp; all_goals (with_reducible rfl)
          simp only [Act.put, List.setIfInBounds_toArray, List.set_cons_zero, List.set_cons_succ]
          rw [HC1.out]
          refine wpAnyH_take (i := 19) (oi := { dst := some 86, op := Op.move (Operand.tmp 4), type := 62, pos := "ref.go:138", after := #[], guard := none }) (v := ?va32) rfl (by kernel_rfl) (by kernel_rfl) (by kernel_rfl) (fun _ _ _ h => h) (Or.inl ⟨by rfl, ?ya32⟩) hS ?_
          case ya32 =>
            intro w hSw
            go_simp; all_goals (with_reducible rfl)
          simp only [Act.put, List.setIfInBounds_toArray, List.set_cons_zero, List.set_cons_succ]
          refine wpAnyH_take (i := 20) (oi := { dst := some 87, op := Op.move (Operand.tmp 16), type := 3, pos := "ref.go:138", after := #[], guard := none }) (v := ?va33) rfl (by kernel_rfl) (by kernel_rfl) (by kernel_rfl) (fun _ _ _ h => h) (Or.inl ⟨by rfl, ?ya33⟩) hS ?_
          case ya33 =>
            intro w hSw
            go_simp; all_goals (with_reducible rfl)
          simp only [Act.put, List.setIfInBounds_toArray, List.set_cons_zero, List.set_cons_succ]
          refine wpAnyH_take (i := 21) (oi := { dst := some 88, op := Op.indexAddr 62 (Operand.tmp 86) (Operand.tmp 87), type := 0, pos := "ref.go:138", after := #[{ on := 19, ground := Ground.data }, { on := 20, ground := Ground.data }], guard := none }) (v := ?va34) rfl (by kernel_rfl) (by kernel_rfl) (by kernel_rfl) (fun _ _ _ h => h) (Or.inl ⟨by rfl, ?ya34⟩) hS ?_
          case ya34 =>
            intro w hSw
            have q0 : (0 : Int) ≤ (k : Int) := by omega
            have q1 : (k : Int) < 64 := by omega
            go_simp; all_goals (with_reducible rfl)
          simp only [Act.put, List.setIfInBounds_toArray, List.set_cons_zero, List.set_cons_succ]
          refine wpAnyH_take (i := 22) (oi := { dst := some 89, op := Op.load 53 (Operand.tmp 88), type := 53, pos := "ref.go:138", after := #[{ on := 21, ground := Ground.data }], guard := none }) (v := ?va35) rfl (by kernel_rfl) (by kernel_rfl) (by kernel_rfl) (fun _ _ _ h => h) (Or.inl ⟨by rfl, ?ya35⟩) hS ?_
          case ya35 =>
            intro w hSw
            obtain ⟨j0, j1⟩ := hSw
            go_simp; all_goals (with_reducible rfl)
          simp only [Act.put, List.setIfInBounds_toArray, List.set_cons_zero, List.set_cons_succ]
          refine wpAnyH_take (i := 24) (oi := { dst := some 91, op := Op.move (Operand.tmp 7), type := 62, pos := "ref.go:138", after := #[], guard := none }) (v := ?va36) rfl (by kernel_rfl) (by kernel_rfl) (by kernel_rfl) (fun _ _ _ h => h) (Or.inl ⟨by rfl, ?ya36⟩) hS ?_
          case ya36 =>
            intro w hSw
            go_simp; all_goals (with_reducible rfl)
          simp only [Act.put, List.setIfInBounds_toArray, List.set_cons_zero, List.set_cons_succ]
          refine wpAnyH_take (i := 25) (oi := { dst := some 92, op := Op.move (Operand.tmp 16), type := 3, pos := "ref.go:138", after := #[], guard := none }) (v := ?va37) rfl (by kernel_rfl) (by kernel_rfl) (by kernel_rfl) (fun _ _ _ h => h) (Or.inl ⟨by rfl, ?ya37⟩) hS ?_
          case ya37 =>
            intro w hSw
            go_simp; all_goals (with_reducible rfl)
          simp only [Act.put, List.setIfInBounds_toArray, List.set_cons_zero, List.set_cons_succ]
          refine wpAnyH_take (i := 26) (oi := { dst := some 93, op := Op.indexAddr 62 (Operand.tmp 91) (Operand.tmp 92), type := 0, pos := "ref.go:138", after := #[{ on := 24, ground := Ground.data }, { on := 25, ground := Ground.data }], guard := none }) (v := ?va38) rfl (by kernel_rfl) (by kernel_rfl) (by kernel_rfl) (fun _ _ _ h => h) (Or.inl ⟨by rfl, ?ya38⟩) hS ?_
          case ya38 =>
            intro w hSw
            have q0 : (0 : Int) ≤ (k : Int) := by omega
            have q1 : (k : Int) < 64 := by omega
            go_simp; all_goals (with_reducible rfl)
          simp only [Act.put, List.setIfInBounds_toArray, List.set_cons_zero, List.set_cons_succ]
          refine wpAnyH_take (i := 27) (oi := { dst := some 94, op := Op.load 53 (Operand.tmp 93), type := 53, pos := "ref.go:138", after := #[{ on := 26, ground := Ground.data }], guard := none }) (v := ?va39) rfl (by kernel_rfl) (by kernel_rfl) (by kernel_rfl) (fun _ _ _ h => h) (Or.inl ⟨by rfl, ?ya39⟩) hS ?_
          case ya39 =>
            intro w hSw
            obtain ⟨j0, j1⟩ := hSw
            go_simp; all_goals (with_reducible rfl)
          simp only [Act.put, List.setIfInBounds_toArray, List.set_cons_zero, List.set_cons_succ]
          refine wpAnyH_ready (rs := [2]) (by kernel_rfl) (by simp) ?_
          refine (AllReadyH.cons (o := { dst := some 69, op := Op.call { callee := Callee.value (Operand.func 46), args := #[Operand.tmp 68, Operand.const (Value.int IntKind.i64 6)], argTypes := #[53, 3] }, type := 53, pos := "ref.go:138", after := #[{ on := 1, ground := Ground.data }], guard := none }) rfl (fun K hK => ?_) AllReadyH.nil)
          go_simp
          refine (HR6.out _).mono ?_
          rintro e w' ⟨rfl, rfl⟩
          go_wp2_with fail
          refine hK.out _ _ hS (fun _ => ?_)
          clear hK K
          refine wpAnyH_ready (rs := [4]) (by kernel_rfl) (by simp) ?_
          refine (AllReadyH.cons (o := { dst := some 71, op := Op.call { callee := Callee.value (Operand.func 46), args := #[Operand.tmp 70, Operand.const (Value.int IntKind.i64 11)], argTypes := #[53, 3] }, type := 53, pos := "ref.go:138", after := #[{ on := 3, ground := Ground.data }, { on := 2, ground := Ground.chain }], guard := none }) rfl (fun K hK => ?_) AllReadyH.nil)
          go_simp
          refine (HR11.out _).mono ?_
          rintro e w' ⟨rfl, rfl⟩
          go_wp2_with fail
          refine hK.out _ _ hS (fun _ => ?_)
          clear hK K
          refine wpAnyH_take (i := 5) (oi := { dst := some 72, op := Op.binOp BinOp.xor 53 (Operand.tmp 69) (Operand.tmp 71) 53, type := 53, pos := "ref.go:138", after := #[{ on := 2, ground := Ground.data }, { on := 4, ground := Ground.data }], guard := none }) (v := ?va40) rfl (by kernel_rfl) (by kernel_rfl) (by kernel_rfl) (fun _ _ _ h => h) (Or.inl ⟨by rfl, ?ya40⟩) hS ?_
          case ya40 =>
            intro w hSw
            go_simp; all_goals (with_reducible rfl)
          simp only [Act.put, List.setIfInBounds_toArray, List.set_cons_zero, List.set_cons_succ]
          rw [HX1.out]
          refine wpAnyH_ready (rs := [7]) (by kernel_rfl) (by simp) ?_
          refine (AllReadyH.cons (o := { dst := some 74, op := Op.call { callee := Callee.value (Operand.func 46), args := #[Operand.tmp 73, Operand.const (Value.int IntKind.i64 25)], argTypes := #[53, 3] }, type := 53, pos := "ref.go:138", after := #[{ on := 6, ground := Ground.data }, { on := 4, ground := Ground.chain }], guard := none }) rfl (fun K hK => ?_) AllReadyH.nil)
          go_simp
          refine (HR25.out _).mono ?_
          rintro e w' ⟨rfl, rfl⟩
          go_wp2_with fail
          refine hK.out _ _ hS (fun _ => ?_)
          clear hK K
          refine wpAnyH_take (i := 8) (oi := { dst := some 75, op := Op.binOp BinOp.xor 53 (Operand.tmp 72) (Operand.tmp 74) 53, type := 53, pos := "ref.go:138", after := #[{ on := 5, ground := Ground.data }, { on := 7, ground := Ground.data }], guard := none }) (v := ?va41) rfl (by kernel_rfl) (by kernel_rfl) (by kernel_rfl) (fun _ _ _ h => h) (Or.inl ⟨by rfl, ?ya41⟩) hS ?_
          case ya41 =>
            intro w hSw
            go_simp; all_goals (with_reducible rfl)
          simp only [Act.put, List.setIfInBounds_toArray, List.set_cons_zero, List.set_cons_succ]
          rw [HX2.out]
          refine wpAnyH_take (i := 9) (oi := { dst := some 76, op := Op.binOp BinOp.add 53 (Operand.tmp 67) (Operand.tmp 75) 53, type := 53, pos := "ref.go:138", after := #[{ on := 0, ground := Ground.data }, { on := 8, ground := Ground.data }], guard := none }) (v := ?va42) rfl (by kernel_rfl) (by kernel_rfl) (by kernel_rfl) (fun _ _ _ h => h) (Or.inl ⟨by rfl, ?ya42⟩) hS ?_
          case ya42 =>
            intro w hSw
            go_simp; all_goals (with_reducible rfl)
          simp only [Act.put, List.setIfInBounds_toArray, List.set_cons_zero, List.set_cons_succ]
          rw [HV1.out]
          refine wpAnyH_take (i := 18) (oi := { dst := some 85, op := Op.binOp BinOp.add 53 (Operand.tmp 76) (Operand.tmp 84) 53, type := 53, pos := "ref.go:138", after := #[{ on := 9, ground := Ground.data }, { on := 17, ground := Ground.data }], guard := none }) (v := ?va43) rfl (by kernel_rfl) (by kernel_rfl) (by kernel_rfl) (fun _ _ _ h => h) (Or.inl ⟨by rfl, ?ya43⟩) hS ?_
          case ya43 =>
            intro w hSw
            go_simp; all_goals (with_reducible rfl)
          simp only [Act.put, List.setIfInBounds_toArray, List.set_cons_zero, List.set_cons_succ]
          rw [HV2.out]
          refine wpAnyH_take (i := 23) (oi := { dst := some 90, op := Op.binOp BinOp.add 53 (Operand.tmp 85) (Operand.tmp 89) 53, type := 53, pos := "ref.go:138", after := #[{ on := 18, ground := Ground.data }, { on := 22, ground := Ground.data }], guard := none }) (v := ?va44) rfl (by kernel_rfl) (by kernel_rfl) (by kernel_rfl) (fun _ _ _ h => h) (Or.inl ⟨by rfl, ?ya44⟩) hS ?_
          case ya44 =>
            intro w hSw
            go_simp; all_goals (with_reducible rfl)
          simp only [Act.put, List.setIfInBounds_toArray, List.set_cons_zero, List.set_cons_succ]
          rw [HV3.out]
          refine wpAnyH_take (i := 28) (oi := { dst := some 95, op := Op.binOp BinOp.add 53 (Operand.tmp 90) (Operand.tmp 94) 53, type := 53, pos := "ref.go:138", after := #[{ on := 23, ground := Ground.data }, { on := 27, ground := Ground.data }], guard := none }) (v := ?va45) rfl (by kernel_rfl) (by kernel_rfl) (by kernel_rfl) (fun _ _ _ h => h) (Or.inl ⟨by rfl, ?ya45⟩) hS ?_
          case ya45 =>
            intro w hSw
            go_simp; all_goals (with_reducible rfl)
          simp only [Act.put, List.setIfInBounds_toArray, List.set_cons_zero, List.set_cons_succ]
          rw [HV4.out]
          refine wpAnyH_take (i := 29) (oi := { dst := some 17, op := Op.assign (Operand.tmp 95), type := 53, pos := "ref.go:138", after := #[{ on := 28, ground := Ground.data }, { on := 7, ground := Ground.chain }, { on := 0, ground := Ground.phase }, { on := 1, ground := Ground.phase }, { on := 2, ground := Ground.phase }, { on := 3, ground := Ground.phase }, { on := 4, ground := Ground.phase }, { on := 5, ground := Ground.phase }, { on := 6, ground := Ground.phase }, { on := 7, ground := Ground.phase }, { on := 8, ground := Ground.phase }, { on := 9, ground := Ground.phase }, { on := 10, ground := Ground.phase }, { on := 11, ground := Ground.phase }, { on := 12, ground := Ground.phase }, { on := 13, ground := Ground.phase }, { on := 14, ground := Ground.phase }, { on := 15, ground := Ground.phase }, { on := 16, ground := Ground.phase }, { on := 17, ground := Ground.phase }, { on := 18, ground := Ground.phase }, { on := 19, ground := Ground.phase }, { on := 20, ground := Ground.phase }, { on := 21, ground := Ground.phase }, { on := 22, ground := Ground.phase }, { on := 23, ground := Ground.phase }, { on := 24, ground := Ground.phase }, { on := 25, ground := Ground.phase }, { on := 26, ground := Ground.phase }, { on := 27, ground := Ground.phase }, { on := 28, ground := Ground.phase }], guard := none }) (v := ?va46) rfl (by kernel_rfl) (by kernel_rfl) (by kernel_rfl) (fun _ _ _ h => h) (Or.inl ⟨by rfl, ?ya46⟩) hS ?_
          case ya46 =>
            intro w hSw
            go_simp; all_goals (with_reducible rfl)
          simp only [Act.put, List.setIfInBounds_toArray, List.set_cons_zero, List.set_cons_succ]
          refine wpAnyH_done (by kernel_rfl) ?_ _
          clear kq kw
          have q1 := HY1.out
          have q2 := HY2.out
          have q3 := HM1.out
          have q4 := HM2.out
          have q5 := HM3.out
          have q6 := HM4.out
          have q7 := HM5.out
          have q8 := HU.out
          have q9 := HDT.out
          have q10 := HTU.out
          go_wp2_with fail
          refine (HR2.out _).mono ?_
          rintro e w' ⟨rfl, rfl⟩
          go_wp2_with fail
          refine (HR13.out _).mono ?_
          rintro e w' ⟨rfl, rfl⟩
          go_wp2_with fail
          refine (HR22.out _).mono ?_
          rintro e w' ⟨rfl, rfl⟩
          go_wp2_with fail
          go_roundw
          case rel => exact ⟨k + 1, tu, a, b, c, dt, e, f, g, by omega, HN6.out, (by first | rfl | exact congrArg (Value.int .u32) HTU.out), rfl, rfl, rfl, (by first | rfl | exact congrArg (Value.int .u32) HDT.out), rfl, rfl, rfl, by go_num, hbi.drew⟩
          case measure => simp [intOf]; omega
        · obtain rfl : k = 64 := by omega
          have hm : mixS ⟨x0, x1, x2, x3, x4, x5, x6, x7⟩ blk = ⟨x0 + a, x1 + b, x2 + c, x3 + d, x4 + e, x5 + f, x6 + g, x7 + h⟩ := by
            show R8.add _ (rounds blk 64 _) = _
            rw [hr]; rfl
          have HM := Lib.hid hm
          clear hm hr
          have y0 : wr.drew.cell? ⟨gl, 0, none⟩ = some (U32 x0) := (hbi.cell (p := ⟨gl, 0, none⟩) hgl3).trans (HY3.out 0 (by show 0 < 8; omega))
          have y1 : wr.drew.cell? ⟨gl, 1, none⟩ = some (U32 x1) := (hbi.cell (p := ⟨gl, 1, none⟩) hgl3).trans (HY3.out 1 (by show 1 < 8; omega))
          have y2 : wr.drew.cell? ⟨gl, 2, none⟩ = some (U32 x2) := (hbi.cell (p := ⟨gl, 2, none⟩) hgl3).trans (HY3.out 2 (by show 2 < 8; omega))
          have y3 : wr.drew.cell? ⟨gl, 3, none⟩ = some (U32 x3) := (hbi.cell (p := ⟨gl, 3, none⟩) hgl3).trans (HY3.out 3 (by show 3 < 8; omega))
          have y4 : wr.drew.cell? ⟨gl, 4, none⟩ = some (U32 x4) := (hbi.cell (p := ⟨gl, 4, none⟩) hgl3).trans (HY3.out 4 (by show 4 < 8; omega))
          have y5 : wr.drew.cell? ⟨gl, 5, none⟩ = some (U32 x5) := (hbi.cell (p := ⟨gl, 5, none⟩) hgl3).trans (HY3.out 5 (by show 5 < 8; omega))
          have y6 : wr.drew.cell? ⟨gl, 6, none⟩ = some (U32 x6) := (hbi.cell (p := ⟨gl, 6, none⟩) hgl3).trans (HY3.out 6 (by show 6 < 8; omega))
          have y7 : wr.drew.cell? ⟨gl, 7, none⟩ = some (U32 x7) := (hbi.cell (p := ⟨gl, 7, none⟩) hgl3).trans (HY3.out 7 (by show 7 < 8; omega))
          have HS0 := Lib.hid (add32 x0 a)
          generalize hs0 : x0 + a = s0 at *
          clear hs0
          have HS1 := Lib.hid (add32 x1 b)
          generalize hs1 : x1 + b = s1 at *
          clear hs1
          have HS2 := Lib.hid (add32 x2 c)
          generalize hs2 : x2 + c = s2 at *
          clear hs2
          have HS3 := Lib.hid (add32 x3 d)
          generalize hs3 : x3 + d = s3 at *
          clear hs3
          have HS4 := Lib.hid (add32 x4 e)
          generalize hs4 : x4 + e = s4 at *
          clear hs4
          have HS5 := Lib.hid (add32 x5 f)
          generalize hs5 : x5 + f = s5 at *
          clear hs5
          have HS6 := Lib.hid (add32 x6 g)
          generalize hs6 : x6 + g = s6 at *
          clear hs6
          have HS7 := Lib.hid (add32 x7 h)
          generalize hs7 : x7 + h = s7 at *
          clear hs7
          have hal := below_one wr.drew (.cells #[U32 s0, U32 s1, U32 s2, U32 s3, U32 s4, U32 s5, U32 s6, U32 s7] 53)
          have HAF : Hid ((wr.drew.alloc (.cells #[U32 s0, U32 s1, U32 s2, U32 s3, U32 s4, U32 s5, U32 s6, U32 s7] 53)).cell? ⟨gl, 0, none⟩ = some (U32 x0) ∧ (wr.drew.alloc (.cells #[U32 s0, U32 s1, U32 s2, U32 s3, U32 s4, U32 s5, U32 s6, U32 s7] 53)).cell? ⟨gl, 1, none⟩ = some (U32 x1) ∧ (wr.drew.alloc (.cells #[U32 s0, U32 s1, U32 s2, U32 s3, U32 s4, U32 s5, U32 s6, U32 s7] 53)).cell? ⟨gl, 2, none⟩ = some (U32 x2) ∧ (wr.drew.alloc (.cells #[U32 s0, U32 s1, U32 s2, U32 s3, U32 s4, U32 s5, U32 s6, U32 s7] 53)).cell? ⟨gl, 3, none⟩ = some (U32 x3) ∧ (wr.drew.alloc (.cells #[U32 s0, U32 s1, U32 s2, U32 s3, U32 s4, U32 s5, U32 s6, U32 s7] 53)).cell? ⟨gl, 4, none⟩ = some (U32 x4) ∧ (wr.drew.alloc (.cells #[U32 s0, U32 s1, U32 s2, U32 s3, U32 s4, U32 s5, U32 s6, U32 s7] 53)).cell? ⟨gl, 5, none⟩ = some (U32 x5) ∧ (wr.drew.alloc (.cells #[U32 s0, U32 s1, U32 s2, U32 s3, U32 s4, U32 s5, U32 s6, U32 s7] 53)).cell? ⟨gl, 6, none⟩ = some (U32 x6) ∧ (wr.drew.alloc (.cells #[U32 s0, U32 s1, U32 s2, U32 s3, U32 s4, U32 s5, U32 s6, U32 s7] 53)).cell? ⟨gl, 7, none⟩ = some (U32 x7)) :=
            Lib.hid ⟨(hal.cell (p := ⟨gl, 0, none⟩) (Nat.lt_of_lt_of_le hgl3 hbi.size)).trans y0, (hal.cell (p := ⟨gl, 1, none⟩) (Nat.lt_of_lt_of_le hgl3 hbi.size)).trans y1, (hal.cell (p := ⟨gl, 2, none⟩) (Nat.lt_of_lt_of_le hgl3 hbi.size)).trans y2, (hal.cell (p := ⟨gl, 3, none⟩) (Nat.lt_of_lt_of_le hgl3 hbi.size)).trans y3, (hal.cell (p := ⟨gl, 4, none⟩) (Nat.lt_of_lt_of_le hgl3 hbi.size)).trans y4, (hal.cell (p := ⟨gl, 5, none⟩) (Nat.lt_of_lt_of_le hgl3 hbi.size)).trans y5, (hal.cell (p := ⟨gl, 6, none⟩) (Nat.lt_of_lt_of_le hgl3 hbi.size)).trans y6, (hal.cell (p := ⟨gl, 7, none⟩) (Nat.lt_of_lt_of_le hgl3 hbi.size)).trans y7⟩
          have hown : OwnV 53 w.heap.size (wr.drew.alloc (.cells #[U32 s0, U32 s1, U32 s2, U32 s3, U32 s4, U32 s5, U32 s6, U32 s7] 53)) (.slice (some ⟨wr.heap.size, 0, none⟩) 8 8) [U32 s0, U32 s1, U32 s2, U32 s3, U32 s4, U32 s5, U32 s6, U32 s7] :=
            OwnV.lit 53 wr.drew [U32 s0, U32 s1, U32 s2, U32 s3, U32 s4, U32 s5, U32 s6, U32 s7] (Nat.le_trans hwb hbi.size) (by simp)
          have hbn : Below w2.heap.size w2 (wr.drew.alloc (.cells #[U32 s0, U32 s1, U32 s2, U32 s3, U32 s4, U32 s5, U32 s6, U32 s7] 53)) := (hbw.trans (hbi.mono hbw.size)).drew.alloc (Nat.le_trans hbw.size hbi.size) _
          clear hal
          go_wp2_with fail
          refine wp_region_held_drew (S := fun w' => w'.cell? ⟨gl, 0, none⟩ = some (U32 x0) ∧ w'.cell? ⟨gl, 1, none⟩ = some (U32 x1) ∧ w'.cell? ⟨gl, 2, none⟩ = some (U32 x2) ∧ w'.cell? ⟨gl, 3, none⟩ = some (U32 x3) ∧ w'.cell? ⟨gl, 4, none⟩ = some (U32 x4) ∧ w'.cell? ⟨gl, 5, none⟩ = some (U32 x5) ∧ w'.cell? ⟨gl, 6, none⟩ = some (U32 x6) ∧ w'.cell? ⟨gl, 7, none⟩ = some (U32 x7)) (by kernel_rfl) ⟨y0, y1, y2, y3, y4, y5, y6, y7⟩ (fun hS => ?_)
          refine wpAnyH_take (i := 0) (oi := { dst := some 128, op := Op.move (Operand.tmp 3), type := 62, pos := "ref.go:149", after := #[], guard := none }) (v := ?vb47) rfl (by kernel_rfl) (by kernel_rfl) (by kernel_rfl) (fun _ _ _ h => h) (Or.inl ⟨by rfl, ?yb47⟩) hS ?_
          case yb47 =>
            intro w hSw
            go_simp; all_goals (with_reducible rfl)
          simp only [Act.put, List.setIfInBounds_toArray, List.set_cons_zero, List.set_cons_succ]
          refine wpAnyH_take (i := 1) (oi := { dst := some 129, op := Op.indexAddr 62 (Operand.tmp 128) (Operand.const (Value.int IntKind.i64 0)), type := 0, pos := "ref.go:149", after := #[{ on := 0, ground := Ground.data }], guard := none }) (v := ?vb48) rfl (by kernel_rfl) (by kernel_rfl) (by kernel_rfl) (fun _ _ _ h => h) (Or.inl ⟨by rfl, ?yb48⟩) hS ?_
          case yb48 =>
            intro w hSw
            go_simp; all_goals (with_reducible rfl)
          simp only [Act.put, List.setIfInBounds_toArray, List.set_cons_zero, List.set_cons_succ]
          refine wpAnyH_take (i := 2) (oi := { dst := some 130, op := Op.load 53 (Operand.tmp 129), type := 53, pos := "ref.go:149", after := #[{ on := 1, ground := Ground.data }], guard := none }) (v := ?vb49) rfl (by kernel_rfl) (by kernel_rfl) (by kernel_rfl) (fun _ _ _ h => h) (Or.inl ⟨by rfl, ?yb49⟩) hS ?_
          case yb49 =>
            intro w hSw
            obtain ⟨j0, j1, j2, j3, j4, j5, j6, j7⟩ := hSw
            go_simp; all_goals (with_reducible rfl)
          simp only [Act.put, List.setIfInBounds_toArray, List.set_cons_zero, List.set_cons_succ]
          refine wpAnyH_take (i := 3) (oi := { dst := some 131, op := Op.move (Operand.tmp 8), type := 53, pos := "ref.go:149", after := #[], guard := none }) (v := ?vb50) rfl (by kernel_rfl) (by kernel_rfl) (by kernel_rfl) (fun _ _ _ h => h) (Or.inl ⟨by rfl, ?yb50⟩) hS ?_
          case yb50 =>
            intro w hSw
            go_simp; all_goals (with_reducible rfl)
          simp only [Act.put, List.setIfInBounds_toArray, List.set_cons_zero, List.set_cons_succ]
          refine wpAnyH_take (i := 4) (oi := { dst := some 132, op := Op.binOp BinOp.add 53 (Operand.tmp 130) (Operand.tmp 131) 53, type := 53, pos := "ref.go:149", after := #[{ on := 2, ground := Ground.data }, { on := 3, ground := Ground.data }], guard := none }) (v := ?vb51) rfl (by kernel_rfl) (by kernel_rfl) (by kernel_rfl) (fun _ _ _ h => h) (Or.inl ⟨by rfl, ?yb51⟩) hS ?_
          case yb51 =>
            intro w hSw
            go_simp; all_goals (with_reducible rfl)
          simp only [Act.put, List.setIfInBounds_toArray, List.set_cons_zero, List.set_cons_succ]
          rw [HS0.out]
          refine wpAnyH_take (i := 5) (oi := { dst := some 133, op := Op.move (Operand.tmp 3), type := 62, pos := "ref.go:149", after := #[], guard := none }) (v := ?vb52) rfl (by kernel_rfl) (by kernel_rfl) (by kernel_rfl) (fun _ _ _ h => h) (Or.inl ⟨by rfl, ?yb52⟩) hS ?_
          case yb52 =>
            intro w hSw
            go_simp; all_goals (with_reducible rfl)
          simp only [Act.put, List.setIfInBounds_toArray, List.set_cons_zero, List.set_cons_succ]
          refine wpAnyH_take (i := 6) (oi := { dst := some 134, op := Op.indexAddr 62 (Operand.tmp 133) (Operand.const (Value.int IntKind.i64 1)), type := 0, pos := "ref.go:149", after := #[{ on := 5, ground := Ground.data }], guard := none }) (v := ?vb53) rfl (by kernel_rfl) (by kernel_rfl) (by kernel_rfl) (fun _ _ _ h => h) (Or.inl ⟨by rfl, ?yb53⟩) hS ?_
          case yb53 =>
            intro w hSw
            go_simp; all_goals (with_reducible rfl)
          simp only [Act.put, List.setIfInBounds_toArray, List.set_cons_zero, List.set_cons_succ]
          refine wpAnyH_take (i := 7) (oi := { dst := some 135, op := Op.load 53 (Operand.tmp 134), type := 53, pos := "ref.go:149", after := #[{ on := 6, ground := Ground.data }], guard := none }) (v := ?vb54) rfl (by kernel_rfl) (by kernel_rfl) (by kernel_rfl) (fun _ _ _ h => h) (Or.inl ⟨by rfl, ?yb54⟩) hS ?_
          case yb54 =>
            intro w hSw
            obtain ⟨j0, j1, j2, j3, j4, j5, j6, j7⟩ := hSw
            go_simp; all_goals (with_reducible rfl)
          simp only [Act.put, List.setIfInBounds_toArray, List.set_cons_zero, List.set_cons_succ]
          refine wpAnyH_take (i := 8) (oi := { dst := some 136, op := Op.move (Operand.tmp 9), type := 53, pos := "ref.go:149", after := #[], guard := none }) (v := ?vb55) rfl (by kernel_rfl) (by kernel_rfl) (by kernel_rfl) (fun _ _ _ h => h) (Or.inl ⟨by rfl, ?yb55⟩) hS ?_
          case yb55 =>
            intro w hSw
            go_simp; all_goals (with_reducible rfl)
          simp only [Act.put, List.setIfInBounds_toArray, List.set_cons_zero, List.set_cons_succ]
          refine wpAnyH_take (i := 9) (oi := { dst := some 137, op := Op.binOp BinOp.add 53 (Operand.tmp 135) (Operand.tmp 136) 53, type := 53, pos := "ref.go:149", after := #[{ on := 7, ground := Ground.data }, { on := 8, ground := Ground.data }], guard := none }) (v := ?vb56) rfl (by kernel_rfl) (by kernel_rfl) (by kernel_rfl) (fun _ _ _ h => h) (Or.inl ⟨by rfl, ?yb56⟩) hS ?_
          case yb56 =>
            intro w hSw
            go_simp; all_goals (with_reducible rfl)
          simp only [Act.put, List.setIfInBounds_toArray, List.set_cons_zero, List.set_cons_succ]
          rw [HS1.out]
          refine wpAnyH_take (i := 10) (oi := { dst := some 138, op := Op.move (Operand.tmp 3), type := 62, pos := "ref.go:149", after := #[], guard := none }) (v := ?vb57) rfl (by kernel_rfl) (by kernel_rfl) (by kernel_rfl) (fun _ _ _ h => h) (Or.inl ⟨by rfl, ?yb57⟩) hS ?_
          case yb57 =>
            intro w hSw
            go_simp; all_goals (with_reducible rfl)
          simp only [Act.put, List.setIfInBounds_toArray, List.set_cons_zero, List.set_cons_succ]
          refine wpAnyH_take (i := 11) (oi := { dst := some 139, op := Op.indexAddr 62 (Operand.tmp 138) (Operand.const (Value.int IntKind.i64 2)), type := 0, pos := "ref.go:149", after := #[{ on := 10, ground := Ground.data }], guard := none }) (v := ?vb58) rfl (by kernel_rfl) (by kernel_rfl) (by kernel_rfl) (fun _ _ _ h => h) (Or.inl ⟨by rfl, ?yb58⟩) hS ?_
          case yb58 =>
            intro w hSw
            go_simp; all_goals (with_reducible rfl)
          simp only [Act.put, List.setIfInBounds_toArray, List.set_cons_zero, List.set_cons_succ]
          refine wpAnyH_take (i := 12) (oi := { dst := some 140, op := Op.load 53 (Operand.tmp 139), type := 53, pos := "ref.go:149", after := #[{ on := 11, ground := Ground.data }], guard := none }) (v := ?vb59) rfl (by kernel_rfl) (by kernel_rfl) (by kernel_rfl) (fun _ _ _ h => h) (Or.inl ⟨by rfl, ?yb59⟩) hS ?_
          case yb59 =>
            intro w hSw
            obtain ⟨j0, j1, j2, j3, j4, j5, j6, j7⟩ := hSw
            go_simp; all_goals (with_reducible rfl)
          simp only [Act.put, List.setIfInBounds_toArray, List.set_cons_zero, List.set_cons_succ]
          refine wpAnyH_take (i := 13) (oi := { dst := some 141, op := Op.move (Operand.tmp 10), type := 53, pos := "ref.go:149", after := #[], guard := none }) (v := ?vb60) rfl (by kernel_rfl) (by kernel_rfl) (by kernel_rfl) (fun _ _ _ h => h) (Or.inl ⟨by rfl, ?yb60⟩) hS ?_
          case yb60 =>
            intro w hSw
            go_simp; all_goals (with_reducible rfl)
          simp only [Act.put, List.setIfInBounds_toArray, List.set_cons_zero, List.set_cons_succ]
          refine wpAnyH_take (i := 14) (oi := { dst := some 142, op := Op.binOp BinOp.add 53 (Operand.tmp 140) (Operand.tmp 141) 53, type := 53, pos := "ref.go:149", after := #[{ on := 12, ground := Ground.data }, { on := 13, ground := Ground.data }], guard := none }) (v := ?vb61) rfl (by kernel_rfl) (by kernel_rfl) (by kernel_rfl) (fun _ _ _ h => h) (Or.inl ⟨by rfl, ?yb61⟩) hS ?_
          case yb61 =>
            intro w hSw
            go_simp; all_goals (with_reducible rfl)
          simp only [Act.put, List.setIfInBounds_toArray, List.set_cons_zero, List.set_cons_succ]
          rw [HS2.out]
          refine wpAnyH_take (i := 15) (oi := { dst := some 143, op := Op.move (Operand.tmp 3), type := 62, pos := "ref.go:149", after := #[], guard := none }) (v := ?vb62) rfl (by kernel_rfl) (by kernel_rfl) (by kernel_rfl) (fun _ _ _ h => h) (Or.inl ⟨by rfl, ?yb62⟩) hS ?_
          case yb62 =>
            intro w hSw
            go_simp; all_goals (with_reducible rfl)
          simp only [Act.put, List.setIfInBounds_toArray, List.set_cons_zero, List.set_cons_succ]
          refine wpAnyH_take (i := 16) (oi := { dst := some 144, op := Op.indexAddr 62 (Operand.tmp 143) (Operand.const (Value.int IntKind.i64 3)), type := 0, pos := "ref.go:149", after := #[{ on := 15, ground := Ground.data }], guard := none }) (v := ?vb63) rfl (by kernel_rfl) (by kernel_rfl) (by kernel_rfl) (fun _ _ _ h => h) (Or.inl ⟨by rfl, ?yb63⟩) hS ?_
          case yb63 =>
            intro w hSw
            go_simp; all_goals (with_reducible rfl)
          simp only [Act.put, List.setIfInBounds_toArray, List.set_cons_zero, List.set_cons_succ]
          refine wpAnyH_take (i := 17) (oi := { dst := some 145, op := Op.load 53 (Operand.tmp 144), type := 53, pos := "ref.go:149", after := #[{ on := 16, ground := Ground.data }], guard := none }) (v := ?vb64) rfl (by kernel_rfl) (by kernel_rfl) (by kernel_rfl) (fun _ _ _ h => h) (Or.inl ⟨by rfl, ?yb64⟩) hS ?_
          case yb64 =>
            intro w hSw
            obtain ⟨j0, j1, j2, j3, j4, j5, j6, j7⟩ := hSw
            go_simp; all_goals (with_reducible rfl)
          simp only [Act.put, List.setIfInBounds_toArray, List.set_cons_zero, List.set_cons_succ]
          refine wpAnyH_take (i := 18) (oi := { dst := some 146, op := Op.move (Operand.tmp 11), type := 53, pos := "ref.go:149", after := #[], guard := none }) (v := ?vb65) rfl (by kernel_rfl) (by kernel_rfl) (by kernel_rfl) (fun _ _ _ h => h) (Or.inl ⟨by rfl, ?yb65⟩) hS ?_
          case yb65 =>
            intro w hSw
            go_simp; all_goals (with_reducible rfl)
          simp only [Act.put, List.setIfInBounds_toArray, List.set_cons_zero, List.set_cons_succ]
          refine wpAnyH_take (i := 19) (oi := { dst := some 147, op := Op.binOp BinOp.add 53 (Operand.tmp 145) (Operand.tmp 146) 53, type := 53, pos := "ref.go:149", after := #[{ on := 17, ground := Ground.data }, { on := 18, ground := Ground.data }], guard := none }) (v := ?vb66) rfl (by kernel_rfl) (by kernel_rfl) (by kernel_rfl) (fun _ _ _ h => h) (Or.inl ⟨by rfl, ?yb66⟩) hS ?_
          case yb66 =>
            intro w hSw
            go_simp; all_goals (with_reducible rfl)
          simp only [Act.put, List.setIfInBounds_toArray, List.set_cons_zero, List.set_cons_succ]
          rw [HS3.out]
          refine wpAnyH_take (i := 20) (oi := { dst := some 148, op := Op.move (Operand.tmp 3), type := 62, pos := "ref.go:149", after := #[], guard := none }) (v := ?vb67) rfl (by kernel_rfl) (by kernel_rfl) (by kernel_rfl) (fun _ _ _ h => h) (Or.inl ⟨by rfl, ?yb67⟩) hS ?_
          case yb67 =>
            intro w hSw
            go_simp; all_goals (with_reducible rfl)
          simp only [Act.put, List.setIfInBounds_toArray, List.set_cons_zero, List.set_cons_succ]
          refine wpAnyH_take (i := 21) (oi := { dst := some 149, op := Op.indexAddr 62 (Operand.tmp 148) (Operand.const (Value.int IntKind.i64 4)), type := 0, pos := "ref.go:149", after := #[{ on := 20, ground := Ground.data }], guard := none }) (v := ?vb68) rfl (by kernel_rfl) (by kernel_rfl) (by kernel_rfl) (fun _ _ _ h => h) (Or.inl ⟨by rfl, ?yb68⟩) hS ?_
          case yb68 =>
            intro w hSw
            go_simp; all_goals (with_reducible rfl)
          simp only [Act.put, List.setIfInBounds_toArray, List.set_cons_zero, List.set_cons_succ]
          refine wpAnyH_take (i := 22) (oi := { dst := some 150, op := Op.load 53 (Operand.tmp 149), type := 53, pos := "ref.go:149", after := #[{ on := 21, ground := Ground.data }], guard := none }) (v := ?vb69) rfl (by kernel_rfl) (by kernel_rfl) (by kernel_rfl) (fun _ _ _ h => h) (Or.inl ⟨by rfl, ?yb69⟩) hS ?_
          case yb69 =>
            intro w hSw
            obtain ⟨j0, j1, j2, j3, j4, j5, j6, j7⟩ := hSw
            go_simp; all_goals (with_reducible rfl)
          simp only [Act.put, List.setIfInBounds_toArray, List.set_cons_zero, List.set_cons_succ]
          refine wpAnyH_take (i := 23) (oi := { dst := some 151, op := Op.move (Operand.tmp 12), type := 53, pos := "ref.go:149", after := #[], guard := none }) (v := ?vb70) rfl (by kernel_rfl) (by kernel_rfl) (by kernel_rfl) (fun _ _ _ h => h) (Or.inl ⟨by rfl, ?yb70⟩) hS ?_
          case yb70 =>
            intro w hSw
            go_simp; all_goals (with_reducible rfl)
          simp only [Act.put, List.setIfInBounds_toArray, List.set_cons_zero, List.set_cons_succ]
          refine wpAnyH_take (i := 24) (oi := { dst := some 152, op := Op.binOp BinOp.add 53 (Operand.tmp 150) (Operand.tmp 151) 53, type := 53, pos := "ref.go:149", after := #[{ on := 22, ground := Ground.data }, { on := 23, ground := Ground.data }], guard := none }) (v := ?vb71) rfl (by kernel_rfl) (by kernel_rfl) (by kernel_rfl) (fun _ _ _ h => h) (Or.inl ⟨by rfl, ?yb71⟩) hS ?_
          case yb71 =>
            intro w hSw
            go_simp; all_goals (with_reducible rfl)
          simp only [Act.put, List.setIfInBounds_toArray, List.set_cons_zero, List.set_cons_succ]
          rw [HS4.out]
          refine wpAnyH_take (i := 25) (oi := { dst := some 153, op := Op.move (Operand.tmp 3), type := 62, pos := "ref.go:149", after := #[], guard := none }) (v := ?vb72) rfl (by kernel_rfl) (by kernel_rfl) (by kernel_rfl) (fun _ _ _ h => h) (Or.inl ⟨by rfl, ?yb72⟩) hS ?_
          case yb72 =>
            intro w hSw
            go_simp; all_goals (with_reducible rfl)
          simp only [Act.put, List.setIfInBounds_toArray, List.set_cons_zero, List.set_cons_succ]
          refine wpAnyH_take (i := 26) (oi := { dst := some 154, op := Op.indexAddr 62 (Operand.tmp 153) (Operand.const (Value.int IntKind.i64 5)), type := 0, pos := "ref.go:149", after := #[{ on := 25, ground := Ground.data }], guard := none }) (v := ?vb73) rfl (by kernel_rfl) (by kernel_rfl) (by kernel_rfl) (fun _ _ _ h => h) (Or.inl ⟨by rfl, ?yb73⟩) hS ?_
          case yb73 =>
            intro w hSw
            go_simp; all_goals (with_reducible rfl)
          simp only [Act.put, List.setIfInBounds_toArray, List.set_cons_zero, List.set_cons_succ]
          refine wpAnyH_take (i := 27) (oi := { dst := some 155, op := Op.load 53 (Operand.tmp 154), type := 53, pos := "ref.go:149", after := #[{ on := 26, ground := Ground.data }], guard := none }) (v := ?vb74) rfl (by kernel_rfl) (by kernel_rfl) (by kernel_rfl) (fun _ _ _ h => h) (Or.inl ⟨by rfl, ?yb74⟩) hS ?_
          case yb74 =>
            intro w hSw
            obtain ⟨j0, j1, j2, j3, j4, j5, j6, j7⟩ := hSw
            go_simp; all_goals (with_reducible rfl)
          simp only [Act.put, List.setIfInBounds_toArray, List.set_cons_zero, List.set_cons_succ]
          refine wpAnyH_take (i := 28) (oi := { dst := some 156, op := Op.move (Operand.tmp 13), type := 53, pos := "ref.go:149", after := #[], guard := none }) (v := ?vb75) rfl (by kernel_rfl) (by kernel_rfl) (by kernel_rfl) (fun _ _ _ h => h) (Or.inl ⟨by rfl, ?yb75⟩) hS ?_
          case yb75 =>
            intro w hSw
            go_simp; all_goals (with_reducible rfl)
          simp only [Act.put, List.setIfInBounds_toArray, List.set_cons_zero, List.set_cons_succ]
          refine wpAnyH_take (i := 29) (oi := { dst := some 157, op := Op.binOp BinOp.add 53 (Operand.tmp 155) (Operand.tmp 156) 53, type := 53, pos := "ref.go:149", after := #[{ on := 27, ground := Ground.data }, { on := 28, ground := Ground.data }], guard := none }) (v := ?vb76) rfl (by kernel_rfl) (by kernel_rfl) (by kernel_rfl) (fun _ _ _ h => h) (Or.inl ⟨by rfl, ?yb76⟩) hS ?_
          case yb76 =>
            intro w hSw
            go_simp; all_goals (with_reducible rfl)
          simp only [Act.put, List.setIfInBounds_toArray, List.set_cons_zero, List.set_cons_succ]
          rw [HS5.out]
          refine wpAnyH_take (i := 30) (oi := { dst := some 158, op := Op.move (Operand.tmp 3), type := 62, pos := "ref.go:149", after := #[], guard := none }) (v := ?vb77) rfl (by kernel_rfl) (by kernel_rfl) (by kernel_rfl) (fun _ _ _ h => h) (Or.inl ⟨by rfl, ?yb77⟩) hS ?_
          case yb77 =>
            intro w hSw
            go_simp; all_goals (with_reducible rfl)
          simp only [Act.put, List.setIfInBounds_toArray, List.set_cons_zero, List.set_cons_succ]
          refine wpAnyH_take (i := 31) (oi := { dst := some 159, op := Op.indexAddr 62 (Operand.tmp 158) (Operand.const (Value.int IntKind.i64 6)), type := 0, pos := "ref.go:149", after := #[{ on := 30, ground := Ground.data }], guard := none }) (v := ?vb78) rfl (by kernel_rfl) (by kernel_rfl) (by kernel_rfl) (fun _ _ _ h => h) (Or.inl ⟨by rfl, ?yb78⟩) hS ?_
          case yb78 =>
            intro w hSw
            go_simp; all_goals (with_reducible rfl)
          simp only [Act.put, List.setIfInBounds_toArray, List.set_cons_zero, List.set_cons_succ]
          refine wpAnyH_take (i := 32) (oi := { dst := some 160, op := Op.load 53 (Operand.tmp 159), type := 53, pos := "ref.go:149", after := #[{ on := 31, ground := Ground.data }], guard := none }) (v := ?vb79) rfl (by kernel_rfl) (by kernel_rfl) (by kernel_rfl) (fun _ _ _ h => h) (Or.inl ⟨by rfl, ?yb79⟩) hS ?_
          case yb79 =>
            intro w hSw
            obtain ⟨j0, j1, j2, j3, j4, j5, j6, j7⟩ := hSw
            go_simp; all_goals (with_reducible rfl)
          simp only [Act.put, List.setIfInBounds_toArray, List.set_cons_zero, List.set_cons_succ]
          refine wpAnyH_take (i := 33) (oi := { dst := some 161, op := Op.move (Operand.tmp 14), type := 53, pos := "ref.go:149", after := #[], guard := none }) (v := ?vb80) rfl (by kernel_rfl) (by kernel_rfl) (by kernel_rfl) (fun _ _ _ h => h) (Or.inl ⟨by rfl, ?yb80⟩) hS ?_
          case yb80 =>
            intro w hSw
            go_simp; all_goals (with_reducible rfl)
          simp only [Act.put, List.setIfInBounds_toArray, List.set_cons_zero, List.set_cons_succ]
          refine wpAnyH_take (i := 34) (oi := { dst := some 162, op := Op.binOp BinOp.add 53 (Operand.tmp 160) (Operand.tmp 161) 53, type := 53, pos := "ref.go:149", after := #[{ on := 32, ground := Ground.data }, { on := 33, ground := Ground.data }], guard := none }) (v := ?vb81) rfl (by kernel_rfl) (by kernel_rfl) (by kernel_rfl) (fun _ _ _ h => h) (Or.inl ⟨by rfl, ?yb81⟩) hS ?_
          case yb81 =>
            intro w hSw
            go_simp; all_goals (with_reducible rfl)
          simp only [Act.put, List.setIfInBounds_toArray, List.set_cons_zero, List.set_cons_succ]
          rw [HS6.out]
          refine wpAnyH_take (i := 35) (oi := { dst := some 163, op := Op.move (Operand.tmp 3), type := 62, pos := "ref.go:149", after := #[], guard := none }) (v := ?vb82) rfl (by kernel_rfl) (by kernel_rfl) (by kernel_rfl) (fun _ _ _ h => h) (Or.inl ⟨by rfl, ?yb82⟩) hS ?_
          case yb82 =>
            intro w hSw
            go_simp; all_goals (with_reducible rfl)
          simp only [Act.put, List.setIfInBounds_toArray, List.set_cons_zero, List.set_cons_succ]
          refine wpAnyH_take (i := 36) (oi := { dst := some 164, op := Op.indexAddr 62 (Operand.tmp 163) (Operand.const (Value.int IntKind.i64 7)), type := 0, pos := "ref.go:149", after := #[{ on := 35, ground := Ground.data }], guard := none }) (v := ?vb83) rfl (by kernel_rfl) (by kernel_rfl) (by kernel_rfl) (fun _ _ _ h => h) (Or.inl ⟨by rfl, ?yb83⟩) hS ?_
          case yb83 =>
            intro w hSw
            go_simp; all_goals (with_reducible rfl)
          simp only [Act.put, List.setIfInBounds_toArray, List.set_cons_zero, List.set_cons_succ]
          refine wpAnyH_take (i := 37) (oi := { dst := some 165, op := Op.load 53 (Operand.tmp 164), type := 53, pos := "ref.go:149", after := #[{ on := 36, ground := Ground.data }], guard := none }) (v := ?vb84) rfl (by kernel_rfl) (by kernel_rfl) (by kernel_rfl) (fun _ _ _ h => h) (Or.inl ⟨by rfl, ?yb84⟩) hS ?_
          case yb84 =>
            intro w hSw
            obtain ⟨j0, j1, j2, j3, j4, j5, j6, j7⟩ := hSw
            go_simp; all_goals (with_reducible rfl)
          simp only [Act.put, List.setIfInBounds_toArray, List.set_cons_zero, List.set_cons_succ]
          refine wpAnyH_take (i := 38) (oi := { dst := some 166, op := Op.move (Operand.tmp 15), type := 53, pos := "ref.go:149", after := #[], guard := none }) (v := ?vb85) rfl (by kernel_rfl) (by kernel_rfl) (by kernel_rfl) (fun _ _ _ h => h) (Or.inl ⟨by rfl, ?yb85⟩) hS ?_
          case yb85 =>
            intro w hSw
            go_simp; all_goals (with_reducible rfl)
          simp only [Act.put, List.setIfInBounds_toArray, List.set_cons_zero, List.set_cons_succ]
          refine wpAnyH_take (i := 39) (oi := { dst := some 167, op := Op.binOp BinOp.add 53 (Operand.tmp 165) (Operand.tmp 166) 53, type := 53, pos := "ref.go:149", after := #[{ on := 37, ground := Ground.data }, { on := 38, ground := Ground.data }], guard := none }) (v := ?vb86) rfl (by kernel_rfl) (by kernel_rfl) (by kernel_rfl) (fun _ _ _ h => h) (Or.inl ⟨by rfl, ?yb86⟩) hS ?_
          case yb86 =>
            intro w hSw
            go_simp; all_goals (with_reducible rfl)
          simp only [Act.put, List.setIfInBounds_toArray, List.set_cons_zero, List.set_cons_succ]
          rw [HS7.out]
          refine wpAnyH_ready (rs := [40]) (by kernel_rfl) (by simp) ?_
          refine (AllReadyH.cons (o := { dst := some 168, op := Op.buildSlice 62 8 #[(0, Operand.tmp 132), (1, Operand.tmp 137), (2, Operand.tmp 142), (3, Operand.tmp 147), (4, Operand.tmp 152), (5, Operand.tmp 157), (6, Operand.tmp 162), (7, Operand.tmp 167)], type := 62, pos := "ref.go:149", after := #[{ on := 4, ground := Ground.data }, { on := 9, ground := Ground.data }, { on := 14, ground := Ground.data }, { on := 19, ground := Ground.data }, { on := 24, ground := Ground.data }, { on := 29, ground := Ground.data }, { on := 34, ground := Ground.data }, { on := 39, ground := Ground.data }], guard := none }) rfl (fun K hK => ?_) AllReadyH.nil)
          go_simp
          refine hK.out _ _ HAF.out (fun _ => ?_)
          clear hK K
          refine wpAnyH_take (i := 41) (oi := { dst := some 3, op := Op.assign (Operand.tmp 168), type := 62, pos := "ref.go:149", after := #[{ on := 40, ground := Ground.data }, { on := 0, ground := Ground.phase }, { on := 1, ground := Ground.phase }, { on := 2, ground := Ground.phase }, { on := 3, ground := Ground.phase }, { on := 4, ground := Ground.phase }, { on := 5, ground := Ground.phase }, { on := 6, ground := Ground.phase }, { on := 7, ground := Ground.phase }, { on := 8, ground := Ground.phase }, { on := 9, ground := Ground.phase }, { on := 10, ground := Ground.phase }, { on := 11, ground := Ground.phase }, { on := 12, ground := Ground.phase }, { on := 13, ground := Ground.phase }, { on := 14, ground := Ground.phase }, { on := 15, ground := Ground.phase }, { on := 16, ground := Ground.phase }, { on := 17, ground := Ground.phase }, { on := 18, ground := Ground.phase }, { on := 19, ground := Ground.phase }, { on := 20, ground := Ground.phase }, { on := 21, ground := Ground.phase }, { on := 22, ground := Ground.phase }, { on := 23, ground := Ground.phase }, { on := 24, ground := Ground.phase }, { on := 25, ground := Ground.phase }, { on := 26, ground := Ground.phase }, { on := 27, ground := Ground.phase }, { on := 28, ground := Ground.phase }, { on := 29, ground := Ground.phase }, { on := 30, ground := Ground.phase }, { on := 31, ground := Ground.phase }, { on := 32, ground := Ground.phase }, { on := 33, ground := Ground.phase }, { on := 34, ground := Ground.phase }, { on := 35, ground := Ground.phase }, { on := 36, ground := Ground.phase }, { on := 37, ground := Ground.phase }, { on := 38, ground := Ground.phase }, { on := 39, ground := Ground.phase }, { on := 40, ground := Ground.phase }], guard := none }) (v := ?vb87) rfl (by kernel_rfl) (by kernel_rfl) (by kernel_rfl) (fun _ _ _ h => h) (Or.inl ⟨by rfl, ?yb87⟩) HAF.out ?_
          case yb87 =>
            intro w hSw
            go_simp; all_goals (with_reducible rfl)
          simp only [Act.put, List.setIfInBounds_toArray, List.set_cons_zero, List.set_cons_succ]
          refine wpAnyH_done (by kernel_rfl) ?_ _
          clear y0 y1 y2 y3 y4 y5 y6 y7 hS
          go_wp2_with fail
          go_roundw
          case rel => exact ⟨j + 1, by omega, by rw [HJ.out]; go_num, by rw [HCS.out, HM.out]; exact hown, hbn⟩
          case measure => have := HNN.out; simp [intOf]; omega
    · obtain rfl : j = m := by omega
      have HRC : Hid (∀ i, i < 8 → wr.cell? ⟨gl, i, none⟩ = some (U32 ((comp first8 L j).get i))) := Lib.hid (fun i hi => by
        have h8 : i < (comp first8 L j).agg.toList.length := hi
        rw [HLC.out i h8, ← List.getElem?_eq_getElem h8, Array.getElem?_toList]
        exact R8.agg_at _ i hi)
      obtain ⟨N, hN⟩ : ∃ t, 64 * j = t := ⟨_, rfl⟩
      rw [hN] at hcL ⊢
      clear hN HLC hv
      generalize hR : comp first8 L j = R at *
      clear hR
      generalize wr = w5 at *
      go_wp2_with fail
      go_loopw [19, 20] (fun v i wr => ∃ k : Nat, k ≤ 8 ∧ i = .int .i64 k ∧ Own w5.heap.size wr v (digTo R k) ∧ Below w5.heap.size w5 wr) (fun _ i _ => 8 - (intOf i).toNat)
      case atStart => exact ⟨0, by omega, rfl, Own.nil _ _, Below.refl _ _⟩
      case round =>
        obtain ⟨k, hk, rfl, hown, hbi⟩ := hrel
        by_cases hlt8 : k < 8
        · have kx : wr.drew.cell? ⟨gl, k, none⟩ = some (U32 (R.get k)) := (hbi.cell (p := ⟨gl, k, none⟩) hgl2).trans (HRC.out k hlt8)
          have HDN : Hid (digTo R (k + 1) = digTo R k ++ be4 (R.get k)) := Lib.hid rfl
          have HDL : Hid ((digTo R k).length ≤ 32) := Lib.hid (by rw [digTo_length]; omega)
          generalize R.get k = x at *
          have HB0 : Hid (IntKind.u8.wrap ((x.toNat : Int) / 16777216) = ((UInt8.ofNat (x.toNat / 16777216 % 256)).toNat : Int)) := Lib.hid (word_byte x 16777216)
          have HB1 : Hid (IntKind.u8.wrap ((x.toNat : Int) / 65536) = ((UInt8.ofNat (x.toNat / 65536 % 256)).toNat : Int)) := Lib.hid (word_byte x 65536)
          have HB2 : Hid (IntKind.u8.wrap ((x.toNat : Int) / 256) = ((UInt8.ofNat (x.toNat / 256 % 256)).toNat : Int)) := Lib.hid (word_byte x 256)
          have HB3 := Lib.hid (word_byte1 x)
          have hbe : be4 x = [UInt8.ofNat (x.toNat / 16777216 % 256), UInt8.ofNat (x.toNat / 65536 % 256), UInt8.ofNat (x.toNat / 256 % 256), UInt8.ofNat (x.toNat % 256)] := rfl
          rw [hbe] at HDN
          have HX0 : Hid ((0 : Int) ≤ (x.toNat : Int)) := Lib.hid (by omega)
          have HX1 : Hid ((x.toNat : Int) < 4294967296) := Lib.hid (by have := x.isLt; omega)
          have HQ0 : Hid (IntKind.u32.wrap ((x.toNat : Int) / 16777216) = (x.toNat : Int) / 16777216) := Lib.hid (by have := x.isLt; rw [IntKind.wrap_u32]; omega)
          have HQ1 : Hid (IntKind.u32.wrap ((x.toNat : Int) / 65536) = (x.toNat : Int) / 65536) := Lib.hid (by have := x.isLt; rw [IntKind.wrap_u32]; omega)
          have HQ2 : Hid (IntKind.u32.wrap ((x.toNat : Int) / 256) = (x.toNat : Int) / 256) := Lib.hid (by have := x.isLt; rw [IntKind.wrap_u32]; omega)
          clear hbe
          generalize UInt8.ofNat (x.toNat / 16777216 % 256) = b0 at *
          generalize UInt8.ofNat (x.toNat / 65536 % 256) = b1 at *
          generalize UInt8.ofNat (x.toNat / 256 % 256) = b2 at *
          generalize UInt8.ofNat (x.toNat % 256) = b3 at *
          generalize digTo R k = O at *
          have hal := below_one wr.drew (.cells #[B8 b0, B8 b1, B8 b2, B8 b3] 5)
          have HAF : Hid ((wr.drew.alloc (.cells #[B8 b0, B8 b1, B8 b2, B8 b3] 5)).cell? ⟨gl, k, none⟩ = some (U32 x)) := Lib.hid ((hal.cell (p := ⟨gl, k, none⟩) (Nat.lt_of_lt_of_le hgl2 hbi.size)).trans kx)
          have hown2 : Own w5.heap.size (wr.drew.alloc (.cells #[B8 b0, B8 b1, B8 b2, B8 b3] 5)) u19 O := hown.drew.alloc _
          have HOW := Lib.hid hown2
          have HBY : Hid (Bytes (wr.drew.alloc (.cells #[B8 b0, B8 b1, B8 b2, B8 b3] 5)) (some ⟨wr.heap.size, 0, none⟩) [b0, b1, b2, b3]) := Lib.hid (.inr ⟨_, _, rfl, by simp, fun q hq => by
            show World.cell? _ ⟨wr.drew.heap.size, 0 + q, none⟩ = _
            rw [cell_of_row _ _ _ _ _ _ (heap_alloc_last wr.drew _)]
            match q, hq with | 0, _ | 1, _ | 2, _ | 3, _ => rfl⟩)
          have HFIT : Hid (O.length + [b0, b1, b2, b3].length ≤ 140737488355328) := Lib.hid (by have := HDL.out; simp; omega)
          have hb4 : Below w5.heap.size w5 (wr.drew.alloc (.cells #[B8 b0, B8 b1, B8 b2, B8 b3] 5)) := hbi.drew.alloc hbi.size _
          have HSZ : Hid (w5.heap.size ≤ (wr.drew.alloc (.cells #[B8 b0, B8 b1, B8 b2, B8 b3] 5)).heap.size) := Lib.hid hb4.size
          have HB4 := Lib.hid hb4
          have HKP : Hid (∀ w3, (wr.drew.alloc (.cells #[B8 b0, B8 b1, B8 b2, B8 b3] 5)).grownBy w3 u19.ownBlock → w3.cell? ⟨gl, k, none⟩ = some (U32 x)) := Lib.hid (fun w3 hg =>
            ((below_grown hb4 hg hb4.size (fun g e => (World.ownsRow.lt hown2 g e).1)).cell (p := ⟨gl, k, none⟩) hgl2).trans ((hbi.cell (p := ⟨gl, k, none⟩) hgl2).symm.trans kx))
          have hki : (k : Int) < 8 := by omega
          have hk0 : (0 : Int) ≤ (k : Int) := by omega
          clear hal hb4 hown2
          go_wp2_with fail
          refine wp_region_held_drew (S := fun w' => w'.cell? ⟨gl, k, none⟩ = some (U32 x)) (by kernel_rfl) kx (fun hS => ?_)
          refine wpAnyH_take (i := 0) (oi := { dst := some 173, op := Op.move (Operand.tmp 19), type := 22, pos := "ref.go:153", after := #[], guard := none }) (v := ?vc88) rfl (by kernel_rfl) (by kernel_rfl) (by kernel_rfl) (fun _ _ _ h => h) (Or.inl ⟨by rfl, ?yc88⟩) hS ?_
          case yc88 =>
            intro w hSw
            go_simp; all_goals (with_reducible rfl)
          simp only [Act.put, List.setIfInBounds_toArray, List.set_cons_zero, List.set_cons_succ]
          refine wpAnyH_take (i := 1) (oi := { dst := some 174, op := Op.move (Operand.tmp 3), type := 62, pos := "ref.go:153", after := #[], guard := none }) (v := ?vc89) rfl (by kernel_rfl) (by kernel_rfl) (by kernel_rfl) (fun _ _ _ h => h) (Or.inl ⟨by rfl, ?yc89⟩) hS ?_
          case yc89 =>
            intro w hSw
            go_simp; all_goals (with_reducible rfl)
          simp only [Act.put, List.setIfInBounds_toArray, List.set_cons_zero, List.set_cons_succ]
          refine wpAnyH_take (i := 2) (oi := { dst := some 175, op := Op.move (Operand.tmp 20), type := 3, pos := "ref.go:153", after := #[], guard := none }) (v := ?vc90) rfl (by kernel_rfl) (by kernel_rfl) (by kernel_rfl) (fun _ _ _ h => h) (Or.inl ⟨by rfl, ?yc90⟩) hS ?_
          case yc90 =>
            intro w hSw
            go_simp; all_goals (with_reducible rfl)
          simp only [Act.put, List.setIfInBounds_toArray, List.set_cons_zero, List.set_cons_succ]
          refine wpAnyH_take (i := 3) (oi := { dst := some 176, op := Op.indexAddr 62 (Operand.tmp 174) (Operand.tmp 175), type := 0, pos := "ref.go:153", after := #[{ on := 1, ground := Ground.data }, { on := 2, ground := Ground.data }], guard := none }) (v := ?vc91) rfl (by kernel_rfl) (by kernel_rfl) (by kernel_rfl) (fun _ _ _ h => h) (Or.inl ⟨by rfl, ?yc91⟩) hS ?_
          case yc91 =>
            intro w hSw
            have q0 : (0 : Int) ≤ (k : Int) := by omega
            have q1 : (k : Int) < 8 := by omega
            go_simp; all_goals (with_reducible rfl)
          simp only [Act.put, List.setIfInBounds_toArray, List.set_cons_zero, List.set_cons_succ]
          refine wpAnyH_take (i := 4) (oi := { dst := some 177, op := Op.load 53 (Operand.tmp 176), type := 53, pos := "ref.go:153", after := #[{ on := 3, ground := Ground.data }], guard := none }) (v := ?vc92) rfl (by kernel_rfl) (by kernel_rfl) (by kernel_rfl) (fun _ _ _ h => h) (Or.inl ⟨by rfl, ?yc92⟩) hS ?_
          case yc92 =>
            intro w hSw
            have j0 := hSw
            go_simp; all_goals (with_reducible rfl)
          simp only [Act.put, List.setIfInBounds_toArray, List.set_cons_zero, List.set_cons_succ]
          refine wpAnyH_take (i := 5) (oi := { dst := some 178, op := Op.binOp BinOp.quo 53 (Operand.tmp 177) (Operand.const (Value.int IntKind.u32 16777216)) 53, type := 53, pos := "ref.go:153", after := #[{ on := 4, ground := Ground.data }], guard := none }) (v := ?vc93) rfl (by kernel_rfl) (by kernel_rfl) (by kernel_rfl) (fun _ _ _ h => h) (Or.inl ⟨by rfl, ?yc93⟩) hS ?_
          case yc93 =>
            intro w hSw
            have z0 := HX0.out
            have z1 := HX1.out
            go_simp; all_goals (with_reducible rfl)
          simp only [Act.put, List.setIfInBounds_toArray, List.set_cons_zero, List.set_cons_succ]
          rw [HQ0.out]
          refine wpAnyH_take (i := 6) (oi := { dst := some 179, op := Op.convert 53 5 (Operand.tmp 178), type := 5, pos := "ref.go:153", after := #[{ on := 5, ground := Ground.data }], guard := none }) (v := ?vc94) rfl (by kernel_rfl) (by kernel_rfl) (by kernel_rfl) (fun _ _ _ h => h) (Or.inl ⟨by rfl, ?yc94⟩) hS ?_
          case yc94 =>
            intro w hSw
            go_simp; all_goals (with_reducible rfl)
          simp only [Act.put, List.setIfInBounds_toArray, List.set_cons_zero, List.set_cons_succ]
          rw [HB0.out]
          refine wpAnyH_take (i := 7) (oi := { dst := some 180, op := Op.move (Operand.tmp 3), type := 62, pos := "ref.go:153", after := #[], guard := none }) (v := ?vc95) rfl (by kernel_rfl) (by kernel_rfl) (by kernel_rfl) (fun _ _ _ h => h) (Or.inl ⟨by rfl, ?yc95⟩) hS ?_
          case yc95 =>
            intro w hSw
            go_simp; all_goals (with_reducible rfl)
          simp only [Act.put, List.setIfInBounds_toArray, List.set_cons_zero, List.set_cons_succ]
          refine wpAnyH_take (i := 8) (oi := { dst := some 181, op := Op.move (Operand.tmp 20), type := 3, pos := "ref.go:153", after := #[], guard := none }) (v := ?vc96) rfl (by kernel_rfl) (by kernel_rfl) (by kernel_rfl) (fun _ _ _ h => h) (Or.inl ⟨by rfl, ?yc96⟩) hS ?_
          case yc96 =>
            intro w hSw
            go_simp; all_goals (with_reducible rfl)
          simp only [Act.put, List.setIfInBounds_toArray, List.set_cons_zero, List.set_cons_succ]
          refine wpAnyH_take (i := 9) (oi := { dst := some 182, op := Op.indexAddr 62 (Operand.tmp 180) (Operand.tmp 181), type := 0, pos := "ref.go:153", after := #[{ on := 7, ground := Ground.data }, { on := 8, ground := Ground.data }], guard := none }) (v := ?vc97) rfl (by kernel_rfl) (by kernel_rfl) (by kernel_rfl) (fun _ _ _ h => h) (Or.inl ⟨by rfl, ?yc97⟩) hS ?_
          case yc97 =>
            intro w hSw
            have q0 : (0 : Int) ≤ (k : Int) := by omega
            have q1 : (k : Int) < 8 := by omega
            go_simp; all_goals (with_reducible rfl)
          simp only [Act.put, List.setIfInBounds_toArray, List.set_cons_zero, List.set_cons_succ]
          refine wpAnyH_take (i := 10) (oi := { dst := some 183, op := Op.load 53 (Operand.tmp 182), type := 53, pos := "ref.go:153", after := #[{ on := 9, ground := Ground.data }], guard := none }) (v := ?vc98) rfl (by kernel_rfl) (by kernel_rfl) (by kernel_rfl) (fun _ _ _ h => h) (Or.inl ⟨by rfl, ?yc98⟩) hS ?_
          case yc98 =>
            intro w hSw
            have j0 := hSw
            go_simp; all_goals (with_reducible rfl)
          simp only [Act.put, List.setIfInBounds_toArray, List.set_cons_zero, List.set_cons_succ]
          refine wpAnyH_take (i := 11) (oi := { dst := some 184, op := Op.binOp BinOp.quo 53 (Operand.tmp 183) (Operand.const (Value.int IntKind.u32 65536)) 53, type := 53, pos := "ref.go:153", after := #[{ on := 10, ground := Ground.data }], guard := none }) (v := ?vc99) rfl (by kernel_rfl) (by kernel_rfl) (by kernel_rfl) (fun _ _ _ h => h) (Or.inl ⟨by rfl, ?yc99⟩) hS ?_
          case yc99 =>
            intro w hSw
            have z0 := HX0.out
            have z1 := HX1.out
            go_simp; all_goals (with_reducible rfl)
          simp only [Act.put, List.setIfInBounds_toArray, List.set_cons_zero, List.set_cons_succ]
          rw [HQ1.out]
          refine wpAnyH_take (i := 12) (oi := { dst := some 185, op := Op.convert 53 5 (Operand.tmp 184), type := 5, pos := "ref.go:153", after := #[{ on := 11, ground := Ground.data }], guard := none }) (v := ?vc100) rfl (by kernel_rfl) (by kernel_rfl) (by kernel_rfl) (fun _ _ _ h => h) (Or.inl ⟨by rfl, ?yc100⟩) hS ?_
          case yc100 =>
            intro w hSw
            go_simp; all_goals (with_reducible rfl)
          simp only [Act.put, List.setIfInBounds_toArray, List.set_cons_zero, List.set_cons_succ]
          rw [HB1.out]
          refine wpAnyH_take (i := 13) (oi := { dst := some 186, op := Op.move (Operand.tmp 3), type := 62, pos := "ref.go:153", after := #[], guard := none }) (v := ?vc101) rfl (by kernel_rfl) (by kernel_rfl) (by kernel_rfl) (fun _ _ _ h => h) (Or.inl ⟨by rfl, ?yc101⟩) hS ?_
          case yc101 =>
            intro w hSw
            go_simp; all_goals (with_reducible rfl)
          simp only [Act.put, List.setIfInBounds_toArray, List.set_cons_zero, List.set_cons_succ]
          refine wpAnyH_take (i := 14) (oi := { dst := some 187, op := Op.move (Operand.tmp 20), type := 3, pos := "ref.go:153", after := #[], guard := none }) (v := ?vc102) rfl (by kernel_rfl) (by kernel_rfl) (by kernel_rfl) (fun _ _ _ h => h) (Or.inl ⟨by rfl, ?yc102⟩) hS ?_
          case yc102 =>
            intro w hSw
            go_simp; all_goals (with_reducible rfl)
          simp only [Act.put, List.setIfInBounds_toArray, List.set_cons_zero, List.set_cons_succ]
          refine wpAnyH_take (i := 15) (oi := { dst := some 188, op := Op.indexAddr 62 (Operand.tmp 186) (Operand.tmp 187), type := 0, pos := "ref.go:153", after := #[{ on := 13, ground := Ground.data }, { on := 14, ground := Ground.data }], guard := none }) (v := ?vc103) rfl (by kernel_rfl) (by kernel_rfl) (by kernel_rfl) (fun _ _ _ h => h) (Or.inl ⟨by rfl, ?yc103⟩) hS ?_
          case yc103 =>
            intro w hSw
            have q0 : (0 : Int) ≤ (k : Int) := by omega
            have q1 : (k : Int) < 8 := by omega
            go_simp; all_goals (with_reducible rfl)
          simp only [Act.put, List.setIfInBounds_toArray, List.set_cons_zero, List.set_cons_succ]
          refine wpAnyH_take (i := 16) (oi := { dst := some 189, op := Op.load 53 (Operand.tmp 188), type := 53, pos := "ref.go:153", after := #[{ on := 15, ground := Ground.data }], guard := none }) (v := ?vc104) rfl (by kernel_rfl) (by kernel_rfl) (by kernel_rfl) (fun _ _ _ h => h) (Or.inl ⟨by rfl, ?yc104⟩) hS ?_
          case yc104 =>
            intro w hSw
            have j0 := hSw
            go_simp; all_goals (with_reducible rfl)
          simp only [Act.put, List.setIfInBounds_toArray, List.set_cons_zero, List.set_cons_succ]
          refine wpAnyH_take (i := 17) (oi := { dst := some 190, op := Op.binOp BinOp.quo 53 (Operand.tmp 189) (Operand.const (Value.int IntKind.u32 256)) 53, type := 53, pos := "ref.go:153", after := #[{ on := 16, ground := Ground.data }], guard := none }) (v := ?vc105) rfl (by kernel_rfl) (by kernel_rfl) (by kernel_rfl) (fun _ _ _ h => h) (Or.inl ⟨by rfl, ?yc105⟩) hS ?_
          case yc105 =>
            intro w hSw
            have z0 := HX0.out
            have z1 := HX1.out
            go_simp; all_goals (with_reducible rfl)
          simp only [Act.put, List.setIfInBounds_toArray, List.set_cons_zero, List.set_cons_succ]
          rw [HQ2.out]
          refine wpAnyH_take (i := 18) (oi := { dst := some 191, op := Op.convert 53 5 (Operand.tmp 190), type := 5, pos := "ref.go:153", after := #[{ on := 17, ground := Ground.data }], guard := none }) (v := ?vc106) rfl (by kernel_rfl) (by kernel_rfl) (by kernel_rfl) (fun _ _ _ h => h) (Or.inl ⟨by rfl, ?yc106⟩) hS ?_
          case yc106 =>
            intro w hSw
            go_simp; all_goals (with_reducible rfl)
          simp only [Act.put, List.setIfInBounds_toArray, List.set_cons_zero, List.set_cons_succ]
          rw [HB2.out]
          refine wpAnyH_take (i := 19) (oi := { dst := some 192, op := Op.move (Operand.tmp 3), type := 62, pos := "ref.go:153", after := #[], guard := none }) (v := ?vc107) rfl (by kernel_rfl) (by kernel_rfl) (by kernel_rfl) (fun _ _ _ h => h) (Or.inl ⟨by rfl, ?yc107⟩) hS ?_
          case yc107 =>
            intro w hSw
            go_simp; all_goals (with_reducible rfl)
          simp only [Act.put, List.setIfInBounds_toArray, List.set_cons_zero, List.set_cons_succ]
          refine wpAnyH_take (i := 20) (oi := { dst := some 193, op := Op.move (Operand.tmp 20), type := 3, pos := "ref.go:153", after := #[], guard := none }) (v := ?vc108) rfl (by kernel_rfl) (by kernel_rfl) (by kernel_rfl) (fun _ _ _ h => h) (Or.inl ⟨by rfl, ?yc108⟩) hS ?_
          case yc108 =>
            intro w hSw
            go_simp; all_goals (with_reducible rfl)
          simp only [Act.put, List.setIfInBounds_toArray, List.set_cons_zero, List.set_cons_succ]
          refine wpAnyH_take (i := 21) (oi := { dst := some 194, op := Op.indexAddr 62 (Operand.tmp 192) (Operand.tmp 193), type := 0, pos := "ref.go:153", after := #[{ on := 19, ground := Ground.data }, { on := 20, ground := Ground.data }], guard := none }) (v := ?vc109) rfl (by kernel_rfl) (by kernel_rfl) (by kernel_rfl) (fun _ _ _ h => h) (Or.inl ⟨by rfl, ?yc109⟩) hS ?_
          case yc109 =>
            intro w hSw
            have q0 : (0 : Int) ≤ (k : Int) := by omega
            have q1 : (k : Int) < 8 := by omega
            go_simp; all_goals (with_reducible rfl)
          simp only [Act.put, List.setIfInBounds_toArray, List.set_cons_zero, List.set_cons_succ]
          refine wpAnyH_take (i := 22) (oi := { dst := some 195, op := Op.load 53 (Operand.tmp 194), type := 53, pos := "ref.go:153", after := #[{ on := 21, ground := Ground.data }], guard := none }) (v := ?vc110) rfl (by kernel_rfl) (by kernel_rfl) (by kernel_rfl) (fun _ _ _ h => h) (Or.inl ⟨by rfl, ?yc110⟩) hS ?_
          case yc110 =>
            intro w hSw
            have j0 := hSw
            go_simp; all_goals (with_reducible rfl)
          simp only [Act.put, List.setIfInBounds_toArray, List.set_cons_zero, List.set_cons_succ]
          refine wpAnyH_take (i := 23) (oi := { dst := some 196, op := Op.convert 53 5 (Operand.tmp 195), type := 5, pos := "ref.go:153", after := #[{ on := 22, ground := Ground.data }], guard := none }) (v := ?vc111) rfl (by kernel_rfl) (by kernel_rfl) (by kernel_rfl) (fun _ _ _ h => h) (Or.inl ⟨by rfl, ?yc111⟩) hS ?_
          case yc111 =>
            intro w hSw
            go_simp; all_goals (with_reducible rfl)
          simp only [Act.put, List.setIfInBounds_toArray, List.set_cons_zero, List.set_cons_succ]
          rw [HB3.out]
          refine wpAnyH_ready (rs := [24]) (by kernel_rfl) (by simp) ?_
          refine (AllReadyH.cons (o := { dst := some 197, op := Op.buildSlice 22 4 #[(0, Operand.tmp 179), (1, Operand.tmp 185), (2, Operand.tmp 191), (3, Operand.tmp 196)], type := 22, pos := "ref.go:153", after := #[{ on := 6, ground := Ground.data }, { on := 12, ground := Ground.data }, { on := 18, ground := Ground.data }, { on := 23, ground := Ground.data }], guard := none }) rfl (fun K hK => ?_) AllReadyH.nil)
          go_simp
          refine hK.out _ _ HAF.out (fun _ => ?_)
          clear hK K
          refine wpAnyH_ready (rs := [25]) (by kernel_rfl) (by simp) ?_
          refine (AllReadyH.cons (o := { dst := some 198, op := Op.call { callee := Callee.builtin Builtin.append, args := #[Operand.tmp 173, Operand.tmp 197], argTypes := #[22, 22] }, type := 22, pos := "ref.go:153", after := #[{ on := 0, ground := Ground.data }, { on := 24, ground := Ground.data }], guard := none }) rfl (fun K hK => ?_) AllReadyH.nil)
          refine step_append_bytes rfl (.tmp 173) (.tmp 197) rfl w5.heap.size (wr.drew.alloc (.cells #[B8 b0, B8 b1, B8 b2, B8 b3] 5)) u19 O rfl HOW.out _ [b0, b1, b2, b3] 4 rfl HBY.out HFIT.out HSZ.out ?_
          intro v2 w3 hown3 hg3
          simp only [Act.put, List.setIfInBounds_toArray, List.set_cons_zero, List.set_cons_succ]
          refine hK.out _ _ (HKP.out w3 hg3) (fun _ => ?_)
          clear hK K
          refine wpAnyH_take (i := 26) (oi := { dst := some 19, op := Op.assign (Operand.tmp 198), type := 22, pos := "ref.go:153", after := #[{ on := 25, ground := Ground.data }, { on := 25, ground := Ground.chain }, { on := 0, ground := Ground.phase }, { on := 1, ground := Ground.phase }, { on := 2, ground := Ground.phase }, { on := 3, ground := Ground.phase }, { on := 4, ground := Ground.phase }, { on := 5, ground := Ground.phase }, { on := 6, ground := Ground.phase }, { on := 7, ground := Ground.phase }, { on := 8, ground := Ground.phase }, { on := 9, ground := Ground.phase }, { on := 10, ground := Ground.phase }, { on := 11, ground := Ground.phase }, { on := 12, ground := Ground.phase }, { on := 13, ground := Ground.phase }, { on := 14, ground := Ground.phase }, { on := 15, ground := Ground.phase }, { on := 16, ground := Ground.phase }, { on := 17, ground := Ground.phase }, { on := 18, ground := Ground.phase }, { on := 19, ground := Ground.phase }, { on := 20, ground := Ground.phase }, { on := 21, ground := Ground.phase }, { on := 22, ground := Ground.phase }, { on := 23, ground := Ground.phase }, { on := 24, ground := Ground.phase }, { on := 25, ground := Ground.phase }], guard := none }) (v := ?vc112) rfl (by kernel_rfl) (by kernel_rfl) (by kernel_rfl) (fun _ _ _ h => h) (Or.inl ⟨by rfl, ?yc112⟩) (HKP.out w3 hg3) ?_
          case yc112 =>
            intro w hSw
            go_simp; all_goals (with_reducible rfl)
          simp only [Act.put, List.setIfInBounds_toArray, List.set_cons_zero, List.set_cons_succ]
          refine wpAnyH_done (by kernel_rfl) ?_ _
          go_wp2_with fail
          have hb5 := below_grown HB4.out hg3 HSZ.out (fun g e => (World.ownsRow.lt HOW.out g e).1)
          go_roundw
          case rel => exact ⟨k + 1, by omega, by go_num, by rw [HDN.out]; exact hown3, hb5⟩
          case measure => simp [intOf]; omega
        · obtain rfl : k = 8 := by omega
          rw [← HDG.out] at hown
          obtain ⟨Aw, cw, rfl, hcw, hmw, hBw⟩ := hown.read
          go_wp2_with fail
          go_ret
          exact ⟨Aw, cw, rfl, hcw, hmw, hBw, hb12.trans ((hb.trans (hbi.mono hb.size)).mono hb12.size)⟩
end Go.Proofs.YtibkhajhmncgkaaDoor
