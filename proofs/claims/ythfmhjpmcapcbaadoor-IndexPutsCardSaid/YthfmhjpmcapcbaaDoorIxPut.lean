/- index.Put. -/
import Derived.Test.YthfmhjpmcapcbaaDoorIxNum
import Derived.Test.YthfmhjpmcapcbaaDoorIxAs
import Derived.Test.YthfmhjpmcapcbaaDoorZeros
namespace Go.Proofs.YthfmhjpmcapcbaaDoor
open Go.RowKit

theorem step_append_bytes {ops : Array Oper} {o : Oper} {a : Act} {K : Act → World → Prop} {Q : Exit → Act → World → Prop} (hgd : o.guard = none) (s x : Operand)
    (ho : o.op = .call { callee := .builtin .append, args := #[s, x], argTypes := #[23, 23] })
    (base : Nat) (w : World) (v : Value) (xs : List UInt8) (hs : a.eval s = v) (hown : Own base w v xs) (A : Option Addr) (l : List UInt8) (c : Nat) (hx : a.eval x = .slice A l.length c) (hB : Bytes w A l)
    (hsz : xs.length + l.length ≤ 140737488355328) (hbase : base ≤ w.heap.size)
    (h : ∀ v' w', Own base w' v' (xs ++ l) → w.grownBy w' v.ownBlock → K (a.put o.dst v') w') : if Region.wanted o (yielded ops a.tmps) = true then Oper.wp Tryd.prog o a w K Q else K (a.put o.dst undef) w := by
  rw [if_pos (by simp [Region.wanted, hgd])]
  obtain ⟨v', w', hr, h2, h3⟩ := run_append_bytes base o.type w v xs hown A l c hB hsz hbase
  unfold Oper.wp execOp
  simp only [ho, resolve, invoke, builtin, Sem.run_bind, Sem.run_pure, Result.andThen_ok, List.map_toArray, List.map_cons, List.map_nil, hs, hx, hr]
  exact h v' w' h2 h3
def recB (l : List (Int × Int)) : List UInt8 := l.flatMap fun r => Vl.put 9 r.1.toNat ++ Vl.put 9 r.2.toNat
theorem recB_snoc (l : List (Int × Int)) (r : Int × Int) : recB (l ++ [r]) = recB l ++ Vl.put 9 r.1.toNat ++ Vl.put 9 r.2.toNat := by simp [recB]
theorem recB_length (l : List (Int × Int)) : (recB l).length ≤ 20 * l.length := by
  induction l with
  | nil => simp [recB]
  | cons r l ih =>
    have h1 := (Vl.put_length 9 r.1.toNat).2
    have h2 := (Vl.put_length 9 r.2.toNat).2
    simp only [recB, List.flatMap_cons, List.length_append, List.length_cons] at ih ⊢
    omega
def headB (n : Nat) : List UInt8 := 0 :: Vl.put 9 n
theorem headB_length (n : Nat) : 0 < (headB n).length ∧ (headB n).length ≤ 11 := by
  have := (Vl.put_length 9 n).2
  simp [headB]; omega
def bodyB (l : List (Int × Int)) : List UInt8 := headB l.length ++ recB l
def padB (b : List UInt8) : List UInt8 := b ++ List.replicate (zerosN b.length) 0
def putR (l : List (Int × Int)) : List UInt8 := padB (bodyB l) ++ sum1 (padB (bodyB l))
def fitsR (r : Int × Int) : Bool := fitsU r.1 && decide (0 ≤ r.2)
def I64R (r : Int × Int) : Prop := -9223372036854775808 ≤ r.1 ∧ r.1 ≤ 9223372036854775807 ∧ -9223372036854775808 ≤ r.2 ∧ r.2 ≤ 9223372036854775807
/-- What index.Put hands back. -/
def IxPutDone (w : World) (l : List (Int × Int)) (e : Ending) (w' : World) : Prop :=
  (l.all fitsR = true ∧ ∃ v, e = .returned (.tuple #[v, .int .i64 0]) ∧ Own w.heap.size w' v (putR l) ∧ Below w.heap.size w w') ∨
  (l.all fitsR = false ∧ e = .returned (.tuple #[.slice none 0 0, .int .i64 1]) ∧ Below w.heap.size w w')
theorem all_bad (l : List (Int × Int)) (j : Nat) (h : j < l.length) (hb : fitsR l[j] = false) : l.all fitsR = false := by
  rw [List.all_eq_false]
  exact ⟨l[j], List.getElem_mem h, by rw [hb]; simp⟩

set_option maxRecDepth 100000 in
set_option maxHeartbeats 4000000 in
theorem ixput_any (A : Option Addr) (l : List (Int × Int)) (c : Nat) (w : World) (hB : Recs w A l) (hr : ∀ r ∈ l, I64R r) (hl : l.length ≤ 100000) :
    Calls Tryd.prog 6 #[.slice A l.length c] w (IxPutDone w l) := by
  have hli : (l.length : Int) ≤ 100000 := by omega
  have hW0 : Below w.heap.size w ((w.alloc (.cells #[.int .u8 0] 5)).alloc (.cells #[.slice (some ⟨w.heap.size, 0, none⟩) 1 1] 23)) := ((Below.refl _ _).alloc (Nat.le_refl _) _).alloc (by simp) _
  have hX0 : Box (w.heap.size + 1) ((w.alloc (.cells #[.int .u8 0] 5)).alloc (.cells #[.slice (some ⟨w.heap.size, 0, none⟩) 1 1] 23)) (.slice (some ⟨w.heap.size, 0, none⟩) 1 1) := by
    have h := heap_alloc_last (w.alloc (.cells #[.int .u8 0] 5)) (.cells #[.slice (some ⟨w.heap.size, 0, none⟩) 1 1] 23)
    rw [World.size_alloc] at h
    exact h
  have hO0 : Own w.heap.size ((w.alloc (.cells #[.int .u8 0] 5)).alloc (.cells #[.slice (some ⟨w.heap.size, 0, none⟩) 1 1] 23)) (.slice (some ⟨w.heap.size, 0, none⟩) 1 1) [0] := (Own.lit w [0] (Nat.le_refl _) (by simp)).alloc _
  have H0 := Lib.hid (num_any (w.heap.size + 1) w.heap.size _ [0] l.length _ hX0 hO0 (by omega) (by omega) (by simp))
  have HW0 := Lib.hid hW0
  clear hX0 hO0 hW0
  go_enter Tryd.func6, Tryd.ntmps6
  go_wp2_with fail
  refine H0.out.mono ?_
  rintro e w1 ⟨v1, rfl, hx1, ho1, hb1, _⟩
  have HB1 : Hid (Below w.heap.size w w1) := Lib.hid (HW0.out.trans hb1)
  have ho1' : Own w.heap.size w1 v1 (headB l.length) := ho1
  clear H0 hb1 ho1
  go_wp2_with fail
  go_loopw [17] (fun i wr => ∃ (j : Nat) (v : Value), j ≤ l.length ∧ i = .int .i64 (j : Nat) ∧ Hid ((l.take j).all fitsR = true) ∧ Hid (Box (w.heap.size + 1) wr v) ∧ Hid (Own w.heap.size wr v (headB l.length ++ recB (l.take j))) ∧ Hid (Below w.heap.size w wr)) (fun i _ => l.length - (intOf i).toNat)
  case atStart => exact ⟨0, v1, by omega, rfl, rfl, Lib.hid hx1, Lib.hid (by simpa [recB] using ho1'), HB1⟩
  case round =>
    obtain ⟨j, v, hj, rfl, hall, HBX, HOW, HBR⟩ := hrel
    by_cases hjl : j < l.length
    · have hji : (j : Int) < (l.length : Int) := by omega
      obtain ⟨b, off, rfl, hb, hcl⟩ := hB.addr (by omega)
      have hcj := hcl j hjl
      have hnx : l.take (j + 1) = l.take j ++ [l[j]] := by rw [List.take_succ_eq_append_getElem hjl]
      have hrj := hr l[j] (List.getElem_mem hjl)
      have HBAD := Lib.hid (fun h => all_bad l j hjl h)
      generalize l[j] = r at *
      obtain ⟨n1, n2⟩ := r
      obtain ⟨r1, r2, r3, r4⟩ : -9223372036854775808 ≤ n1 ∧ n1 ≤ 9223372036854775807 ∧ -9223372036854775808 ≤ n2 ∧ n2 ≤ 9223372036854775807 := hrj
      have k1 : wr.cell? ⟨b, off + j * 2, none⟩ = some (.int .i64 n1) := (HBR.out.cell (p := ⟨b, off + j * 2, none⟩) hb).trans hcj.1
      have k2 : wr.cell? ⟨b, off + j * 2 + 1, none⟩ = some (.int .i64 n2) := (HBR.out.cell (p := ⟨b, off + j * 2 + 1, none⟩) hb).trans hcj.2
      have HU := Lib.hid (fun w' => ix_unpadded n1 w' r1 r2)
      have hwz := HBR.out.size
      have hbA : Below w.heap.size w (wr.alloc (.cells #[.int .i64 n1, .int .i64 n2] 44)) := HBR.out.alloc hwz _
      have hxA : Box (w.heap.size + 1) (wr.alloc (.cells #[.int .i64 n1, .int .i64 n2] 44)) v := HBX.out.below ((Below.refl _ _).alloc (Nat.le_refl _) _)
      have hoA : Own w.heap.size (wr.alloc (.cells #[.int .i64 n1, .int .i64 n2] 44)) v (headB l.length ++ recB (l.take j)) := HOW.out.alloc _
      have hA1 : wr.heap.size < (wr.alloc (.cells #[.int .i64 n1, .int .i64 n2] 44)).heap.size := by simp
      have hq0 : (wr.alloc (.cells #[.int .i64 n1, .int .i64 n2] 44)).cell? ⟨wr.heap.size, 0, none⟩ = some (.int .i64 n1) := by simp
      have hq1 : (wr.alloc (.cells #[.int .i64 n1, .int .i64 n2] 44)).cell? ⟨wr.heap.size, 1, none⟩ = some (.int .i64 n2) := by simp
      have HA := Lib.hid (And.intro hbA (And.intro hxA (And.intro hoA (And.intro hq0 hq1))))
      clear hcl hcj hbA hxA hoA hq0 hq1 hA1
      by_cases h5 : fitsU n1 = true
      case neg =>
        have h5f : fitsU n1 = false := by simpa using h5
        rw [h5f] at HU
        have hbad : l.all fitsR = false := HBAD.out (by simp [fitsR, h5f])
        clear h5 h5f hnx
        go_wp2_with fail
        refine (HU.out _).mono ?_
        rintro e _ ⟨rfl, rfl⟩
        go_wp2_with fail
        go_ret2
        exact .inr ⟨hbad, rfl, HA.out.1⟩
      by_cases h6 : 0 ≤ n2
      case neg =>
        have hbad : l.all fitsR = false := HBAD.out (by simp [fitsR]; intro _; omega)
        have h6n : n2 < 0 := by omega
        rw [h5] at HU
        clear h5 h6 hnx
        go_wp2_with fail
        refine (HU.out _).mono ?_
        rintro e _ ⟨rfl, rfl⟩
        go_wp2_with fail
        go_ret2
        exact .inr ⟨hbad, rfl, HA.out.1⟩
      have h1 : 5 ≤ n1 := by
        by_cases h : 5 ≤ n1
        · exact h
        · simp [fitsU, h] at h5
      obtain ⟨m1, rfl⟩ := Int.eq_ofNat_of_zero_le (show 0 ≤ n1 by omega)
      obtain ⟨m2, rfl⟩ := Int.eq_ofNat_of_zero_le h6
      have hfr : fitsR ((m1 : Int), (m2 : Int)) = true := by simp [fitsR, h5]
      rw [h5] at HU
      have hLe := (headB_length l.length).2
      have hRe := recB_length (l.take j)
      have htk : (l.take j).length ≤ j := by simp; omega
      have HN1 := Lib.hid (num_any (w.heap.size + 1) w.heap.size v (headB l.length ++ recB (l.take j)) m1 _ HA.out.2.1 HA.out.2.2.1 (by omega) (by omega) (by simp only [List.length_append]; omega))
      have HN2 := Lib.hid (fun (v' : Value) (w' : World) (hx : Box (w.heap.size + 1) w' v') (ho : Own w.heap.size w' v' (headB l.length ++ recB (l.take j) ++ Vl.put 9 m1)) => num_any (w.heap.size + 1) w.heap.size v' _ m2 w' hx ho (by omega) (by omega) (by
        have := (Vl.put_length 9 m1).2
        simp only [List.length_append]; omega))
      clear hLe hRe htk h5 h6 h1
      go_wp2_with fail
      refine (HU.out _).mono ?_
      rintro e _ ⟨rfl, rfl⟩
      go_wp2_with fail
      refine HN1.out.mono ?_
      rintro e w2 ⟨v2, rfl, hx2, ho2, hb2, hk2⟩
      have hblk : w2.heap[wr.heap.size]? = (wr.alloc (.cells #[.int .i64 (m1 : Int), .int .i64 (m2 : Int)] 44)).heap[wr.heap.size]? := hk2 wr.heap.size (by simp) (fun e => by have := HBX.out.lt; omega) (fun e => by have := (HOW.out.from_base _ e).2; omega)
      have hq0 : w2.cell? ⟨wr.heap.size, 0, none⟩ = some (.int .i64 (m1 : Int)) := (World.cell?_of_block (a := ⟨wr.heap.size, 0, none⟩) hblk).trans HA.out.2.2.2.1
      have hq1 : w2.cell? ⟨wr.heap.size, 1, none⟩ = some (.int .i64 (m2 : Int)) := (World.cell?_of_block (a := ⟨wr.heap.size, 1, none⟩) hblk).trans HA.out.2.2.2.2
      have HN2' := Lib.hid (HN2.out v2 w2 hx2 ho2)
      have HB2 := Lib.hid (HA.out.1.trans hb2)
      clear hblk hb2 hk2 hx2 ho2
      go_wp2_with fail
      refine HN2'.out.mono ?_
      rintro e w3 ⟨v3, rfl, hx3, ho3, hb3, _⟩
      have hall3 : (l.take (j + 1)).all fitsR = true := by rw [hnx, List.all_append, hall.out]; simp [hfr]
      have ho3' : Own w.heap.size w3 v3 (headB l.length ++ recB (l.take (j + 1))) := by
        rw [hnx, recB_snoc]
        simp only [← List.append_assoc] at ho3 ⊢
        exact ho3
      go_wp2_with fail
      exact ⟨⟨j + 1, v3, by omega, by go_num, Lib.hid hall3, Lib.hid hx3, Lib.hid ho3', Lib.hid (HB2.out.trans hb3)⟩, by simp [intOf]; omega⟩
    · obtain rfl : j = l.length := by omega
      rw [List.take_length] at hall HOW
      have hfin : Hid (bodyB l = headB l.length ++ recB l) := Lib.hid rfl
      rw [← hfin.out] at HOW
      have HR := Lib.hid (show putR l = padB (bodyB l) ++ sum1 (padB (bodyB l)) from rfl)
      have HPD := Lib.hid (show padB (bodyB l) = bodyB l ++ List.replicate (zerosN (bodyB l).length) 0 from rfl)
      have hlen : 0 < (bodyB l).length ∧ (bodyB l).length ≤ 2000100 := by
        have h1 := headB_length l.length
        have h2 := recB_length l
        simp only [bodyB, List.length_append]
        omega
      have HZ := Lib.hid (fun w' => ix_zeros (bodyB l).length w' (by omega))
      have hz4 : zerosN (bodyB l).length < 4 := by unfold zerosN; omega
      generalize zerosN (bodyB l).length = Z at *
      generalize hBD : bodyB l = BD at *
      generalize hPD : padB BD = PD at *
      have HPDL : Hid (PD.length = BD.length + Z) := Lib.hid (by rw [HPD.out]; simp)
      obtain ⟨TP, hTP⟩ : ∃ TP : Nat, BD.length + Z = TP := ⟨_, rfl⟩
      have HPL : Hid (BD.length + Z = TP) := Lib.hid hTP
      have HTL : Hid ((BD ++ List.replicate Z (0 : UInt8)).length = TP) := Lib.hid (by rw [List.length_append, List.length_replicate]; exact hTP)
      have hTPb : TP ≤ 2000110 := by omega
      obtain ⟨A1, c1, rfl, hc1, hm1, _⟩ := HOW.out.read
      have HBX0 : Hid (Box (w.heap.size + 1) wr.drew (.slice A1 BD.length c1)) := Lib.hid HBX.out
      have hcw := HBX.out.cell
      have HB0 := Lib.hid hlen.1
      have HZ3 : Hid (Z ≤ 1000000) := Lib.hid (by omega)
      have HSZ : Hid (BD.length + Z ≤ 140737488355328) := Lib.hid (by omega)
      have HZS : Hid (w.heap.size ≤ wr.drew.heap.size) := Lib.hid HBR.out.size
      have hdr : Below w.heap.size w wr.drew := HBR.out.trans ((below_drew wr).mono HBR.out.size)
      clear hfin hlen hz4
      go_wp2_with fail
      refine wp_region_held_drew (S := fun w' => Below w.heap.size w w') (by kernel_rfl) hdr (fun hS => ?_)
      refine wpAnyH_ready (rs := [0, 1]) (by kernel_rfl) (by simp) ?_
      refine (AllReadyH.cons (o := { dst := some 41, op := Op.load 23 (Operand.tmp 4), type := 23, pos := "index.go:37", after := #[], guard := none }) rfl (fun K hK => ?_) (AllReadyH.cons (o := { dst := some 42, op := Op.load 23 (Operand.tmp 4), type := 23, pos := "index.go:37", after := #[], guard := none }) rfl (fun K hK => ?_) AllReadyH.nil))
      · skip
        go_simp
        refine hK.out _ _ hdr (fun _ => ?_)
        clear hK K
        refine wpAnyH_ready (rs := [1]) (by kernel_rfl) (by simp) ?_
        refine (AllReadyH.cons (o := { dst := some 42, op := Op.load 23 (Operand.tmp 4), type := 23, pos := "index.go:37", after := #[], guard := none }) rfl (fun K hK => ?_) AllReadyH.nil)
        go_simp
        refine hK.out _ _ hdr (fun _ => ?_)
        clear hK K
        refine wpAnyH_take (i := 2) (oi := { dst := some 43, op := Op.call { callee := Callee.builtin Builtin.len, args := #[Operand.tmp 42], argTypes := #[23] }, type := 3, pos := "index.go:37", after := #[{ on := 1, ground := Ground.data }], guard := none }) (v := ?vpa3) rfl (by kernel_rfl) (by kernel_rfl) (by kernel_rfl) (fun _ _ _ h => h) (Or.inl ⟨by rfl, ?ypa3⟩) hdr ?_
        case ypa3 =>
          intro w hSw
          go_simp; all_goals (with_reducible rfl)
        simp only [Act.put, List.setIfInBounds_toArray, List.set_cons_zero, List.set_cons_succ]
        refine wpAnyH_ready (rs := [3]) (by kernel_rfl) (by simp) ?_
        refine (AllReadyH.cons (o := { dst := some 44, op := Op.call { callee := Callee.value (Operand.func 16), args := #[Operand.tmp 43], argTypes := #[3] }, type := 3, pos := "index.go:37", after := #[{ on := 2, ground := Ground.data }], guard := none }) rfl (fun K hK => ?_) AllReadyH.nil)
        go_simp
        refine (HZ.out wr.drew).mono ?_
        rintro e _ ⟨rfl, rfl⟩
        go_wp2_with fail
        refine hK.out _ _ hdr (fun _ => ?_)
        clear hK K
        refine wpAnyH_ready (rs := [4]) (by kernel_rfl) (by simp) ?_
        refine (AllReadyH.cons (o := { dst := some 45, op := Op.call { callee := Callee.builtin Builtin.append, args := #[Operand.tmp 41, Operand.tmp 44], argTypes := #[23, 3] }, type := 23, pos := "index.go:37", after := #[{ on := 0, ground := Ground.data }, { on := 3, ground := Ground.data }, { on := 3, ground := Ground.chain }], guard := none }) rfl (fun K hK => ?_) AllReadyH.nil)
        refine step_append_zeros rfl (.tmp 41) (.tmp 44) rfl w.heap.size wr.drew _ BD rfl HOW.out HB0.out Z rfl HZ3.out HSZ.out HZS.out ?_
        intro v2 w2 ho2 hg2
        have g2 : Below w.heap.size w w2 := below_grown hdr hg2 HZS.out (fun g e => (HOW.out.from_base g e).1)
        have hx2 : Box (w.heap.size + 1) w2 _ := Box.grown (w := wr.drew) HBX0.out hg2 (fun e => Box.ne (w := wr.drew) HBX0.out HOW.out e)
        obtain ⟨A2, c2, rfl, hc2, hm2, hB2⟩ := ho2.read
        have hcl2 := hx2.cell
        have hfz2 := hx2.frozen
        rw [HTL.out] at ho2 hc2 ⊢
        simp only [Act.put, List.setIfInBounds_toArray, List.set_cons_zero, List.set_cons_succ]
        refine hK.out _ _ g2 (fun _ => ?_)
        clear hK K
        refine wpAnyH_ready (rs := [5]) (by kernel_rfl) (by simp) ?_
        refine (AllReadyH.cons (o := { dst := none, op := Op.store 23 (Operand.tmp 4) (Operand.tmp 45), type := 0, pos := "index.go:37", after := #[{ on := 4, ground := Ground.data }, { on := 4, ground := Ground.chain }, { on := 0, ground := Ground.phase }, { on := 1, ground := Ground.phase }, { on := 2, ground := Ground.phase }, { on := 3, ground := Ground.phase }, { on := 4, ground := Ground.phase }], guard := none }) rfl (fun K hK => ?_) AllReadyH.nil)
        go_simp
        have g3 : Below w.heap.size w (w2.setCell ⟨w.heap.size + 1, 0, none⟩ (.slice A2 TP c2)) := Below.setCell (p := ⟨w.heap.size + 1, 0, none⟩) g2 (by show w.heap.size ≤ w.heap.size + 1; omega) _
        refine hK.out _ _ g3 (fun _ => ?_)
        clear hK K
        refine wpAnyH_done (by kernel_rfl) ?_ _
        have hx3 := hx2.set (.slice A2 TP c2)
        have ho3 := ho2.setBox hx2 (.slice A2 TP c2)
        rw [← HPD.out] at ho3
        generalize w2.setCell ⟨w.heap.size + 1, 0, none⟩ (.slice A2 TP c2) = w3 at hx3 ho3 g3 ⊢
        have hTP2 : PD.length = TP := HPDL.out.trans HPL.out
        clear ho2 hg2 hx2 hB2 hcl2 hfz2 hc2
        rw [← hTP2] at ho3
        obtain ⟨A3, c3, he3, hc3, hm3, hB3⟩ := ho3.read
        obtain ⟨rfl, rfl⟩ : A2 = A3 ∧ c2 = c3 := by injection he3 with e1 e2 e3; exact ⟨e1, e3⟩
        rw [hTP2] at ho3
        have HS := Lib.hid (show ∀ w', Bytes w' A2 PD → Calls Tryd.prog 17 #[.int .i64 1, .slice A2 TP c2] w' (BytesDone w' (sum1 PD)) from fun w' h => by
          have := chk1_any A2 PD c2 w' h (by omega) hm3
          rwa [hTP2] at this)
        have hd3 : Below w3.heap.size w3 w3.drew := below_drew w3
        have hd30 : Below w.heap.size w w3.drew := g3.trans (hd3.mono g3.size)
        have HX3 : Hid (Box (w.heap.size + 1) w3.drew (.slice A2 TP c2)) := Lib.hid hx3
        clear he3
        go_wp2_with fail
        refine wp_region_held_drew (S := fun w' => Box (w.heap.size + 1) w' (.slice A2 TP c2) ∧ Below w.heap.size w w') (by kernel_rfl) ⟨HX3.out, hd30⟩ (fun hS => ?_)
        refine wpAnyH_take (i := 0) (oi := { dst := some 46, op := Op.load 23 (Operand.tmp 4), type := 23, pos := "index.go:38", after := #[], guard := none }) (v := ?vq0_1) rfl (by kernel_rfl) (by kernel_rfl) (by kernel_rfl) (fun _ _ _ h => h) (Or.inl ⟨by rfl, ?yq0_1⟩) hS ?_
        case yq0_1 =>
          intro w hSw
          have k := hSw.1.cell
          go_simp; all_goals (with_reducible rfl)
        simp only [Act.put, List.setIfInBounds_toArray, List.set_cons_zero, List.set_cons_succ]
        refine wpAnyH_take (i := 1) (oi := { dst := some 47, op := Op.load 23 (Operand.tmp 4), type := 23, pos := "index.go:38", after := #[], guard := none }) (v := ?vq0_2) rfl (by kernel_rfl) (by kernel_rfl) (by kernel_rfl) (fun _ _ _ h => h) (Or.inl ⟨by rfl, ?yq0_2⟩) hS ?_
        case yq0_2 =>
          intro w hSw
          have k := hSw.1.cell
          go_simp; all_goals (with_reducible rfl)
        simp only [Act.put, List.setIfInBounds_toArray, List.set_cons_zero, List.set_cons_succ]
        refine wpAnyH_ready (rs := [2]) (by kernel_rfl) (by simp) ?_
        refine (AllReadyH.cons (o := { dst := some 48, op := Op.call { callee := Callee.value (Operand.func 17), args := #[Operand.const (Value.int IntKind.i64 1), Operand.tmp 47], argTypes := #[3, 23] }, type := 23, pos := "index.go:38", after := #[{ on := 1, ground := Ground.data }], guard := none }) rfl (fun K hK => ?_) AllReadyH.nil)
        go_simp
        refine (HS.out w3.drew (hB3.below hd3)).mono ?_
        rintro e w4 ⟨A4, c4, rfl, hc4, hm4, hB4, hb4⟩
        have g4 : Below w3.heap.size w3 w4 := hd3.trans (hb4.mono hd3.size)
        have hx4 := hx3.below g4
        have ho4 := ho3.below g4
        have hb40 := g3.trans (g4.mono g3.size)
        go_wp2_with fail
        refine hK.out _ _ ⟨hx4, hb40⟩ (fun _ => ?_)
        clear hK K
        refine wpAnyH_ready (rs := [3]) (by kernel_rfl) (by simp) ?_
        refine (AllReadyH.cons (o := { dst := some 49, op := Op.call { callee := Callee.builtin Builtin.append, args := #[Operand.tmp 46, Operand.tmp 48], argTypes := #[23, 23] }, type := 23, pos := "index.go:38", after := #[{ on := 0, ground := Ground.data }, { on := 2, ground := Ground.data }, { on := 2, ground := Ground.chain }], guard := none }) rfl (fun K hK => ?_) AllReadyH.nil)
        refine step_append_bytes rfl (.tmp 46) (.tmp 48) rfl w.heap.size w4 (.slice A2 TP c2) PD rfl ho4 A4 (sum1 PD) c4 rfl hB4 (by have := sum1_length PD; omega) hb40.size ?_
        intro v5 w5 ho5 hg5
        have hx5 := hx4.grown hg5 (fun e => hx4.ne ho4 e)
        have g5 : Below w.heap.size w w5 := below_grown hb40 hg5 hb40.size (fun g e => (ho4.from_base g e).1)
        simp only [Act.put, List.setIfInBounds_toArray, List.set_cons_zero, List.set_cons_succ]
        refine hK.out _ _ ⟨hx5, g5⟩ (fun _ => ?_)
        clear hK K
        refine wpAnyH_ready (rs := [4]) (by kernel_rfl) (by simp) ?_
        refine (AllReadyH.cons (o := { dst := some 2, op := Op.assign (Operand.tmp 49), type := 23, pos := "index.go:38", after := #[{ on := 3, ground := Ground.data }, { on := 3, ground := Ground.chain }, { on := 0, ground := Ground.phase }, { on := 1, ground := Ground.phase }, { on := 2, ground := Ground.phase }, { on := 3, ground := Ground.phase }], guard := none }) rfl (fun K hK => ?_) AllReadyH.nil)
        go_simp
        refine hK.out _ _ ⟨hx5, g5⟩ (fun _ => ?_)
        clear hK K
        refine wpAnyH_ready (rs := [5]) (by kernel_rfl) (by simp) ?_
        refine (AllReadyH.cons (o := { dst := some 3, op := Op.assign (Operand.const (Value.int IntKind.i64 0)), type := 25, pos := "index.go:38", after := #[{ on := 4, ground := Ground.chain }, { on := 0, ground := Ground.phase }, { on := 1, ground := Ground.phase }, { on := 2, ground := Ground.phase }, { on := 3, ground := Ground.phase }, { on := 4, ground := Ground.phase }], guard := none }) rfl (fun K hK => ?_) AllReadyH.nil)
        go_simp
        refine hK.out _ _ ⟨hx5, g5⟩ (fun _ => ?_)
        clear hK K
        refine wpAnyH_done (by kernel_rfl) ?_ _
        go_wp2_with fail
        go_ret2
        exact .inl ⟨hall.out, _, rfl, by rw [HR.out]; exact ho5, g5⟩
      · skip
        go_simp
        refine hK.out _ _ hdr (fun _ => ?_)
        clear hK K
        refine wpAnyH_take (i := 2) (oi := { dst := some 43, op := Op.call { callee := Callee.builtin Builtin.len, args := #[Operand.tmp 42], argTypes := #[23] }, type := 3, pos := "index.go:37", after := #[{ on := 1, ground := Ground.data }], guard := none }) (v := ?vpa4) rfl (by kernel_rfl) (by kernel_rfl) (by kernel_rfl) (fun _ _ _ h => h) (Or.inl ⟨by rfl, ?ypa4⟩) hdr ?_
        case ypa4 =>
          intro w hSw
          go_simp; all_goals (with_reducible rfl)
        simp only [Act.put, List.setIfInBounds_toArray, List.set_cons_zero, List.set_cons_succ]
        refine wpAnyH_ready (rs := [0, 3]) (by kernel_rfl) (by simp) ?_
        refine (AllReadyH.cons (o := { dst := some 41, op := Op.load 23 (Operand.tmp 4), type := 23, pos := "index.go:37", after := #[], guard := none }) rfl (fun K hK => ?_) (AllReadyH.cons (o := { dst := some 44, op := Op.call { callee := Callee.value (Operand.func 16), args := #[Operand.tmp 43], argTypes := #[3] }, type := 3, pos := "index.go:37", after := #[{ on := 2, ground := Ground.data }], guard := none }) rfl (fun K hK => ?_) AllReadyH.nil))
        · skip
          go_simp
          refine hK.out _ _ hdr (fun _ => ?_)
          clear hK K
          refine wpAnyH_ready (rs := [3]) (by kernel_rfl) (by simp) ?_
          refine (AllReadyH.cons (o := { dst := some 44, op := Op.call { callee := Callee.value (Operand.func 16), args := #[Operand.tmp 43], argTypes := #[3] }, type := 3, pos := "index.go:37", after := #[{ on := 2, ground := Ground.data }], guard := none }) rfl (fun K hK => ?_) AllReadyH.nil)
          go_simp
          refine (HZ.out wr.drew).mono ?_
          rintro e _ ⟨rfl, rfl⟩
          go_wp2_with fail
          refine hK.out _ _ hdr (fun _ => ?_)
          clear hK K
          refine wpAnyH_ready (rs := [4]) (by kernel_rfl) (by simp) ?_
          refine (AllReadyH.cons (o := { dst := some 45, op := Op.call { callee := Callee.builtin Builtin.append, args := #[Operand.tmp 41, Operand.tmp 44], argTypes := #[23, 3] }, type := 23, pos := "index.go:37", after := #[{ on := 0, ground := Ground.data }, { on := 3, ground := Ground.data }, { on := 3, ground := Ground.chain }], guard := none }) rfl (fun K hK => ?_) AllReadyH.nil)
          refine step_append_zeros rfl (.tmp 41) (.tmp 44) rfl w.heap.size wr.drew _ BD rfl HOW.out HB0.out Z rfl HZ3.out HSZ.out HZS.out ?_
          intro v2 w2 ho2 hg2
          have g2 : Below w.heap.size w w2 := below_grown hdr hg2 HZS.out (fun g e => (HOW.out.from_base g e).1)
          have hx2 : Box (w.heap.size + 1) w2 _ := Box.grown (w := wr.drew) HBX0.out hg2 (fun e => Box.ne (w := wr.drew) HBX0.out HOW.out e)
          obtain ⟨A2, c2, rfl, hc2, hm2, hB2⟩ := ho2.read
          have hcl2 := hx2.cell
          have hfz2 := hx2.frozen
          rw [HTL.out] at ho2 hc2 ⊢
          simp only [Act.put, List.setIfInBounds_toArray, List.set_cons_zero, List.set_cons_succ]
          refine hK.out _ _ g2 (fun _ => ?_)
          clear hK K
          refine wpAnyH_ready (rs := [5]) (by kernel_rfl) (by simp) ?_
          refine (AllReadyH.cons (o := { dst := none, op := Op.store 23 (Operand.tmp 4) (Operand.tmp 45), type := 0, pos := "index.go:37", after := #[{ on := 4, ground := Ground.data }, { on := 4, ground := Ground.chain }, { on := 0, ground := Ground.phase }, { on := 1, ground := Ground.phase }, { on := 2, ground := Ground.phase }, { on := 3, ground := Ground.phase }, { on := 4, ground := Ground.phase }], guard := none }) rfl (fun K hK => ?_) AllReadyH.nil)
          go_simp
          have g3 : Below w.heap.size w (w2.setCell ⟨w.heap.size + 1, 0, none⟩ (.slice A2 TP c2)) := Below.setCell (p := ⟨w.heap.size + 1, 0, none⟩) g2 (by show w.heap.size ≤ w.heap.size + 1; omega) _
          refine hK.out _ _ g3 (fun _ => ?_)
          clear hK K
          refine wpAnyH_done (by kernel_rfl) ?_ _
          have hx3 := hx2.set (.slice A2 TP c2)
          have ho3 := ho2.setBox hx2 (.slice A2 TP c2)
          rw [← HPD.out] at ho3
          generalize w2.setCell ⟨w.heap.size + 1, 0, none⟩ (.slice A2 TP c2) = w3 at hx3 ho3 g3 ⊢
          have hTP2 : PD.length = TP := HPDL.out.trans HPL.out
          clear ho2 hg2 hx2 hB2 hcl2 hfz2 hc2
          rw [← hTP2] at ho3
          obtain ⟨A3, c3, he3, hc3, hm3, hB3⟩ := ho3.read
          obtain ⟨rfl, rfl⟩ : A2 = A3 ∧ c2 = c3 := by injection he3 with e1 e2 e3; exact ⟨e1, e3⟩
          rw [hTP2] at ho3
          have HS := Lib.hid (show ∀ w', Bytes w' A2 PD → Calls Tryd.prog 17 #[.int .i64 1, .slice A2 TP c2] w' (BytesDone w' (sum1 PD)) from fun w' h => by
            have := chk1_any A2 PD c2 w' h (by omega) hm3
            rwa [hTP2] at this)
          have hd3 : Below w3.heap.size w3 w3.drew := below_drew w3
          have hd30 : Below w.heap.size w w3.drew := g3.trans (hd3.mono g3.size)
          have HX3 : Hid (Box (w.heap.size + 1) w3.drew (.slice A2 TP c2)) := Lib.hid hx3
          clear he3
          go_wp2_with fail
          refine wp_region_held_drew (S := fun w' => Box (w.heap.size + 1) w' (.slice A2 TP c2) ∧ Below w.heap.size w w') (by kernel_rfl) ⟨HX3.out, hd30⟩ (fun hS => ?_)
          refine wpAnyH_take (i := 0) (oi := { dst := some 46, op := Op.load 23 (Operand.tmp 4), type := 23, pos := "index.go:38", after := #[], guard := none }) (v := ?vq1_1) rfl (by kernel_rfl) (by kernel_rfl) (by kernel_rfl) (fun _ _ _ h => h) (Or.inl ⟨by rfl, ?yq1_1⟩) hS ?_
          case yq1_1 =>
            intro w hSw
            have k := hSw.1.cell
            go_simp; all_goals (with_reducible rfl)
          simp only [Act.put, List.setIfInBounds_toArray, List.set_cons_zero, List.set_cons_succ]
          refine wpAnyH_take (i := 1) (oi := { dst := some 47, op := Op.load 23 (Operand.tmp 4), type := 23, pos := "index.go:38", after := #[], guard := none }) (v := ?vq1_2) rfl (by kernel_rfl) (by kernel_rfl) (by kernel_rfl) (fun _ _ _ h => h) (Or.inl ⟨by rfl, ?yq1_2⟩) hS ?_
          case yq1_2 =>
            intro w hSw
            have k := hSw.1.cell
            go_simp; all_goals (with_reducible rfl)
          simp only [Act.put, List.setIfInBounds_toArray, List.set_cons_zero, List.set_cons_succ]
          refine wpAnyH_ready (rs := [2]) (by kernel_rfl) (by simp) ?_
          refine (AllReadyH.cons (o := { dst := some 48, op := Op.call { callee := Callee.value (Operand.func 17), args := #[Operand.const (Value.int IntKind.i64 1), Operand.tmp 47], argTypes := #[3, 23] }, type := 23, pos := "index.go:38", after := #[{ on := 1, ground := Ground.data }], guard := none }) rfl (fun K hK => ?_) AllReadyH.nil)
          go_simp
          refine (HS.out w3.drew (hB3.below hd3)).mono ?_
          rintro e w4 ⟨A4, c4, rfl, hc4, hm4, hB4, hb4⟩
          have g4 : Below w3.heap.size w3 w4 := hd3.trans (hb4.mono hd3.size)
          have hx4 := hx3.below g4
          have ho4 := ho3.below g4
          have hb40 := g3.trans (g4.mono g3.size)
          go_wp2_with fail
          refine hK.out _ _ ⟨hx4, hb40⟩ (fun _ => ?_)
          clear hK K
          refine wpAnyH_ready (rs := [3]) (by kernel_rfl) (by simp) ?_
          refine (AllReadyH.cons (o := { dst := some 49, op := Op.call { callee := Callee.builtin Builtin.append, args := #[Operand.tmp 46, Operand.tmp 48], argTypes := #[23, 23] }, type := 23, pos := "index.go:38", after := #[{ on := 0, ground := Ground.data }, { on := 2, ground := Ground.data }, { on := 2, ground := Ground.chain }], guard := none }) rfl (fun K hK => ?_) AllReadyH.nil)
          refine step_append_bytes rfl (.tmp 46) (.tmp 48) rfl w.heap.size w4 (.slice A2 TP c2) PD rfl ho4 A4 (sum1 PD) c4 rfl hB4 (by have := sum1_length PD; omega) hb40.size ?_
          intro v5 w5 ho5 hg5
          have hx5 := hx4.grown hg5 (fun e => hx4.ne ho4 e)
          have g5 : Below w.heap.size w w5 := below_grown hb40 hg5 hb40.size (fun g e => (ho4.from_base g e).1)
          simp only [Act.put, List.setIfInBounds_toArray, List.set_cons_zero, List.set_cons_succ]
          refine hK.out _ _ ⟨hx5, g5⟩ (fun _ => ?_)
          clear hK K
          refine wpAnyH_ready (rs := [4]) (by kernel_rfl) (by simp) ?_
          refine (AllReadyH.cons (o := { dst := some 2, op := Op.assign (Operand.tmp 49), type := 23, pos := "index.go:38", after := #[{ on := 3, ground := Ground.data }, { on := 3, ground := Ground.chain }, { on := 0, ground := Ground.phase }, { on := 1, ground := Ground.phase }, { on := 2, ground := Ground.phase }, { on := 3, ground := Ground.phase }], guard := none }) rfl (fun K hK => ?_) AllReadyH.nil)
          go_simp
          refine hK.out _ _ ⟨hx5, g5⟩ (fun _ => ?_)
          clear hK K
          refine wpAnyH_ready (rs := [5]) (by kernel_rfl) (by simp) ?_
          refine (AllReadyH.cons (o := { dst := some 3, op := Op.assign (Operand.const (Value.int IntKind.i64 0)), type := 25, pos := "index.go:38", after := #[{ on := 4, ground := Ground.chain }, { on := 0, ground := Ground.phase }, { on := 1, ground := Ground.phase }, { on := 2, ground := Ground.phase }, { on := 3, ground := Ground.phase }, { on := 4, ground := Ground.phase }], guard := none }) rfl (fun K hK => ?_) AllReadyH.nil)
          go_simp
          refine hK.out _ _ ⟨hx5, g5⟩ (fun _ => ?_)
          clear hK K
          refine wpAnyH_done (by kernel_rfl) ?_ _
          go_wp2_with fail
          go_ret2
          exact .inl ⟨hall.out, _, rfl, by rw [HR.out]; exact ho5, g5⟩
        · skip
          go_simp
          refine (HZ.out wr.drew).mono ?_
          rintro e _ ⟨rfl, rfl⟩
          go_wp2_with fail
          refine hK.out _ _ hdr (fun _ => ?_)
          clear hK K
          refine wpAnyH_ready (rs := [0]) (by kernel_rfl) (by simp) ?_
          refine (AllReadyH.cons (o := { dst := some 41, op := Op.load 23 (Operand.tmp 4), type := 23, pos := "index.go:37", after := #[], guard := none }) rfl (fun K hK => ?_) AllReadyH.nil)
          go_simp
          refine hK.out _ _ hdr (fun _ => ?_)
          clear hK K
          refine wpAnyH_ready (rs := [4]) (by kernel_rfl) (by simp) ?_
          refine (AllReadyH.cons (o := { dst := some 45, op := Op.call { callee := Callee.builtin Builtin.append, args := #[Operand.tmp 41, Operand.tmp 44], argTypes := #[23, 3] }, type := 23, pos := "index.go:37", after := #[{ on := 0, ground := Ground.data }, { on := 3, ground := Ground.data }, { on := 3, ground := Ground.chain }], guard := none }) rfl (fun K hK => ?_) AllReadyH.nil)
          refine step_append_zeros rfl (.tmp 41) (.tmp 44) rfl w.heap.size wr.drew _ BD rfl HOW.out HB0.out Z rfl HZ3.out HSZ.out HZS.out ?_
          intro v2 w2 ho2 hg2
          have g2 : Below w.heap.size w w2 := below_grown hdr hg2 HZS.out (fun g e => (HOW.out.from_base g e).1)
          have hx2 : Box (w.heap.size + 1) w2 _ := Box.grown (w := wr.drew) HBX0.out hg2 (fun e => Box.ne (w := wr.drew) HBX0.out HOW.out e)
          obtain ⟨A2, c2, rfl, hc2, hm2, hB2⟩ := ho2.read
          have hcl2 := hx2.cell
          have hfz2 := hx2.frozen
          rw [HTL.out] at ho2 hc2 ⊢
          simp only [Act.put, List.setIfInBounds_toArray, List.set_cons_zero, List.set_cons_succ]
          refine hK.out _ _ g2 (fun _ => ?_)
          clear hK K
          refine wpAnyH_ready (rs := [5]) (by kernel_rfl) (by simp) ?_
          refine (AllReadyH.cons (o := { dst := none, op := Op.store 23 (Operand.tmp 4) (Operand.tmp 45), type := 0, pos := "index.go:37", after := #[{ on := 4, ground := Ground.data }, { on := 4, ground := Ground.chain }, { on := 0, ground := Ground.phase }, { on := 1, ground := Ground.phase }, { on := 2, ground := Ground.phase }, { on := 3, ground := Ground.phase }, { on := 4, ground := Ground.phase }], guard := none }) rfl (fun K hK => ?_) AllReadyH.nil)
          go_simp
          have g3 : Below w.heap.size w (w2.setCell ⟨w.heap.size + 1, 0, none⟩ (.slice A2 TP c2)) := Below.setCell (p := ⟨w.heap.size + 1, 0, none⟩) g2 (by show w.heap.size ≤ w.heap.size + 1; omega) _
          refine hK.out _ _ g3 (fun _ => ?_)
          clear hK K
          refine wpAnyH_done (by kernel_rfl) ?_ _
          have hx3 := hx2.set (.slice A2 TP c2)
          have ho3 := ho2.setBox hx2 (.slice A2 TP c2)
          rw [← HPD.out] at ho3
          generalize w2.setCell ⟨w.heap.size + 1, 0, none⟩ (.slice A2 TP c2) = w3 at hx3 ho3 g3 ⊢
          have hTP2 : PD.length = TP := HPDL.out.trans HPL.out
          clear ho2 hg2 hx2 hB2 hcl2 hfz2 hc2
          rw [← hTP2] at ho3
          obtain ⟨A3, c3, he3, hc3, hm3, hB3⟩ := ho3.read
          obtain ⟨rfl, rfl⟩ : A2 = A3 ∧ c2 = c3 := by injection he3 with e1 e2 e3; exact ⟨e1, e3⟩
          rw [hTP2] at ho3
          have HS := Lib.hid (show ∀ w', Bytes w' A2 PD → Calls Tryd.prog 17 #[.int .i64 1, .slice A2 TP c2] w' (BytesDone w' (sum1 PD)) from fun w' h => by
            have := chk1_any A2 PD c2 w' h (by omega) hm3
            rwa [hTP2] at this)
          have hd3 : Below w3.heap.size w3 w3.drew := below_drew w3
          have hd30 : Below w.heap.size w w3.drew := g3.trans (hd3.mono g3.size)
          have HX3 : Hid (Box (w.heap.size + 1) w3.drew (.slice A2 TP c2)) := Lib.hid hx3
          clear he3
          go_wp2_with fail
          refine wp_region_held_drew (S := fun w' => Box (w.heap.size + 1) w' (.slice A2 TP c2) ∧ Below w.heap.size w w') (by kernel_rfl) ⟨HX3.out, hd30⟩ (fun hS => ?_)
          refine wpAnyH_take (i := 0) (oi := { dst := some 46, op := Op.load 23 (Operand.tmp 4), type := 23, pos := "index.go:38", after := #[], guard := none }) (v := ?vq2_1) rfl (by kernel_rfl) (by kernel_rfl) (by kernel_rfl) (fun _ _ _ h => h) (Or.inl ⟨by rfl, ?yq2_1⟩) hS ?_
          case yq2_1 =>
            intro w hSw
            have k := hSw.1.cell
            go_simp; all_goals (with_reducible rfl)
          simp only [Act.put, List.setIfInBounds_toArray, List.set_cons_zero, List.set_cons_succ]
          refine wpAnyH_take (i := 1) (oi := { dst := some 47, op := Op.load 23 (Operand.tmp 4), type := 23, pos := "index.go:38", after := #[], guard := none }) (v := ?vq2_2) rfl (by kernel_rfl) (by kernel_rfl) (by kernel_rfl) (fun _ _ _ h => h) (Or.inl ⟨by rfl, ?yq2_2⟩) hS ?_
          case yq2_2 =>
            intro w hSw
            have k := hSw.1.cell
            go_simp; all_goals (with_reducible rfl)
          simp only [Act.put, List.setIfInBounds_toArray, List.set_cons_zero, List.set_cons_succ]
          refine wpAnyH_ready (rs := [2]) (by kernel_rfl) (by simp) ?_
          refine (AllReadyH.cons (o := { dst := some 48, op := Op.call { callee := Callee.value (Operand.func 17), args := #[Operand.const (Value.int IntKind.i64 1), Operand.tmp 47], argTypes := #[3, 23] }, type := 23, pos := "index.go:38", after := #[{ on := 1, ground := Ground.data }], guard := none }) rfl (fun K hK => ?_) AllReadyH.nil)
          go_simp
          refine (HS.out w3.drew (hB3.below hd3)).mono ?_
          rintro e w4 ⟨A4, c4, rfl, hc4, hm4, hB4, hb4⟩
          have g4 : Below w3.heap.size w3 w4 := hd3.trans (hb4.mono hd3.size)
          have hx4 := hx3.below g4
          have ho4 := ho3.below g4
          have hb40 := g3.trans (g4.mono g3.size)
          go_wp2_with fail
          refine hK.out _ _ ⟨hx4, hb40⟩ (fun _ => ?_)
          clear hK K
          refine wpAnyH_ready (rs := [3]) (by kernel_rfl) (by simp) ?_
          refine (AllReadyH.cons (o := { dst := some 49, op := Op.call { callee := Callee.builtin Builtin.append, args := #[Operand.tmp 46, Operand.tmp 48], argTypes := #[23, 23] }, type := 23, pos := "index.go:38", after := #[{ on := 0, ground := Ground.data }, { on := 2, ground := Ground.data }, { on := 2, ground := Ground.chain }], guard := none }) rfl (fun K hK => ?_) AllReadyH.nil)
          refine step_append_bytes rfl (.tmp 46) (.tmp 48) rfl w.heap.size w4 (.slice A2 TP c2) PD rfl ho4 A4 (sum1 PD) c4 rfl hB4 (by have := sum1_length PD; omega) hb40.size ?_
          intro v5 w5 ho5 hg5
          have hx5 := hx4.grown hg5 (fun e => hx4.ne ho4 e)
          have g5 : Below w.heap.size w w5 := below_grown hb40 hg5 hb40.size (fun g e => (ho4.from_base g e).1)
          simp only [Act.put, List.setIfInBounds_toArray, List.set_cons_zero, List.set_cons_succ]
          refine hK.out _ _ ⟨hx5, g5⟩ (fun _ => ?_)
          clear hK K
          refine wpAnyH_ready (rs := [4]) (by kernel_rfl) (by simp) ?_
          refine (AllReadyH.cons (o := { dst := some 2, op := Op.assign (Operand.tmp 49), type := 23, pos := "index.go:38", after := #[{ on := 3, ground := Ground.data }, { on := 3, ground := Ground.chain }, { on := 0, ground := Ground.phase }, { on := 1, ground := Ground.phase }, { on := 2, ground := Ground.phase }, { on := 3, ground := Ground.phase }], guard := none }) rfl (fun K hK => ?_) AllReadyH.nil)
          go_simp
          refine hK.out _ _ ⟨hx5, g5⟩ (fun _ => ?_)
          clear hK K
          refine wpAnyH_ready (rs := [5]) (by kernel_rfl) (by simp) ?_
          refine (AllReadyH.cons (o := { dst := some 3, op := Op.assign (Operand.const (Value.int IntKind.i64 0)), type := 25, pos := "index.go:38", after := #[{ on := 4, ground := Ground.chain }, { on := 0, ground := Ground.phase }, { on := 1, ground := Ground.phase }, { on := 2, ground := Ground.phase }, { on := 3, ground := Ground.phase }, { on := 4, ground := Ground.phase }], guard := none }) rfl (fun K hK => ?_) AllReadyH.nil)
          go_simp
          refine hK.out _ _ ⟨hx5, g5⟩ (fun _ => ?_)
          clear hK K
          refine wpAnyH_done (by kernel_rfl) ?_ _
          go_wp2_with fail
          go_ret2
          exact .inl ⟨hall.out, _, rfl, by rw [HR.out]; exact ho5, g5⟩
end Go.Proofs.YthfmhjpmcapcbaaDoor
