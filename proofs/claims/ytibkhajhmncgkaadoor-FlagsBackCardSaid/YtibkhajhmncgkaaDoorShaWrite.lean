/- The walk over Hash.Write. -/
import Derived.Test.YtibkhajhmncgkaaDoorShaSt
import Derived.Test.YtibkhajhmncgkaaDoorShaMix
import Derived.Deep.RegionHeld3
namespace Go.Proofs.YtibkhajhmncgkaaDoor
open Go.RowKit

def lenOf (v : Value) : Nat := match v with | .slice _ n _ => n | _ => 0
theorem sizeB : (Tryd.prog.info? 5).map (·.size) = some 1 := by kernel_rfl
theorem lay_list (W8 : List Value) (h8 : W8.length = 8) (blk ch : List UInt8) (x : Value) (o : Nat) (hb : blk.length = 64) (ho : o + ch.length ≤ 64) :
    (W8 ++ (blk.map B8 ++ [x])).take (8 + o) ++ (ch.map B8 ++ (W8 ++ (blk.map B8 ++ [x])).drop (8 + o + ch.length)) = W8 ++ ((lay blk o ch).map B8 ++ [x]) := by
  unfold lay
  rw [List.take_append, List.drop_append, h8]
  rw [List.take_of_length_le (by omega), show 8 + o - 8 = o by omega, List.drop_eq_nil_of_le (by omega), show 8 + o + ch.length - 8 = o + ch.length by omega]
  rw [List.take_append_of_le_length (by simp; omega), List.drop_append_of_le_length (by simp; omega)]
  simp
theorem set_list (W8 : List Value) (h8 : W8.length = 8) (blk : List UInt8) (x y : Value) (hb : blk.length = 64) : (W8 ++ (blk.map B8 ++ [x])).set 72 y = W8 ++ (blk.map B8 ++ [y]) := by
  rw [List.set_append_right _ _ (by omega), h8, List.set_append_right _ _ (by simp [hb])]
  simp [hb]
theorem cells_lay (t : St) (o : Nat) (ch : List UInt8) (hb : t.blk.length = 64) (ho : o + ch.length ≤ 64) :
    t.cells.toArray.toList.take (8 + o) ++ ((ch.map B8) ++ t.cells.toArray.toList.drop (8 + o + (ch.map B8).length)) = (St.mk t.ws (lay t.blk o ch) t.n).cells := by
  rw [List.length_map]
  exact lay_list t.ws.agg.toList rfl t.blk ch _ o hb ho
theorem HashAt.count {w : World} {g : Nat} {s : St} (h : HashAt w g s) (m : Nat) : HashAt (w.setCell ⟨g, 72, none⟩ (.int .u64 (m : Nat))) g ⟨s.ws, s.blk, m⟩ := by
  refine ⟨?_, h.len⟩
  have e : s.cells.set 72 (.int .u64 (m : Nat)) = (St.mk s.ws s.blk m).cells := set_list s.ws.agg.toList rfl s.blk _ _ h.len
  unfold World.setCell
  simp [Array.getElem?_modify, h.at_, e]
theorem heap_set {w : World} {g : Nat} {L : List Value} {t : TypeId} (h : w.heap[g]? = some (.cells L.toArray t (0, 0))) (i : Nat) (v : Value) : (w.setCell ⟨g, i, none⟩ v).heap[g]? = some (.cells (L.set i v).toArray t (0, 0)) := by
  unfold World.setCell
  simp [Array.getElem?_modify, h]
theorem HashAt.words {w : World} {g : Nat} {s : St} (h : HashAt w g s) (r : R8) : HashAt (w.setCells g 0 r.agg.toList) g ⟨r, s.blk, s.n⟩ := by
  refine ⟨?_, h.len⟩
  have h0 := heap_set h.at_ 0 (U32 r.a)
  have h1 := heap_set h0 1 (U32 r.b)
  have h2 := heap_set h1 2 (U32 r.c)
  have h3 := heap_set h2 3 (U32 r.d)
  have h4 := heap_set h3 4 (U32 r.e)
  have h5 := heap_set h4 5 (U32 r.f)
  have h6 := heap_set h5 6 (U32 r.g)
  have h7 := heap_set h6 7 (U32 r.h)
  exact h7
theorem HashAt.range0 {w : World} {g : Nat} {s : St} (h : HashAt w g s) : w.rangeAt g 0 s.ws.agg.toList := by
  intro j v hv
  rw [Nat.zero_add, h.cellAt]
  have hj : j < s.ws.agg.toList.length := by
    rcases Nat.lt_or_ge j s.ws.agg.toList.length with h | h
    · exact h
    · rw [List.getElem?_eq_none h] at hv; cases hv
  unfold St.cells
  rw [List.getElem?_append_left hj]; exact hv
theorem HashAt.range8 {w : World} {g : Nat} {s : St} (h : HashAt w g s) : w.rangeAt g 8 (s.blk.map B8) := by
  intro j v hv
  rw [h.cellAt]
  have hj : j < (s.blk.map B8).length := by
    rcases Nat.lt_or_ge j (s.blk.map B8).length with h | h
    · exact h
    · rw [List.getElem?_eq_none h] at hv; cases hv
  have h8 : s.ws.agg.toList.length = 8 := rfl
  unfold St.cells
  generalize s.ws.agg.toList = W8 at *
  rw [List.getElem?_append_right (by omega), h8, show 8 + j - 8 = j by omega, List.getElem?_append_left hj]; exact hv
theorem HashAt.there8 {w : World} {g : Nat} {s : St} (h : HashAt w g s) : w.there g 0 8 := by
  intro j hj
  refine ⟨?_, ?_⟩
  · rw [Nat.zero_add, h.cellAt, List.getElem?_eq_getElem (by rw [s.cells_length h.len]; omega)]; rfl
  · simp [World.frozen?, h.at_]
theorem HashAt.belowB {w w' : World} {g B : Nat} {s : St} (h : HashAt w g s) (hb : Below B w w') (hg : g < B) : HashAt w' g s := ⟨(hb.block g hg).trans h.at_, h.len⟩
theorem only_setCells {X : List Nat} {a : World} (g : Nat) (hg : g ∈ X) : ∀ (vs : List Value) (o : Nat) (b : World), Only X a b → Only X a (b.setCells g o vs)
  | [], _, _, h => h
  | _ :: vs, o, _, h => only_setCells g hg vs (o + 1) _ (h.setCell (p := ⟨g, o, none⟩) (.inl hg) _)
theorem only_below {a b : World} (h : Below a.heap.size a b) : Only [] a b := ⟨h.os, h.tape, h.output, h.size, fun i hi _ => h.block i hi⟩
theorem below_drew_left {B : Nat} {a b : World} (h : Below B a.drew b) : Below B a b := ⟨h.os, h.tape, h.output, h.size, h.block⟩
theorem Bytes.only {w w' : World} {A : Option Addr} {l : List UInt8} {X : List Nat} (h : Bytes w A l) (ho : Only X w w') (hA : ∀ a, A = some a → a.block ∉ X) : Bytes w' A l :=
  h.keep ho.size fun p hp hlt => by
    have : p.block ∉ X := by
      cases A with
      | none => simp at hp
      | some a => have e : a.block = p.block := by simpa using hp
                  rw [← e]; exact hA a rfl
    unfold World.cell?
    rw [ho.block p.block hlt this]
theorem take_of_take (D : List UInt8) (n : Nat) : D.take (D.take n).length = D.take n := by
  rw [List.length_take]
  rcases Nat.le_total n D.length with h | h
  · rw [Nat.min_eq_left h]
  · rw [Nat.min_eq_right h, List.take_length, List.take_of_length_le h]
theorem cut_block (g o : Nat) (h : o < 64) (w : World) : (Instr.sliceAt 83 (.pointer (some ⟨g, 8, none⟩)) (some (.int .i64 (o : Nat))) none none).run Tryd.prog w = .ok (.slice (some ⟨g, 8 + o, none⟩) (64 - o) (64 - o)) w := by
  have ha : Tryd.prog.arrayLen 83 = 64 := by kernel_rfl
  have hu : Tryd.prog.underlying 83 = some (.array (Tryd.prog.arrayLen 83) (Tryd.prog.elem 83)) := by kernel_rfl
  have hs : (sizeOf (Tryd.prog.elem 83)).run Tryd.prog w = .ok 1 w := by kernel_rfl
  rw [run_sliceAt_array_l w 83 ⟨g, 8, none⟩ hu .i64 (o : Nat) (by omega) (by rw [ha]; omega), hs, ha]
  simp only [Result.andThen, slicedAt, Int.toNat_natCast, Nat.mul_one]
  rw [if_neg (by omega), Addr.add_mid]
set_option maxRecDepth 100000 in
set_option maxHeartbeats 4000000 in
theorem write_any (g : Nat) (s : St) (A : Option Addr) (l : List UInt8) (c : Nat) (w : World) (hH : HashAt w g s) (hB : Bytes w A l) (hA : 0 < l.length → ∀ a, A = some a → a.block ≠ g) (hg : g < w.heap.size) (hK : ∀ i, i < 64 → w.cell? ⟨2, i, none⟩ = some (U32 (Kc i))) (h1 : 2 < g) (hc : l.length ≤ c) (_hm : c ≤ 9223372036854775807) (hn : s.n + l.length ≤ 1000000000) :
    Calls Tryd.prog 50 #[.pointer (some ⟨g, 0, none⟩), .slice A l.length c] w fun e w' => e = .returned (.tuple #[]) ∧ HashAt w' g (s.puts l) ∧ Only [g] w w' := by
  have HK := Lib.hid hK
  have HN := Lib.hid hn
  clear hK hn
  go_enter Tryd.func50, Tryd.ntmps50
  go_wp2_with fail
  go_loopw [1] (fun v wr => ∃ (k : Nat) (Ak : Option Addr), k ≤ l.length ∧ v = .slice Ak (l.length - k) (c - k) ∧ Bytes wr Ak (l.drop k) ∧ (k < l.length → ∀ a, Ak = some a → a.block ≠ g) ∧ HashAt wr g (s.puts (l.take k)) ∧ Only [g] w wr) (fun v _ => lenOf v)
  case atStart => exact ⟨0, A, by omega, rfl, hB, hA, hH, Only.refl _ _⟩
  case round =>
    obtain ⟨k, Ak, hk, rfl, hBk, hAk, hHk, hon⟩ := hrel
    clear hB hA hH
    by_cases hlt : k < l.length
    · have hlen : (l.drop k).length = l.length - k := List.length_drop ..
      obtain ⟨bb, off, rfl, hbl, hcell⟩ := hBk.addr (by omega)
      have hbg : bb ≠ g := hAk hlt _ rfl
      have htn := St.puts_n (l.take k) s
      have htk : (l.take k).length = k := by rw [List.length_take]; omega
      rw [htk] at htn
      have HT : Hid (∀ m, k + m ≤ l.length → s.puts (l.take (k + m)) = (s.puts (l.take k)).puts ((l.drop k).take m)) := Lib.hid (fun m _ => by rw [List.take_add, St.puts_append])
      generalize hst : s.puts (l.take k) = t at *
      have hbl64 := hHk.len
      have hc72 := (hHk.cellAt 72).trans (t.cell_n hbl64)
      have htb : t.n ≤ 1000000000 := by have := HN.out; omega
      have hat := hHk.at_
      have hmod : (t.n : Int) % 64 = ((t.n % 64 : Nat) : Int) := by omega
      have ho : t.n % 64 < 64 := by omega
      have hnn : (t.n : Int) ≤ 1000000000 := by omega
      have hpos : (0 : Int) < ((l.length - k : Nat) : Int) := by omega
      have HTN := Lib.hid htn
      have HST := Lib.hid hst
      clear htn hst htk
      generalize hD : l.drop k = D at *
      have HD := Lib.hid hD
      clear hD
      generalize hL : l.length - k = L at *
      have HL := Lib.hid hL
      clear hL
      generalize hCK : c - k = ck at *
      have HCK := Lib.hid hCK
      clear hCK
      generalize hO : t.n % 64 = o at *
      have HO := Lib.hid hO
      clear hO
      have hcut := cut_block g o ho
      have hm1 : Nat.min L (64 - o) = (D.take (64 - o)).length := by rw [List.length_take, hlen, Nat.min_comm]
      have hchD := take_of_take D (64 - o)
      generalize hch : D.take (64 - o) = ch at *
      have hchl : ch.length ≤ 64 - o := by rw [← hch, List.length_take]; omega
      have hchp : 0 < ch.length := by rw [← hch, List.length_take]; omega
      have hsrc : ∀ j v, (ch.map B8)[j]? = some v → wr.cell? ((⟨bb, off, none⟩ : Addr).add j) = some v := by
        intro j v hv
        rw [List.getElem?_map] at hv
        have hj : j < ch.length := by
          rcases Nat.lt_or_ge j ch.length with h | h
          · exact h
          · rw [List.getElem?_eq_none h] at hv; simp at hv
        have hjD : j < D.length := by have : ch.length ≤ D.length := by rw [← hch, List.length_take]; omega
                                      omega
        rw [List.getElem?_eq_getElem hj] at hv
        simp at hv
        rw [Addr.add_mid, hcell j hjD, ← hv]
        have : ch[j] = D[j] := by simp only [← hch, List.getElem_take]
        rw [this]
      have hcl := t.cells_length hbl64
      have hfit : 8 + o + (ch.map B8).length ≤ t.cells.toArray.size := by simp [hcl]; omega
      have HL1 : Hid ((t.cells.toArray.toList.take (8 + o) ++ ((ch.map B8) ++ t.cells.toArray.toList.drop (8 + o + (ch.map B8).length))) = (St.mk t.ws (lay t.blk o ch) t.n).cells) := Lib.hid (cells_lay t o ch hbl64 (by omega))
      have hW1 := setRow_heap wr g t.cells.toArray (St.mk t.ws (lay t.blk o ch) t.n).cells.toArray _ _ hat
      have hlay : (lay t.blk o ch).length = 64 := by rw [lay_length _ _ _ (by omega), hbl64]
      have hH1 : HashAt (wr.setRow g (St.mk t.ws (lay t.blk o ch) t.n).cells.toArray) g (St.mk t.ws (lay t.blk o ch) t.n) := ⟨hW1, hlay⟩
      have hO1 : Only [g] wr (wr.setRow g (St.mk t.ws (lay t.blk o ch) t.n).cells.toArray) := ⟨rfl, rfl, rfl, by simp [World.setRow], fun i _ hi => setRow_other wr g i _ (by simpa using hi)⟩
      have c1 := (hH1.cellAt 72).trans ((St.mk t.ws (lay t.blk o ch) t.n).cell_n hlay)
      have f1 : (wr.setRow g (St.mk t.ws (lay t.blk o ch) t.n).cells.toArray).frozen? ⟨g, 72, none⟩ = false := by simp [World.frozen?, hW1]
      have hH2 := hH1.count (t.n + ch.length)
      have hO2 := hO1.setCell (p := ⟨g, 72, none⟩) (by simp) (.int .u64 ((t.n + ch.length : Nat) : Int))
      have hsum : (t.n : Int) + (ch.length : Int) = ((t.n + ch.length : Nat) : Int) := by omega
      have HCH := Lib.hid (St.puts_chunk ch t hbl64 (by rw [HO.out]; omega))
      clear hW1 hcl hnn hsum
      simp only at c1
      generalize hS1 : (St.mk t.ws (lay t.blk o ch) t.n).cells = cs1 at *
      have hnn : (t.n : Int) ≤ 1000000000 := by omega
      have hmm : (ch.length : Int) ≤ 64 := by omega
      have hLm : ch.length ≤ L := by rw [← hlen, ← hch, List.length_take]; omega
      by_cases hfull : o + ch.length = 64
      · have hfb : ((o : Int) + (ch.length : Int) == 64) = true := by simp; omega
        have hq := HCH.out
        rw [HO.out, if_pos hfull] at hq
        have HQ : Hid (s.puts (l.take (k + ch.length)) = ⟨mixS t.ws (lay t.blk o ch), lay t.blk o ch, t.n + ch.length⟩) := Lib.hid (by rw [HT.out ch.length (by have := HL.out; omega), hchD, hq])
        clear hq hch hcell
        have hgl : g < wr.heap.size := Nat.lt_of_lt_of_le hg hon.size
        have hon2 := hon.trans hO2 (by simp)
        simp only [Int.natCast_add] at hH2 hO2 hon2
        have hgl2 : g < (wr.setRow g cs1.toArray |>.setCell ⟨g, 72, none⟩ (.int .u64 ((t.n : Int) + (ch.length : Int)))).heap.size := Nat.lt_of_lt_of_le hgl hO2.size
        have HMIX := Lib.hid (fun (w' : World) h h' => mix_any t.ws (lay t.blk o ch) hlay w' h h')
        generalize hlb : lay t.blk o ch = lb at *
        by_cases hck : ck = ch.length
        · go_wp2_with (refine wpList_copy_own rfl (.tmp 21) (.tmp 22) 22 22 rfl 5 Tryd.underlying22 sizeB g (8 + o) (64 - o) (64 - o) ⟨bb, off, none⟩ L ck rfl rfl t.cells.toArray 85 hat (ch.map B8) (by rw [List.length_map, hm1]) hsrc hfit (b8_one ch) ?_; rw [HL1.out]; generalize wr.setRow g cs1.toArray = w1 at *)
          generalize w1.setCell ⟨g, 72, none⟩ (.int .u64 ((t.n : Int) + (ch.length : Int))) = w2 at *
          -- REGION BEGINS
          have hH2d : HashAt w2.drew g ⟨t.ws, lb, t.n + ch.length⟩ := ⟨hH2.at_, hH2.len⟩
          have hr0 : w2.drew.rangeAt g 8 (lb.map B8) := hH2.range8
          have hKL : 2 < w2.drew.heap.size := by show 2 < w2.heap.size; omega
          have hKK : ∀ i, i < 64 → w2.drew.cell? ⟨2, i, none⟩ = some (U32 (Kc i)) := fun i hi => by
            have e : w2.drew.cell? ⟨2, i, none⟩ = w.cell? ⟨2, i, none⟩ := by
              show World.cell? w2 _ = _
              unfold World.cell?
              rw [hon2.block 2 (by omega) (by simp; omega)]
            rw [e]; exact HK.out i hi
          refine wp_region_held_drew (S := fun w' => w'.rangeAt g 8 (lb.map B8)) (by kernel_rfl) hr0 (fun hS => ?_)
          refine wpAnyH_take (i := 0) (oi := { dst := some 40, op := Op.move (Operand.tmp 0), type := 67, pos := "sha256.go:46", after := #[], guard := none }) (v := ?vr1) rfl (by kernel_rfl) (by kernel_rfl) (by kernel_rfl) (fun _ _ _ h => h) (Or.inl ⟨by rfl, ?yr1⟩) hS ?_
          case yr1 =>
            intro w hSw
            go_simp; all_goals (with_reducible rfl)
          simp only [Act.put, List.setIfInBounds_toArray, List.set_cons_zero, List.set_cons_succ]
          refine wpAnyH_take (i := 1) (oi := { dst := some 41, op := Op.move (Operand.tmp 0), type := 67, pos := "sha256.go:46", after := #[], guard := none }) (v := ?vr2) rfl (by kernel_rfl) (by kernel_rfl) (by kernel_rfl) (fun _ _ _ h => h) (Or.inl ⟨by rfl, ?yr2⟩) hS ?_
          case yr2 =>
            intro w hSw
            go_simp; all_goals (with_reducible rfl)
          simp only [Act.put, List.setIfInBounds_toArray, List.set_cons_zero, List.set_cons_succ]
          refine wpAnyH_take (i := 2) (oi := { dst := some 42, op := Op.nilCheck (Operand.tmp 41), type := 0, pos := "sha256.go:46", after := #[{ on := 1, ground := Ground.data }], guard := none }) (v := ?vr3) rfl (by kernel_rfl) (by kernel_rfl) (by kernel_rfl) (fun _ _ _ h => h) (Or.inl ⟨by rfl, ?yr3⟩) hS ?_
          case yr3 =>
            intro w hSw
            go_simp; all_goals (with_reducible rfl)
          simp only [Act.put, List.setIfInBounds_toArray, List.set_cons_zero, List.set_cons_succ]
          refine wpAnyH_take (i := 3) (oi := { dst := some 43, op := Op.fieldAddr 85 (Operand.tmp 42) 0, type := 0, pos := "sha256.go:46", after := #[{ on := 2, ground := Ground.data }], guard := none }) (v := ?vr4) rfl (by kernel_rfl) (by kernel_rfl) (by kernel_rfl) (fun _ _ _ h => h) (Or.inl ⟨by rfl, ?yr4⟩) hS ?_
          case yr4 =>
            intro w hSw
            go_simp; all_goals (with_reducible rfl)
          simp only [Act.put, List.setIfInBounds_toArray, List.set_cons_zero, List.set_cons_succ]
          refine wpAnyH_take (i := 5) (oi := { dst := some 45, op := Op.move (Operand.tmp 0), type := 67, pos := "sha256.go:46", after := #[], guard := none }) (v := ?vr5) rfl (by kernel_rfl) (by kernel_rfl) (by kernel_rfl) (fun _ _ _ h => h) (Or.inl ⟨by rfl, ?yr5⟩) hS ?_
          case yr5 =>
            intro w hSw
            go_simp; all_goals (with_reducible rfl)
          simp only [Act.put, List.setIfInBounds_toArray, List.set_cons_zero, List.set_cons_succ]
          refine wpAnyH_take (i := 6) (oi := { dst := some 46, op := Op.nilCheck (Operand.tmp 45), type := 0, pos := "sha256.go:46", after := #[{ on := 5, ground := Ground.data }], guard := none }) (v := ?vr6) rfl (by kernel_rfl) (by kernel_rfl) (by kernel_rfl) (fun _ _ _ h => h) (Or.inl ⟨by rfl, ?yr6⟩) hS ?_
          case yr6 =>
            intro w hSw
            go_simp; all_goals (with_reducible rfl)
          simp only [Act.put, List.setIfInBounds_toArray, List.set_cons_zero, List.set_cons_succ]
          refine wpAnyH_take (i := 7) (oi := { dst := some 47, op := Op.fieldAddr 85 (Operand.tmp 46) 1, type := 0, pos := "sha256.go:46", after := #[{ on := 6, ground := Ground.data }], guard := none }) (v := ?vr7) rfl (by kernel_rfl) (by kernel_rfl) (by kernel_rfl) (fun _ _ _ h => h) (Or.inl ⟨by rfl, ?yr7⟩) hS ?_
          case yr7 =>
            intro w hSw
            go_simp; all_goals (with_reducible rfl)
          simp only [Act.put, List.setIfInBounds_toArray, List.set_cons_zero, List.set_cons_succ]
          refine wpAnyH_take (i := 8) (oi := { dst := some 48, op := Op.load 83 (Operand.tmp 47), type := 83, pos := "sha256.go:46", after := #[{ on := 7, ground := Ground.data }], guard := none }) (v := .agg (lb.map B8).toArray) rfl (by kernel_rfl) (by kernel_rfl) (by kernel_rfl) (fun _ _ _ h => h) (yieldsIf_load_mid (by rfl) 83 (.tmp 47) rfl g 8 rfl (lb.map B8) _ (fun w h => h) Tryd.underlying83 rfl (by rw [zsizeB, List.length_map, hlay])) hS ?_
          simp only [Act.put, List.setIfInBounds_toArray, List.set_cons_zero, List.set_cons_succ]
          refine wpAnyH_ready (rs := [4]) (by kernel_rfl) (by simp) ?_
          refine (AllReadyH.cons (o := { dst := some 44, op := Op.load 82 (Operand.tmp 43), type := 82, pos := "sha256.go:46", after := #[{ on := 3, ground := Ground.data }], guard := none }) rfl (fun K hK => ?_) AllReadyH.nil)
          refine wp_load_mid 82 (.tmp 43) rfl g 0 rfl t.ws.agg.toList _ hH2.range0 Tryd.underlying82 rfl (by rw [zsize8]; rfl) ?_
          simp only [Act.put, List.setIfInBounds_toArray, List.set_cons_zero, List.set_cons_succ]
          refine hK.out _ _ hS (fun _ => ?_)
          clear hK K
          refine wpAnyH_ready (rs := [9]) (by kernel_rfl) (by simp) ?_
          refine (AllReadyH.cons (o := { dst := some 49, op := Op.call { callee := Callee.value (Operand.func 59), args := #[Operand.tmp 44, Operand.tmp 48], argTypes := #[82, 83] }, type := 82, pos := "sha256.go:46", after := #[{ on := 4, ground := Ground.data }, { on := 8, ground := Ground.data }], guard := none }) rfl (fun K hK => ?_) AllReadyH.nil)
          go_simp
          refine (HMIX.out _ hKK hKL).mono ?_
          rintro e w3 ⟨rfl, hb3⟩
          have hH3 := hH2d.belowB hb3 hgl2
          have hS3 := hH3.range8
          go_wp2_with fail
          refine hK.out _ _ hS3 (fun _ => ?_)
          clear hK K
          refine wpAnyH_take (i := 10) (oi := { dst := some 50, op := Op.nilCheck (Operand.tmp 40), type := 0, pos := "sha256.go:46", after := #[{ on := 0, ground := Ground.data }, { on := 0, ground := Ground.phase }, { on := 1, ground := Ground.phase }, { on := 2, ground := Ground.phase }, { on := 3, ground := Ground.phase }, { on := 4, ground := Ground.phase }, { on := 5, ground := Ground.phase }, { on := 6, ground := Ground.phase }, { on := 7, ground := Ground.phase }, { on := 8, ground := Ground.phase }, { on := 9, ground := Ground.phase }], guard := none }) (v := ?vr8) rfl (by kernel_rfl) (by kernel_rfl) (by kernel_rfl) (fun _ _ _ h => h) (Or.inl ⟨by rfl, ?yr8⟩) hS3 ?_
          case yr8 =>
            intro w hSw
            go_simp; all_goals (with_reducible rfl)
          simp only [Act.put, List.setIfInBounds_toArray, List.set_cons_zero, List.set_cons_succ]
          refine wpAnyH_take (i := 11) (oi := { dst := some 51, op := Op.fieldAddr 85 (Operand.tmp 50) 0, type := 0, pos := "sha256.go:46", after := #[{ on := 10, ground := Ground.data }, { on := 0, ground := Ground.phase }, { on := 1, ground := Ground.phase }, { on := 2, ground := Ground.phase }, { on := 3, ground := Ground.phase }, { on := 4, ground := Ground.phase }, { on := 5, ground := Ground.phase }, { on := 6, ground := Ground.phase }, { on := 7, ground := Ground.phase }, { on := 8, ground := Ground.phase }, { on := 9, ground := Ground.phase }], guard := none }) (v := ?vr9) rfl (by kernel_rfl) (by kernel_rfl) (by kernel_rfl) (fun _ _ _ h => h) (Or.inl ⟨by rfl, ?yr9⟩) hS3 ?_
          case yr9 =>
            intro w hSw
            go_simp; all_goals (with_reducible rfl)
          simp only [Act.put, List.setIfInBounds_toArray, List.set_cons_zero, List.set_cons_succ]
          refine wpAnyH_ready (rs := [12]) (by kernel_rfl) (by simp) ?_
          refine (AllReadyH.cons (o := { dst := none, op := Op.store 82 (Operand.tmp 51) (Operand.tmp 49), type := 0, pos := "sha256.go:46", after := #[{ on := 11, ground := Ground.data }, { on := 9, ground := Ground.data }, { on := 9, ground := Ground.chain }, { on := 0, ground := Ground.phase }, { on := 1, ground := Ground.phase }, { on := 2, ground := Ground.phase }, { on := 3, ground := Ground.phase }, { on := 4, ground := Ground.phase }, { on := 5, ground := Ground.phase }, { on := 6, ground := Ground.phase }, { on := 7, ground := Ground.phase }, { on := 8, ground := Ground.phase }, { on := 9, ground := Ground.phase }], guard := none }) rfl (fun K hK => ?_) AllReadyH.nil)
          refine wp_store_mid 82 (.tmp 51) (.tmp 49) rfl g 0 (mixS t.ws lb).agg rfl rfl hH3.there8 (by rw [zsize8]; rfl) (agg8_one _) ?_
          simp only [Act.put]
          refine hK.out _ _ (hH3.words _).range8 (fun _ => ?_)
          clear hK K
          refine wpAnyH_done (by kernel_rfl) ?_ _
          have hon4 : Only [g] wr (w3.setCells g 0 (mixS t.ws lb).agg.toList) := only_setCells g (by simp) _ _ _ ((hO2.trans (only_below (show Below w2.heap.size w2 w3 from (below_drew_left hb3))) (by simp)))
          have hH4 := hH3.words (mixS t.ws lb)
          -- REGION ENDS
          go_wp2_with fail
          go_roundw
          case rel =>
            refine ⟨k + ch.length, some ⟨bb, off, none⟩, by have := HL.out; omega, ?_, ?_, ?_, ?_, ?_⟩
            · have := HL.out
              have := HCK.out
              rw [show l.length - (k + ch.length) = L - ch.length by omega, show c - (k + ch.length) = ck - ch.length by omega, show ck - ch.length = 0 by omega]
            · rw [List.drop_eq_nil_of_le (by have := HL.out; have := HCK.out; omega)]; exact .nil
            · intro _ a e; injection e with e; subst e; exact hbg
            · rw [HQ.out]; exact hH4
            · exact hon.trans hon4 (by simp)
          case measure => simp [lenOf]; omega
        · go_wp2_with (refine wpList_copy_own rfl (.tmp 21) (.tmp 22) 22 22 rfl 5 Tryd.underlying22 sizeB g (8 + o) (64 - o) (64 - o) ⟨bb, off, none⟩ L ck rfl rfl t.cells.toArray 85 hat (ch.map B8) (by rw [List.length_map, hm1]) hsrc hfit (b8_one ch) ?_; rw [HL1.out]; generalize wr.setRow g cs1.toArray = w1 at *)
          generalize w1.setCell ⟨g, 72, none⟩ (.int .u64 ((t.n : Int) + (ch.length : Int))) = w2 at *
          -- REGION BEGINS
          have hH2d : HashAt w2.drew g ⟨t.ws, lb, t.n + ch.length⟩ := ⟨hH2.at_, hH2.len⟩
          have hr0 : w2.drew.rangeAt g 8 (lb.map B8) := hH2.range8
          have hKL : 2 < w2.drew.heap.size := by show 2 < w2.heap.size; omega
          have hKK : ∀ i, i < 64 → w2.drew.cell? ⟨2, i, none⟩ = some (U32 (Kc i)) := fun i hi => by
            have e : w2.drew.cell? ⟨2, i, none⟩ = w.cell? ⟨2, i, none⟩ := by
              show World.cell? w2 _ = _
              unfold World.cell?
              rw [hon2.block 2 (by omega) (by simp; omega)]
            rw [e]; exact HK.out i hi
          refine wp_region_held_drew (S := fun w' => w'.rangeAt g 8 (lb.map B8)) (by kernel_rfl) hr0 (fun hS => ?_)
          refine wpAnyH_take (i := 0) (oi := { dst := some 40, op := Op.move (Operand.tmp 0), type := 67, pos := "sha256.go:46", after := #[], guard := none }) (v := ?vr1) rfl (by kernel_rfl) (by kernel_rfl) (by kernel_rfl) (fun _ _ _ h => h) (Or.inl ⟨by rfl, ?yr1⟩) hS ?_
          case yr1 =>
            intro w hSw
            go_simp; all_goals (with_reducible rfl)
          simp only [Act.put, List.setIfInBounds_toArray, List.set_cons_zero, List.set_cons_succ]
          refine wpAnyH_take (i := 1) (oi := { dst := some 41, op := Op.move (Operand.tmp 0), type := 67, pos := "sha256.go:46", after := #[], guard := none }) (v := ?vr2) rfl (by kernel_rfl) (by kernel_rfl) (by kernel_rfl) (fun _ _ _ h => h) (Or.inl ⟨by rfl, ?yr2⟩) hS ?_
          case yr2 =>
            intro w hSw
            go_simp; all_goals (with_reducible rfl)
          simp only [Act.put, List.setIfInBounds_toArray, List.set_cons_zero, List.set_cons_succ]
          refine wpAnyH_take (i := 2) (oi := { dst := some 42, op := Op.nilCheck (Operand.tmp 41), type := 0, pos := "sha256.go:46", after := #[{ on := 1, ground := Ground.data }], guard := none }) (v := ?vr3) rfl (by kernel_rfl) (by kernel_rfl) (by kernel_rfl) (fun _ _ _ h => h) (Or.inl ⟨by rfl, ?yr3⟩) hS ?_
          case yr3 =>
            intro w hSw
            go_simp; all_goals (with_reducible rfl)
          simp only [Act.put, List.setIfInBounds_toArray, List.set_cons_zero, List.set_cons_succ]
          refine wpAnyH_take (i := 3) (oi := { dst := some 43, op := Op.fieldAddr 85 (Operand.tmp 42) 0, type := 0, pos := "sha256.go:46", after := #[{ on := 2, ground := Ground.data }], guard := none }) (v := ?vr4) rfl (by kernel_rfl) (by kernel_rfl) (by kernel_rfl) (fun _ _ _ h => h) (Or.inl ⟨by rfl, ?yr4⟩) hS ?_
          case yr4 =>
            intro w hSw
            go_simp; all_goals (with_reducible rfl)
          simp only [Act.put, List.setIfInBounds_toArray, List.set_cons_zero, List.set_cons_succ]
          refine wpAnyH_take (i := 5) (oi := { dst := some 45, op := Op.move (Operand.tmp 0), type := 67, pos := "sha256.go:46", after := #[], guard := none }) (v := ?vr5) rfl (by kernel_rfl) (by kernel_rfl) (by kernel_rfl) (fun _ _ _ h => h) (Or.inl ⟨by rfl, ?yr5⟩) hS ?_
          case yr5 =>
            intro w hSw
            go_simp; all_goals (with_reducible rfl)
          simp only [Act.put, List.setIfInBounds_toArray, List.set_cons_zero, List.set_cons_succ]
          refine wpAnyH_take (i := 6) (oi := { dst := some 46, op := Op.nilCheck (Operand.tmp 45), type := 0, pos := "sha256.go:46", after := #[{ on := 5, ground := Ground.data }], guard := none }) (v := ?vr6) rfl (by kernel_rfl) (by kernel_rfl) (by kernel_rfl) (fun _ _ _ h => h) (Or.inl ⟨by rfl, ?yr6⟩) hS ?_
          case yr6 =>
            intro w hSw
            go_simp; all_goals (with_reducible rfl)
          simp only [Act.put, List.setIfInBounds_toArray, List.set_cons_zero, List.set_cons_succ]
          refine wpAnyH_take (i := 7) (oi := { dst := some 47, op := Op.fieldAddr 85 (Operand.tmp 46) 1, type := 0, pos := "sha256.go:46", after := #[{ on := 6, ground := Ground.data }], guard := none }) (v := ?vr7) rfl (by kernel_rfl) (by kernel_rfl) (by kernel_rfl) (fun _ _ _ h => h) (Or.inl ⟨by rfl, ?yr7⟩) hS ?_
          case yr7 =>
            intro w hSw
            go_simp; all_goals (with_reducible rfl)
          simp only [Act.put, List.setIfInBounds_toArray, List.set_cons_zero, List.set_cons_succ]
          refine wpAnyH_take (i := 8) (oi := { dst := some 48, op := Op.load 83 (Operand.tmp 47), type := 83, pos := "sha256.go:46", after := #[{ on := 7, ground := Ground.data }], guard := none }) (v := .agg (lb.map B8).toArray) rfl (by kernel_rfl) (by kernel_rfl) (by kernel_rfl) (fun _ _ _ h => h) (yieldsIf_load_mid (by rfl) 83 (.tmp 47) rfl g 8 rfl (lb.map B8) _ (fun w h => h) Tryd.underlying83 rfl (by rw [zsizeB, List.length_map, hlay])) hS ?_
          simp only [Act.put, List.setIfInBounds_toArray, List.set_cons_zero, List.set_cons_succ]
          refine wpAnyH_ready (rs := [4]) (by kernel_rfl) (by simp) ?_
          refine (AllReadyH.cons (o := { dst := some 44, op := Op.load 82 (Operand.tmp 43), type := 82, pos := "sha256.go:46", after := #[{ on := 3, ground := Ground.data }], guard := none }) rfl (fun K hK => ?_) AllReadyH.nil)
          refine wp_load_mid 82 (.tmp 43) rfl g 0 rfl t.ws.agg.toList _ hH2.range0 Tryd.underlying82 rfl (by rw [zsize8]; rfl) ?_
          simp only [Act.put, List.setIfInBounds_toArray, List.set_cons_zero, List.set_cons_succ]
          refine hK.out _ _ hS (fun _ => ?_)
          clear hK K
          refine wpAnyH_ready (rs := [9]) (by kernel_rfl) (by simp) ?_
          refine (AllReadyH.cons (o := { dst := some 49, op := Op.call { callee := Callee.value (Operand.func 59), args := #[Operand.tmp 44, Operand.tmp 48], argTypes := #[82, 83] }, type := 82, pos := "sha256.go:46", after := #[{ on := 4, ground := Ground.data }, { on := 8, ground := Ground.data }], guard := none }) rfl (fun K hK => ?_) AllReadyH.nil)
          go_simp
          refine (HMIX.out _ hKK hKL).mono ?_
          rintro e w3 ⟨rfl, hb3⟩
          have hH3 := hH2d.belowB hb3 hgl2
          have hS3 := hH3.range8
          go_wp2_with fail
          refine hK.out _ _ hS3 (fun _ => ?_)
          clear hK K
          refine wpAnyH_take (i := 10) (oi := { dst := some 50, op := Op.nilCheck (Operand.tmp 40), type := 0, pos := "sha256.go:46", after := #[{ on := 0, ground := Ground.data }, { on := 0, ground := Ground.phase }, { on := 1, ground := Ground.phase }, { on := 2, ground := Ground.phase }, { on := 3, ground := Ground.phase }, { on := 4, ground := Ground.phase }, { on := 5, ground := Ground.phase }, { on := 6, ground := Ground.phase }, { on := 7, ground := Ground.phase }, { on := 8, ground := Ground.phase }, { on := 9, ground := Ground.phase }], guard := none }) (v := ?vr8) rfl (by kernel_rfl) (by kernel_rfl) (by kernel_rfl) (fun _ _ _ h => h) (Or.inl ⟨by rfl, ?yr8⟩) hS3 ?_
          case yr8 =>
            intro w hSw
            go_simp; all_goals (with_reducible rfl)
          simp only [Act.put, List.setIfInBounds_toArray, List.set_cons_zero, List.set_cons_succ]
          refine wpAnyH_take (i := 11) (oi := { dst := some 51, op := Op.fieldAddr 85 (Operand.tmp 50) 0, type := 0, pos := "sha256.go:46", after := #[{ on := 10, ground := Ground.data }, { on := 0, ground := Ground.phase }, { on := 1, ground := Ground.phase }, { on := 2, ground := Ground.phase }, { on := 3, ground := Ground.phase }, { on := 4, ground := Ground.phase }, { on := 5, ground := Ground.phase }, { on := 6, ground := Ground.phase }, { on := 7, ground := Ground.phase }, { on := 8, ground := Ground.phase }, { on := 9, ground := Ground.phase }], guard := none }) (v := ?vr9) rfl (by kernel_rfl) (by kernel_rfl) (by kernel_rfl) (fun _ _ _ h => h) (Or.inl ⟨by rfl, ?yr9⟩) hS3 ?_
          case yr9 =>
            intro w hSw
            go_simp; all_goals (with_reducible rfl)
          simp only [Act.put, List.setIfInBounds_toArray, List.set_cons_zero, List.set_cons_succ]
          refine wpAnyH_ready (rs := [12]) (by kernel_rfl) (by simp) ?_
          refine (AllReadyH.cons (o := { dst := none, op := Op.store 82 (Operand.tmp 51) (Operand.tmp 49), type := 0, pos := "sha256.go:46", after := #[{ on := 11, ground := Ground.data }, { on := 9, ground := Ground.data }, { on := 9, ground := Ground.chain }, { on := 0, ground := Ground.phase }, { on := 1, ground := Ground.phase }, { on := 2, ground := Ground.phase }, { on := 3, ground := Ground.phase }, { on := 4, ground := Ground.phase }, { on := 5, ground := Ground.phase }, { on := 6, ground := Ground.phase }, { on := 7, ground := Ground.phase }, { on := 8, ground := Ground.phase }, { on := 9, ground := Ground.phase }], guard := none }) rfl (fun K hK => ?_) AllReadyH.nil)
          refine wp_store_mid 82 (.tmp 51) (.tmp 49) rfl g 0 (mixS t.ws lb).agg rfl rfl hH3.there8 (by rw [zsize8]; rfl) (agg8_one _) ?_
          simp only [Act.put]
          refine hK.out _ _ (hH3.words _).range8 (fun _ => ?_)
          clear hK K
          refine wpAnyH_done (by kernel_rfl) ?_ _
          have hon4 : Only [g] wr (w3.setCells g 0 (mixS t.ws lb).agg.toList) := only_setCells g (by simp) _ _ _ ((hO2.trans (only_below (show Below w2.heap.size w2 w3 from (below_drew_left hb3))) (by simp)))
          have hH4 := hH3.words (mixS t.ws lb)
          -- REGION ENDS
          go_wp2_with fail
          go_roundw
          case rel =>
            refine ⟨k + ch.length, some ⟨bb, off + ch.length, none⟩, by have := HL.out; omega, ?_, ?_, ?_, ?_, ?_⟩
            · have := HL.out
              have := HCK.out
              rw [show l.length - (k + ch.length) = L - ch.length by omega, show c - (k + ch.length) = ck - ch.length by omega]
            · rw [← List.drop_drop, HD.out]
              have h := (hBk.only hon4 (fun a e => by injection e with e; subst e; simpa using hbg)).cutFrom (k := ch.length) (by omega) (show D.length ≤ ck by have := HL.out; have := HCK.out; omega)
              rw [if_neg hck] at h
              simpa only [Option.map_some, Addr.add_mid] using h
            · intro _ a e; injection e with e; subst e; exact hbg
            · rw [HQ.out]; exact hH4
            · exact hon.trans hon4 (by simp)
          case measure => simp [lenOf]; omega
      · have hfb : ((o : Int) + (ch.length : Int) == 64) = false := by simp; omega
        have hq := HCH.out
        rw [HO.out, if_neg hfull] at hq
        have HQ : Hid (s.puts (l.take (k + ch.length)) = ⟨t.ws, lay t.blk o ch, t.n + ch.length⟩) := Lib.hid (by rw [HT.out ch.length (by have := HL.out; omega), hchD, hq])
        have hBn := (hBk.keep hO2.size (fun p hp hlt => by
          have hpb : bb = p.block := by simpa using hp
          show World.cell? _ _ = _
          unfold World.cell?
          rw [hO2.block p.block hlt (by simp; omega)])).cutFrom (k := ch.length) (by omega) (show D.length ≤ ck by have := HL.out; have := HCK.out; omega)
        clear hq hch hBk hcell
        by_cases hck : ck = ch.length
        · rw [if_pos hck] at hBn
          go_wp2_with (refine wpList_copy_own rfl (.tmp 21) (.tmp 22) 22 22 rfl 5 Tryd.underlying22 sizeB g (8 + o) (64 - o) (64 - o) ⟨bb, off, none⟩ L ck rfl rfl t.cells.toArray 85 hat (ch.map B8) (by rw [List.length_map, hm1]) hsrc hfit (b8_one ch) ?_; rw [HL1.out]; generalize wr.setRow g cs1.toArray = w1 at *)
          go_roundw
          case rel =>
            refine ⟨k + ch.length, some ⟨bb, off, none⟩, by have := HL.out; omega, ?_, ?_, ?_, ?_, ?_⟩
            · have := HL.out
              have := HCK.out
              rw [show l.length - (k + ch.length) = L - ch.length by omega, show c - (k + ch.length) = ck - ch.length by omega, show ck - ch.length = 0 by omega]
            · rw [← List.drop_drop, HD.out]; exact hBn
            · intro _ a e; injection e with e; subst e; exact hbg
            · rw [HQ.out]; exact hH2
            · exact hon.trans hO2 (by simp)
          case measure => simp [lenOf]; omega
        · rw [if_neg hck] at hBn
          simp only [Option.map_some, Addr.add_mid] at hBn
          go_wp2_with (refine wpList_copy_own rfl (.tmp 21) (.tmp 22) 22 22 rfl 5 Tryd.underlying22 sizeB g (8 + o) (64 - o) (64 - o) ⟨bb, off, none⟩ L ck rfl rfl t.cells.toArray 85 hat (ch.map B8) (by rw [List.length_map, hm1]) hsrc hfit (b8_one ch) ?_; rw [HL1.out]; generalize wr.setRow g cs1.toArray = w1 at *)
          go_roundw
          case rel =>
            refine ⟨k + ch.length, some ⟨bb, off + ch.length, none⟩, by have := HL.out; omega, ?_, ?_, ?_, ?_, ?_⟩
            · have := HL.out
              have := HCK.out
              rw [show l.length - (k + ch.length) = L - ch.length by omega, show c - (k + ch.length) = ck - ch.length by omega]
            · rw [← List.drop_drop, HD.out]; exact hBn
            · intro _ a e; injection e with e; subst e; exact hbg
            · rw [HQ.out]; exact hH2
            · exact hon.trans hO2 (by simp)
          case measure => simp [lenOf]; omega
    · obtain rfl : k = l.length := by omega
      have hst : s.puts (l.take l.length) = s.puts l := by rw [List.take_length]
      rw [hst] at hHk
      go_wp2_with fail
      go_end0
      exact ⟨rfl, hHk, hon⟩
end Go.Proofs.YtibkhajhmncgkaaDoor
