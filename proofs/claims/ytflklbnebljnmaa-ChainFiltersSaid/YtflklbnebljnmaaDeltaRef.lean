/- The reference's Encode and Decode of layer 13. -/
import Derived.Test.YtflklbnebljnmaaDeltaWalk
namespace Go.Proofs.Ytflklbnebljnmaa.De
open Go.RowKit Go.Proofs.Ytflklbnebljnmaa

/-- Bytes of one's own come back. -/
def GivesB (w : World) (l : List UInt8) (e : Ending) (w' : World) : Prop := ∃ v, e = .returned v ∧ Own w.heap.size w' v l ∧ Below w.heap.size w w'
theorem back_yes (l : List UInt8) (d k : Nat) (h : d ≤ k) : Delta.back l d k = Delta.at_ l (k - d) := by unfold Delta.back; rw [if_pos h]
theorem back_no (l : List UInt8) (d k : Nat) (h : ¬ d ≤ k) : Delta.back l d k = 0 := by unfold Delta.back; rw [if_neg h]

set_option maxRecDepth 100000 in
set_option maxHeartbeats 1000000 in
theorem refenc_any (A : Option Addr) (l : List UInt8) (c : Nat) (d : Int) (w : World) (hB : Bytes w A l) (hm : l.length ≤ 140737488355327) (hd1 : 1 ≤ d) (hd2 : d ≤ 256) :
    Calls Try.prog 27 #[.slice A l.length c, .int .i64 d] w (GivesB w (Delta.enc l d.toNat)) := by
  generalize hdn : d.toNat = dn at *
  have hdn1 : 1 ≤ dn := by omega
  have hde : d = (dn : Int) := by omega
  subst hde
  clear hdn
  go_enter Try.func27, Try.ntmps27
  go_wp2_with fail
  go_loopw [5, 6] (fun v i wr => ∃ (k : Nat), k ≤ l.length ∧ i = .int .i64 k ∧ Own w.heap.size wr v (Delta.encTo l dn k) ∧ Below w.heap.size w wr) (fun _ i _ => l.length - (intOf i).toNat)
  case atStart => exact ⟨0, by omega, rfl, Own.nil _ _, Below.refl _ _⟩
  case round =>
    obtain ⟨k, hk, rfl, ho, hb⟩ := hrel
    by_cases hlt : k < l.length
    · obtain ⟨b, off, rfl, hbl, hcell⟩ := (hB.below hb).addr (by omega)
      have hck := hcell k hlt
      have hsucc := Lib.hid (Delta.encTo_succ l dn k)
      have hlen := Delta.encTo_length l dn k
      have hat := Lib.hid (at_get l k hlt)
      generalize l[k] = v at *
      by_cases hdk : dn ≤ k
      · have hbk := Lib.hid (back_yes (l) dn k hdk)
        have hcu := hcell (k - dn) (by omega)
        have hatu := Lib.hid (at_get l (k - dn) (by omega))
        generalize l[k - dn] = u at *
        have hj1 : (0 : Int) ≤ (k : Int) - (dn : Int) := by omega
        have hj2 : (k : Int) - (dn : Int) < l.length := by omega
        have hj3 : ((k : Int) - (dn : Int)).toNat = k - dn := by omega
        have hop := sub_u8 v u
        rw [IntKind.wrap_u8'] at hop
        generalize hsv : v - u = sv at *
        have HSV := Lib.hid hsv
        have hone := Bytes.one wr sv
        have hoa := ho.alloc (.cells #[.int .u8 (sv.toNat : Nat)] 5)
        have hba := hb.alloc hb.size (.cells #[.int .u8 (sv.toNat : Nat)] 5)
        have hfit : (Delta.encTo l dn k).length + [sv].length ≤ 140737488355328 := by rw [hlen]; simp; omega
        clear hsv hcell
        go_wp2_with (at_builtin; refine wpList_append_bytes rfl (.tmp 29) (.tmp 31) rfl w.heap.size _ _ _ rfl hoa (some ⟨wr.heap.size, 0, none⟩) [sv] 1 rfl hone hfit hba.size ?_; intro v2 w2 ho2 hg2; have hb2 := below_grown hba hg2 hba.size (fun g hg => (hoa.from_base g hg).1))
        go_roundw
        case rel =>
          refine ⟨k + 1, by omega, by go_num, ?_, hb2⟩
          rw [hsucc.out, hat.out, hbk.out, hatu.out, HSV.out]; exact ho2
        case measure => simp [intOf]; omega
      · have hbk := Lib.hid (back_no (l) dn k hdk)
        have hone := Bytes.one wr v
        have hoa := ho.alloc (.cells #[.int .u8 (v.toNat : Nat)] 5)
        have hba := hb.alloc hb.size (.cells #[.int .u8 (v.toNat : Nat)] 5)
        have hfit : (Delta.encTo l dn k).length + [v].length ≤ 140737488355328 := by rw [hlen]; simp; omega
        have hnd : ¬ (dn : Int) ≤ (k : Int) := by omega
        clear hcell
        go_wp2_with (at_builtin; refine wpList_append_bytes rfl (.tmp 29) (.tmp 31) rfl w.heap.size _ _ _ rfl hoa (some ⟨wr.heap.size, 0, none⟩) [v] 1 rfl hone hfit hba.size ?_; intro v2 w2 ho2 hg2; have hb2 := below_grown hba hg2 hba.size (fun g hg => (hoa.from_base g hg).1))
        go_roundw
        case rel =>
          refine ⟨k + 1, by omega, by go_num, ?_, hb2⟩
          rw [hsucc.out, hat.out, hbk.out, UInt8.sub_zero]; exact ho2
        case measure => simp [intOf]; omega
    · obtain rfl : k = l.length := by omega
      go_wp2_with fail
      go_ret
      exact ⟨_, rfl, ho, hb⟩

set_option maxRecDepth 100000 in
set_option maxHeartbeats 1000000 in
theorem refdec_any (A : Option Addr) (l : List UInt8) (c : Nat) (d : Int) (w : World) (hB : Bytes w A l) (hm : l.length ≤ 140737488355327) (hd1 : 1 ≤ d) (hd2 : d ≤ 256) :
    Calls Try.prog 29 #[.slice A l.length c, .int .i64 d] w (GivesB w (Delta.dec l d.toNat)) := by
  generalize hdn : d.toNat = dn at *
  have hdn1 : 1 ≤ dn := by omega
  have hde : d = (dn : Int) := by omega
  subst hde
  clear hdn
  go_enter Try.func29, Try.ntmps29
  go_wp2_with fail
  go_loopw [5, 6] (fun v i wr => ∃ (k : Nat), k ≤ l.length ∧ i = .int .i64 k ∧ Own w.heap.size wr v (Delta.decTo l dn k) ∧ Below w.heap.size w wr) (fun _ i _ => l.length - (intOf i).toNat)
  case atStart => exact ⟨0, by omega, rfl, Own.nil _ _, Below.refl _ _⟩
  case round =>
    obtain ⟨k, hk, rfl, ho, hb⟩ := hrel
    by_cases hlt : k < l.length
    · obtain ⟨b, off, rfl, hbl, hcell⟩ := (hB.below hb).addr (by omega)
      have hck := hcell k hlt
      have hsucc := Lib.hid (Delta.decTo_succ l dn k)
      have hlen := Delta.decTo_length l dn k
      have hat := Lib.hid (at_get l k hlt)
      generalize l[k] = v at *
      by_cases hdk : dn ≤ k
      · have hbk := Lib.hid (back_yes (Delta.decTo l dn k) dn k hdk)
        obtain ⟨Ao, co, hv, hco, hmo, hBo⟩ := ho.read
        rw [hlen] at hv hco
        subst hv
        obtain ⟨bo, offo, rfl, hblo, hcello⟩ := hBo.addr (by omega)
        have hcu := hcello (k - dn) (by omega)
        have hatu := Lib.hid (at_get (Delta.decTo l dn k) (k - dn) (by omega))
        generalize (Delta.decTo l dn k)[k - dn]'(by omega) = u at *
        clear hcello
        have hj1 : (0 : Int) ≤ (k : Int) - (dn : Int) := by omega
        have hj2 : (k : Int) - (dn : Int) < k := by omega
        have hj3 : ((k : Int) - (dn : Int)).toNat = k - dn := by omega
        have hop := add_u8 v u
        rw [IntKind.wrap_u8'] at hop
        generalize hsv : v + u = sv at *
        have HSV := Lib.hid hsv
        have hone := Bytes.one wr sv
        have hoa := ho.alloc (.cells #[.int .u8 (sv.toNat : Nat)] 5)
        have hba := hb.alloc hb.size (.cells #[.int .u8 (sv.toNat : Nat)] 5)
        have hfit : (Delta.decTo l dn k).length + [sv].length ≤ 140737488355328 := by rw [hlen]; simp; omega
        clear hsv hcell
        go_wp2_with (at_builtin; refine wpList_append_bytes rfl (.tmp 29) (.tmp 31) rfl w.heap.size _ _ _ rfl hoa (some ⟨wr.heap.size, 0, none⟩) [sv] 1 rfl hone hfit hba.size ?_; intro v2 w2 ho2 hg2; have hb2 := below_grown hba hg2 hba.size (fun g hg => (hoa.from_base g hg).1))
        go_roundw
        case rel =>
          refine ⟨k + 1, by omega, by go_num, ?_, hb2⟩
          rw [hsucc.out, hat.out, hbk.out, hatu.out, HSV.out]; exact ho2
        case measure => simp [intOf]; omega
      · have hbk := Lib.hid (back_no (Delta.decTo l dn k) dn k hdk)
        have hone := Bytes.one wr v
        have hoa := ho.alloc (.cells #[.int .u8 (v.toNat : Nat)] 5)
        have hba := hb.alloc hb.size (.cells #[.int .u8 (v.toNat : Nat)] 5)
        have hfit : (Delta.decTo l dn k).length + [v].length ≤ 140737488355328 := by rw [hlen]; simp; omega
        have hnd : ¬ (dn : Int) ≤ (k : Int) := by omega
        clear hcell
        go_wp2_with (at_builtin; refine wpList_append_bytes rfl (.tmp 29) (.tmp 31) rfl w.heap.size _ _ _ rfl hoa (some ⟨wr.heap.size, 0, none⟩) [v] 1 rfl hone hfit hba.size ?_; intro v2 w2 ho2 hg2; have hb2 := below_grown hba hg2 hba.size (fun g hg => (hoa.from_base g hg).1))
        go_roundw
        case rel =>
          refine ⟨k + 1, by omega, by go_num, ?_, hb2⟩
          rw [hsucc.out, hat.out, hbk.out, UInt8.add_zero]; exact ho2
        case measure => simp [intOf]; omega
    · obtain rfl : k = l.length := by omega
      go_wp2_with fail
      go_ret
      exact ⟨_, rfl, ho, hb⟩
end Go.Proofs.Ytflklbnebljnmaa.De
