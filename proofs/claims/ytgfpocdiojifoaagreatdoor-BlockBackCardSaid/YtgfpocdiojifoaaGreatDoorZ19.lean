import Derived.Deep.RegionHeld3
import Derived.Deep.DeepCutAuto
import Derived.Test.YtgfpocdiojifoaaGreatDoorZ18
namespace Go.Proofs.YtgfpocdiojifoaaGreatDoor
set_option maxRecDepth 100000
set_option maxHeartbeats 8000000
open Go.RowKit
section
open Go.RowKit Go.Maps
theorem IE(A:Option Addr)(l:List UInt8)(c n:Nat)(w:World)(hB:Bytes w A l)(hc:l.length≤c)(hl:l.length≤100000)(hn:n=l.length-3):
  Calls Tryz.prog 73 #[.slice A l.length c] w fun e w'=>e= .returned (.slice (some ⟨w.heap.size+1,0,none⟩) n n)∧w'.heap[w.heap.size+1]? =some (.cells (jL l n).toArray 21 (0,0))∧Below w.heap.size w w':=by
 have hci:(l.length:Int)≤(c:Int):=by omega
 have Fb:(l.length:Int)≤100000:=by omega
 have hmx:max ((l.length:Int)-3) 0=(n:Int):=by omega
 have hn6:n≤1000000:=by omega
 have hni:(n:Int)≤100000:=by omega
 have E5:=Lib.hid hB
 have HN:=Lib.hid hn
 have hmm: ∀w:World,(Instr.makeMap 190 none).run Tryz.prog w= .ok (.map (some w.heap.size)) (w.alloc (.map #[] 0)):=fun w=>run_makeMap _ w
 clear hB hn hl hc
 go_enter Tryz.func73,Tryz.ntmps73
 go_wp2_with (at_make;refine AB rfl (.tmp 13) (.tmp 13) rfl n (w.alloc (.map #[] 0)) rfl rfl hn6 ?_;intro w1 hrow hg)
 have hb1:Below w.heap.size w w1:=below_grown ((Below.refl _ _).alloc (Nat.le_refl _) _) hg (by simp) (fun g e=>by cases e)
 have hsz1:(w.alloc (.map #[] 0)).heap.size=w.heap.size+1:=by simp
 have HMP:Hid (iM w1 w.heap.size l 0):=Lib.hid ((iM.made w l).keep (hg.block _ (by rw[hsz1];omega) (by simp)))
 rw[hsz1]at hrow
 have nV:=Lib.hid hrow
 have HB1:=Lib.hid hb1
 clear hrow hg hb1 hsz1
 go_loopw [17] (fun i wr=> ∃k:Nat,k≤n∧i= .int .i64 (k:Nat)∧Hid (wr.heap[w.heap.size+1]? =some (.cells (jL l k++List.replicate (n-k) (Value.int .i32 0)).toArray 21 (0,0)))∧Hid (iM wr w.heap.size l k)∧Hid (Below w.heap.size w wr)) (fun i _=>n-(intOf i).toNat)
 case atStart=>exact⟨0,by omega,rfl,Lib.hid (by rw[Nat.sub_zero];exact nV.out),HMP,HB1⟩
 case round=>
  obtain⟨k,hk,rfl,HR,HL,HB⟩:=hrel
  by_cases hkl:k<n
  ·have hki:(k:Int)<(n:Int):=by omega
   have hk3:(k:Int)+3<(l.length:Int):=by have:=HN.out;omega
   obtain⟨b,off,rfl,hbl,hat⟩:=(E5.out.below HB.out).addr (by omega)
   have hx0:=hat k (by omega)
   have hx1:=hat (k+1) (by omega)
   have hx2:=hat (k+2) (by omega)
   have hx3:=hat (k+3) (by omega)
   have e0:=dQ (d:=l) (i:=k) (by omega)
   have e1:=dQ (d:=l) (i:=k+1) (by omega)
   have e2:=dQ (d:=l) (i:=k+2) (by omega)
   have e3:=dQ (d:=l) (i:=k+3) (by omega)
   generalize l[k]'(by omega)=z0 at*
   generalize l[k+1]'(by omega)=z1 at*
   generalize l[k+2]'(by omega)=z2 at*
   generalize l[k+3]'(by omega)=z3 at*
   have HFO:Hid (four l k=(z0,z1,z2,z3)):=Lib.hid (by unfold four;rw[e0,e1,e2,e3])
   obtain⟨y1,hy1⟩: ∃y:Nat,k+1=y:=⟨_,rfl⟩
   obtain⟨y2,hy2⟩: ∃y:Nat,k+2=y:=⟨_,rfl⟩
   obtain⟨y3,hy3⟩: ∃y:Nat,k+3=y:=⟨_,rfl⟩
   rw[hy1]at hx1
   rw[hy2]at hx2
   rw[hy3]at hx3
   have k1:(k:Int)+1=(y1:Int):=by omega
   have k2:(k:Int)+2=(y2:Int):=by omega
   have k3:(k:Int)+3=(y3:Int):=by omega
   have l1:(y1:Int)<(l.length:Int):=by omega
   have l2:(y2:Int)<(l.length:Int):=by omega
   have l3:(y3:Int)<(l.length:Int):=by omega
   have l0:(k:Int)<(l.length:Int):=by omega
   have HC:=Lib.hid (fun(wx:World) (h:wx.heap[b]? =wr.heap[b]?)=>(show wx.cell? ⟨b,off+k,none⟩=some (.int .u8 (z0.toNat:Nat))∧wx.cell? ⟨b,off+y1,none⟩=some (.int .u8 (z1.toNat:Nat))∧wx.cell? ⟨b,off+y2,none⟩=some (.int .u8 (z2.toNat:Nat))∧wx.cell? ⟨b,off+y3,none⟩=some (.int .u8 (z3.toNat:Nat))from by
    refine⟨?_,?_,?_,?_⟩
    ·rw[←hx0];unfold World.cell?;rw[h]
    ·rw[←hx1];unfold World.cell?;rw[h]
    ·rw[←hx2];unfold World.cell?;rw[h]
    ·rw[←hx3];unfold World.cell?;rw[h]))
   have v1:IntKind.i64.wrap (y1:Int)=(y1:Int):=IntWalk.i64_in _ (by omega)
   have v2:IntKind.i64.wrap (y2:Int)=(y2:Int):=IntWalk.i64_in _ (by omega)
   have v3:IntKind.i64.wrap (y3:Int)=(y3:Int):=IntWalk.i64_in _ (by omega)
   clear hat e0 e1 e2 e3 hy1 hy2 hy3 hk3 hx0 hx1 hx2 hx3
   go_wp2_with fail
   refine wp_region_held_drew (S:=fun w2=>w2.heap[b]? =wr.drew.heap[b]?) (by kernel_rfl) rfl (fun hS=> ?_)
   refine tp 0 rfl (fun w hSw=>by obtain⟨i0,i1,i2,i3⟩:=HC.out w hSw;go_simp;all_goals(with_reducible rfl)) hS ?_
   refine tp 1 rfl (fun w hSw=>by obtain⟨i0,i1,i2,i3⟩:=HC.out w hSw;go_simp;all_goals(with_reducible rfl)) hS ?_
   refine tp 2 rfl (fun w hSw=>by obtain⟨i0,i1,i2,i3⟩:=HC.out w hSw;go_simp;all_goals(with_reducible rfl)) hS ?_
   refine tp 3 rfl (fun w hSw=>by obtain⟨i0,i1,i2,i3⟩:=HC.out w hSw;go_simp;all_goals(with_reducible rfl)) hS ?_
   refine tp 4 rfl (fun w hSw=>by obtain⟨i0,i1,i2,i3⟩:=HC.out w hSw;go_simp;all_goals(with_reducible rfl)) hS ?_
   refine tp 5 rfl (fun w hSw=>by obtain⟨i0,i1,i2,i3⟩:=HC.out w hSw;go_simp;all_goals(with_reducible rfl)) hS ?_
   refine tp 6 rfl (fun w hSw=>by obtain⟨i0,i1,i2,i3⟩:=HC.out w hSw;go_simp;all_goals(with_reducible rfl)) hS ?_
   refine tp 7 rfl (fun w hSw=>by obtain⟨i0,i1,i2,i3⟩:=HC.out w hSw;go_simp;all_goals(with_reducible rfl)) hS ?_
   refine tp 8 rfl (fun w hSw=>by obtain⟨i0,i1,i2,i3⟩:=HC.out w hSw;go_simp;all_goals(with_reducible rfl)) hS ?_
   refine tp 9 rfl (fun w hSw=>by obtain⟨i0,i1,i2,i3⟩:=HC.out w hSw;go_simp;all_goals(with_reducible rfl)) hS ?_
   refine tp 10 rfl (fun w hSw=>by obtain⟨i0,i1,i2,i3⟩:=HC.out w hSw;go_simp;all_goals(with_reducible rfl)) hS ?_
   refine tp 11 rfl (fun w hSw=>by obtain⟨i0,i1,i2,i3⟩:=HC.out w hSw;go_simp;all_goals(with_reducible rfl)) hS ?_
   refine tp 12 rfl (fun w hSw=>by obtain⟨i0,i1,i2,i3⟩:=HC.out w hSw;go_simp;all_goals(with_reducible rfl)) hS ?_
   refine tp 13 rfl (fun w hSw=>by obtain⟨i0,i1,i2,i3⟩:=HC.out w hSw;go_simp;all_goals(with_reducible rfl)) hS ?_
   refine tp 14 rfl (fun w hSw=>by obtain⟨i0,i1,i2,i3⟩:=HC.out w hSw;go_simp;all_goals(with_reducible rfl)) hS ?_
   refine tp 15 rfl (fun w hSw=>by obtain⟨i0,i1,i2,i3⟩:=HC.out w hSw;go_simp;all_goals(with_reducible rfl)) hS ?_
   refine tp 16 rfl (fun w hSw=>by obtain⟨i0,i1,i2,i3⟩:=HC.out w hSw;go_simp;all_goals(with_reducible rfl)) hS ?_
   refine tp 17 rfl (fun w hSw=>by obtain⟨i0,i1,i2,i3⟩:=HC.out w hSw;go_simp;all_goals(with_reducible rfl)) hS ?_
   refine tp 18 rfl (fun w hSw=>by obtain⟨i0,i1,i2,i3⟩:=HC.out w hSw;go_simp;all_goals(with_reducible rfl)) hS ?_
   refine tp 19 rfl (fun w hSw=>by obtain⟨i0,i1,i2,i3⟩:=HC.out w hSw;go_simp;all_goals(with_reducible rfl)) hS ?_
   refine tr 20 (fun K hK=> ?_)
   go_simp
   refine hK.out _ _ (Below.heap_alloc _ _ _ hbl) (fun _=> ?_)
   clear hK K
   refine tr 21 (fun K hK=> ?_)
   go_simp
   refine hK.out _ _ (Below.heap_alloc _ _ _ hbl) (fun _=> ?_)
   clear hK K
   refine wpAnyH_done (by kernel_rfl) ?_ _
   obtain⟨W2,hW2⟩: ∃W2,(wr.alloc (.cells #[.int .u8 (z0.toNat:Nat),.int .u8 (z1.toNat:Nat),.int .u8 (z2.toNat:Nat),.int .u8 (z3.toNat:Nat)] 191)).drew=W2:=⟨_,rfl⟩
   rw[hW2]
   have hb2:Below wr.heap.size wr W2:=by
    rw[←hW2]
    have h:=(Below.refl wr.heap.size wr).alloc (Nat.le_refl _) (.cells #[.int .u8 (z0.toNat:Nat),.int .u8 (z1.toNat:Nat),.int .u8 (z2.toNat:Nat),.int .u8 (z3.toNat:Nat)] 191)
    exact⟨h.os,h.tape,h.output,h.size,h.block⟩
   have hbx:W2.heap[wr.heap.size]? =some (.cells #[.int .u8 (z0.toNat:Nat),.int .u8 (z1.toNat:Nat),.int .u8 (z2.toNat:Nat),.int .u8 (z3.toNat:Nat)] 191 (0,0)):=by
    rw[←hW2];exact heap_alloc_last _ _
   have hgl:w.heap.size+1<wr.heap.size:=(Array.getElem?_eq_some_iff.1 HR.out).1
   have hr2:=(hb2.block _ hgl).trans HR.out
   have hl2:iM W2 w.heap.size l k:=HL.out.keep (hb2.block _ (by omega))
   have hbB:Below w.heap.size w W2:=HB.out.trans (hb2.mono (by omega))
   clear hW2 hb2 hS
   have c1:W2.cell? ⟨w.heap.size+1,k,none⟩=some (.int .i32 0):=by
    rw[cell_of_row W2 _ _ _ _ _ hr2,List.getElem?_toArray,List.getElem?_append_right (by simp[jL]),show(jL l k).length=k from by simp[jL],Nat.sub_self,List.getElem?_replicate,if_pos (by omega)]
   have f1:W2.frozen? ⟨w.heap.size+1,k,none⟩=false:=by simp[World.frozen?,hr2]
   obtain⟨W3,hW3⟩: ∃W3,W2.setCell ⟨w.heap.size+1,k,none⟩ (.int .i32 (-1))=W3:=⟨_,rfl⟩
   have hr3:=heap_set hr2 k (.int .i32 (-1))
   have Ot:=(show W3.heap[wr.heap.size]? =W2.heap[wr.heap.size]? from by rw[←hW3,ah _ _ _ _ (by simp;omega)]).trans hbx
   have hl3:iM W3 w.heap.size l k:=hl2.keep (by rw[←hW3,ah _ _ _ _ (by simp)])
   have aia:Below w.heap.size w W3:=by rw[←hW3];exact Below.setCell (p:=⟨w.heap.size+1,k,none⟩) hbB (by simp) _
   rw[hW3]at hr3
   have HW3:=Lib.hid hW3
   have HR2:=Lib.hid hr2
   obtain⟨cc,hlk,hcc⟩:=hl3.look (z0,z1,z2,z3)
   have HCC:=Lib.hid hcc
   have x0:W3.cell? ⟨wr.heap.size,0,none⟩=some (.int .u8 (z0.toNat:Nat)):=by rw[cell_of_row W3 _ _ _ _ _ Ot];rfl
   have x1:W3.cell? ⟨wr.heap.size,1,none⟩=some (.int .u8 (z1.toNat:Nat)):=by rw[cell_of_row W3 _ _ _ _ _ Ot];rfl
   have x2:W3.cell? ⟨wr.heap.size,2,none⟩=some (.int .u8 (z2.toNat:Nat)):=by rw[cell_of_row W3 _ _ _ _ _ Ot];rfl
   have x3:W3.cell? ⟨wr.heap.size,3,none⟩=some (.int .u8 (z3.toNat:Nat)):=by rw[cell_of_row W3 _ _ _ _ _ Ot];rfl
   simp only[CW,vF]at hlk
   have HR3:=Lib.hid hr3
   have HL3:=Lib.hid hl3
   have HB3:=Lib.hid aia
   clear hW3 hr2 hl2 hbB hbx hcc hr3 hl3 aia
   go_upto_region 8 with fail
   rw[HW3.out]
   have hw32:IntKind.i32.wrap (k:Int)=(k:Int):=by
    have e1:IntKind.i32.min= -2147483648:=rfl
    have e2:IntKind.i32.max=2147483647:=rfl
    first | exact IntWalk.i32_in _ (by omega) | (unfold IntKind.wrap;simp;omega)
   have hg4:w.heap.size+1<W3.heap.size:=(Array.getElem?_eq_some_iff.1 HR3.out).1
   have hmb:w.heap.size<W3.heap.size:=by omega
   cases hs:seen l (z0,z1,z2,z3) k with
   | true=>
    rw[hs]at hlk
    have HCE:=Lib.hid (HCC.out hs)
    have c3:W3.cell? ⟨w.heap.size+1,k,none⟩=some (.int .i32 (-1)):=by
     rw[cell_of_row W3 _ _ _ _ _ HR3.out,List.getElem?_toArray,List.getElem?_set_self (by rw[List.length_append,y8,List.length_replicate];omega)]
    have f3:W3.frozen? ⟨w.heap.size+1,k,none⟩=false:=by simp[World.frozen?,HR3.out]
    obtain⟨W4,sJ⟩: ∃W4,W3.setCell ⟨w.heap.size+1,k,none⟩ (.int .i32 cc)=W4:=⟨_,rfl⟩
    have XL:=(show W4.heap[wr.heap.size]? =W3.heap[wr.heap.size]? from by rw[←sJ,ah _ _ _ _ (by simp;omega)]).trans Ot
    have y0:W4.cell? ⟨wr.heap.size,0,none⟩=some (.int .u8 (z0.toNat:Nat)):=by rw[cell_of_row W4 _ _ _ _ _ XL];rfl
    have y1':W4.cell? ⟨wr.heap.size,1,none⟩=some (.int .u8 (z1.toNat:Nat)):=by rw[cell_of_row W4 _ _ _ _ _ XL];rfl
    have y2':W4.cell? ⟨wr.heap.size,2,none⟩=some (.int .u8 (z2.toNat:Nat)):=by rw[cell_of_row W4 _ _ _ _ _ XL];rfl
    have y3':W4.cell? ⟨wr.heap.size,3,none⟩=some (.int .u8 (z3.toNat:Nat)):=by rw[cell_of_row W4 _ _ _ _ _ XL];rfl
    have HRW:Hid (W4.heap[w.heap.size+1]? =some (.cells (jL l (k+1)++List.replicate (n-(k+1)) (Value.int .i32 0)).toArray 21 (0,0))):=Lib.hid (by
     have h:=heap_set HR3.out k (.int .i32 cc)
     rw[sJ,List.set_set,Gt l n k hkl cc (by rw[HFO.out];exact HCE.out)]at h
     exact h)
    have HLW:Hid (iM W4 w.heap.size l k):=Lib.hid (HL3.out.keep (by rw[←sJ,ah _ _ _ _ (by simp)]))
    have fV:Hid (Below w.heap.size w W4):=Lib.hid (by rw[←sJ];exact Below.setCell (p:=⟨w.heap.size+1,k,none⟩) HB3.out (by simp) _)
    have WJ:=Lib.hid sJ
    clear sJ Ot XL hs hg4 hmb
    go_upto_region 11 with fail
    rw[WJ.out]
    obtain⟨w5,hmu,hl5,ht5⟩:=HLW.out.put (by omega)
    rw[HFO.out]at hmu
    simp only[CW,vF]at hmu
    have hg5:=ht5.grown
    have aeY:Hid (w5.heap[w.heap.size+1]? =some (.cells (jL l (k+1)++List.replicate (n-(k+1)) (Value.int .i32 0)).toArray 21 (0,0))):=Lib.hid ((hg5.block _ (Array.getElem?_eq_some_iff.1 HRW.out).1 (by simp)).trans HRW.out)
    have zk:Hid (Below w.heap.size w w5):=Lib.hid (below_grown fV.out hg5 fV.out.size (fun g e=>by injection e with e;omega))
    have HL5:=Lib.hid hl5
    clear hl5 ht5 hg5
    go_wp2_with fail
    exact⟨⟨k+1,by omega,by go_num,aeY,HL5,zk⟩,by simp[intOf];omega⟩
   | false=>
    rw[hs]at hlk
    have xA:Hid (-1=bC l (four l k) k):=Lib.hid (by
     have h1: ¬0≤bC l (z0,z1,z2,z3) k:=by simpa [seen]using hs
     rw[HFO.out]
     rcases kU l (z0,z1,z2,z3) k with h | h<;>omega)
    have HRW:Hid (W3.heap[w.heap.size+1]? =some (.cells (jL l (k+1)++List.replicate (n-(k+1)) (Value.int .i32 0)).toArray 21 (0,0))):=Lib.hid (by
     rw[←Gt l n k hkl (-1) xA.out];exact HR3.out)
    have HLW:=HL3
    have fV:=HB3
    clear Ot hs hg4 hmb
    obtain⟨w5,hmu,hl5,ht5⟩:=HLW.out.put (by omega)
    rw[HFO.out]at hmu
    simp only[CW,vF]at hmu
    have hg5:=ht5.grown
    have aeY:Hid (w5.heap[w.heap.size+1]? =some (.cells (jL l (k+1)++List.replicate (n-(k+1)) (Value.int .i32 0)).toArray 21 (0,0))):=Lib.hid ((hg5.block _ (Array.getElem?_eq_some_iff.1 HRW.out).1 (by simp)).trans HRW.out)
    have zk:Hid (Below w.heap.size w w5):=Lib.hid (below_grown fV.out hg5 fV.out.size (fun g e=>by injection e with e;omega))
    have HL5:=Lib.hid hl5
    clear hl5 ht5 hg5
    go_wp2_with fail
    exact⟨⟨k+1,by omega,by go_num,aeY,HL5,zk⟩,by simp[intOf];omega⟩
  ·obtain rfl:k=n:=by omega
   rw[Nat.sub_self,List.replicate_zero,List.append_nil]at HR
   clear nV HB1
   go_wp2_with fail
   go_ret
   exact⟨rfl,HR.out,HB.out⟩
end
section
open Go.RowKit Go.Maps
structure Ready(w:World)(F:Nat)(A:Option Addr)(c:Nat)(d:List UInt8)(dict nice:Int)(mp B:Nat):Prop where
 at_:dH w F A c d dict nice mp (.slice (some ⟨B,0,none⟩) (d.length-3) (d.length-3))
 pairs:bV w mp d (d.length-1)
 XM:w.heap[B]? =some (.cells (jL d (d.length-3)).toArray 21 (0,0))
theorem Ready.below{w w':World}{F:Nat}{A:Option Addr}{c:Nat}{d:List UInt8}{dict nice:Int}{mp B:Nat}(h:Ready w F A c d dict nice mp B)(hb:Below w.heap.size w w'):Ready w' F A c d dict nice mp B:=
 ⟨h.at_.below hb,h.pairs.below hb,(hb.block _ (Array.getElem?_eq_some_iff.1 h.XM).1).trans h.XM⟩
def XO(d:List UInt8)(dict nice:Int)(w:World)(e:Ending)(w':World):Prop:= ∃(Fp:Nat) (A:Option Addr) (c mp B:Nat),e= .returned (.tuple #[PF Fp,.int .i64 0])∧Ready w' Fp A c d dict nice mp B∧Below w.heap.size w w'
theorem abJ(A:Option Addr)(d:List UInt8)(c:Nat)(dict nice:Int)(w:World)(hB:Bytes w A d)(hc:d.length≤c)(hl:d.length≤100000)(h1: ¬dict<1)(h2: ¬nice<2)(h3: ¬273<nice):
  Calls Tryz.prog 40 #[.slice A d.length c,.int .i64 dict,.int .i64 nice] w (XO d dict nice w):=by
 have hci:(d.length:Int)≤(c:Int):=by omega
 have Fb:(d.length:Int)≤100000:=by omega
 have HCL:=Lib.hid (clone_any A d c w hB hc hl)
 have HL:=Lib.hid hl
 clear hB hc hl
 go_enter Tryz.func40,Tryz.ntmps40
 go_wp2_with fail
 refine HCL.out.mono ?_
 rintro e w1 ⟨v,rfl,hown,hb1⟩
 obtain⟨A',c',rfl,hc',hcm,hB'⟩:=hown.read
 have HB1:=Lib.hid hb1
 have E5:=Lib.hid hB'
 have HC':=Lib.hid hc'
 obtain⟨W2,hW2⟩: ∃W2,w1.alloc (.cells #[.slice A' d.length c',.int .i64 dict,.int .i64 nice,.map none,.slice none 0 0] 113)=W2:=⟨_,rfl⟩
 have hrow2:W2.heap[w1.heap.size]? =some (.cells [.slice A' d.length c',.int .i64 dict,.int .i64 nice,.map none,.slice none 0 0].toArray 113 (0,0)):=by rw[←hW2];exact heap_alloc_last _ _
 have hb2:Below w1.heap.size w1 W2:=by rw[←hW2];exact(Below.refl _ _).alloc (Nat.le_refl _) _
 have ar0:(d.length:Int)≤(c':Int):=by omega
 have HPP:=Lib.hid (Dh A' d c' (d.length-1) W2 (hB'.below hb2) hc' HL.out rfl)
 have HW2:=Lib.hid hW2
 have adC:=Lib.hid hrow2
 have HB2:=Lib.hid hb2
 have f20:W2.cell? ⟨w1.heap.size,0,none⟩=some (.slice A' d.length c'):=by rw[cell_of_row W2 _ _ _ _ _ hrow2];rfl
 clear hown hb1 hB' hc' hcm hW2 hrow2 hb2
 go_wp2_with fail
 rw[HW2.out]
 have hlt2:Hid (w1.heap.size<W2.heap.size):=Lib.hid (Array.getElem?_eq_some_iff.1 adC.out).1
 clear f20
 refine HPP.out.mono ?_
 rintro e W3 ⟨rfl,hpr,hb3⟩
 have hrow3:=(hb3.block _ hlt2.out).trans adC.out
 have f30:W3.frozen? ⟨w1.heap.size,3,none⟩=false:=frozen_of_row _ _ _ _ _ hrow3
 obtain⟨W4,sJ⟩: ∃W4,W3.setCell ⟨w1.heap.size,3,none⟩ (.map (some W2.heap.size))=W4:=⟨_,rfl⟩
 have hrow4:=heap_set hrow3 3 (.map (some W2.heap.size))
 rw[sJ]at hrow4
 have aeZ:bV W4 W2.heap.size d (d.length-1):=by rw[←sJ];exact hpr.set _ _ hlt2.out
 have hb4:Below w1.heap.size w1 W4:=by rw[←sJ];exact(HB2.out.trans (hb3.mono (Nat.le_of_lt hlt2.out))).setCell (p:=⟨w1.heap.size,3,none⟩) (Nat.le_refl _) _
 have f40:W4.cell? ⟨w1.heap.size,0,none⟩=some (.slice A' d.length c'):=by rw[cell_of_row W4 _ _ _ _ _ hrow4];rfl
 have f3d:W3.cell? ⟨w1.heap.size,3,none⟩=some (.map none):=by rw[cell_of_row W3 _ _ _ _ _ hrow3];rfl
 have f3c:W3.cell? ⟨w1.heap.size,0,none⟩=some (.slice A' d.length c'):=by rw[cell_of_row W3 _ _ _ _ _ hrow3];rfl
 have HSF:=Lib.hid (IE A' d c' (d.length-3) W4 (E5.out.below hb4) HC'.out HL.out rfl)
 have WJ:=Lib.hid sJ
 have adD:=Lib.hid hrow4
 have HB4:=Lib.hid hb4
 have amh:=Lib.hid aeZ
 have h24:Hid (W2.heap.size<W4.heap.size):=Lib.hid aeZ.lt
 clear sJ hrow4 hb4 aeZ hrow3 hpr hb3
 go_wp2_with fail
 rw[WJ.out]
 refine HSF.out.mono ?_
 rintro e W5 ⟨rfl,hfr,hb5⟩
 have hlt4:w1.heap.size<W4.heap.size:=(Array.getElem?_eq_some_iff.1 adD.out).1
 have Di:=(hb5.block _ hlt4).trans adD.out
 have f50:W5.frozen? ⟨w1.heap.size,4,none⟩=false:=frozen_of_row _ _ _ _ _ Di
 have f5d:W5.cell? ⟨w1.heap.size,4,none⟩=some (.slice none 0 0):=by rw[cell_of_row W5 _ _ _ _ _ Di];rfl
 obtain⟨W6,hW6⟩: ∃W6,W5.setCell ⟨w1.heap.size,4,none⟩ (.slice (some ⟨W4.heap.size+1,0,none⟩) (d.length-3:Nat) (d.length-3:Nat))=W6:=⟨_,rfl⟩
 have XP:=heap_set Di 4 (.slice (some ⟨W4.heap.size+1,0,none⟩) (d.length-3:Nat) (d.length-3:Nat))
 rw[hW6]at XP
 have hb6:Below w1.heap.size w1 W6:=by rw[←hW6];exact(HB4.out.trans (hb5.mono (Nat.le_of_lt hlt4))).setCell (p:=⟨w1.heap.size,4,none⟩) (Nat.le_refl _) _
 have hR:Ready W6 w1.heap.size A' c' d dict nice W2.heap.size (W4.heap.size+1):=by
  refine⟨⟨XP,E5.out.below hb6,HC'.out,HL.out⟩,?_,?_⟩
  ·rw[←hW6];exact(amh.out.below hb5).set _ _ hlt2.out
  ·rw[←hW6];exact(ah _ _ _ _ (by show W4.heap.size+1≠w1.heap.size;omega)).trans hfr
 have HR:=Lib.hid hR
 have HW6:=Lib.hid hW6
 have Gv:Hid (Below w.heap.size w W6):=Lib.hid (HB1.out.trans (hb6.mono HB1.out.size))
 clear hW6 XP hb6 hR Di hfr hb5
 go_wp2_with fail
 rw[HW6.out]
 go_ret2
 exact⟨_,_,_,_,_,rfl,HR.out,Gv.out⟩
end
def qY(d:List UInt8)(dict nice place most:Int):Nat×Nat:=if 0≤place∧place<(d.length:Int)then CP d dict nice place.toNat most else(0,0)
def XQ(r:Nat×Nat)(w:World)(e:Ending)(w':World):Prop:=e= .returned (.tuple #[.int .i64 (r.1:Nat),.int .i64 (r.2:Nat)])∧Below w.heap.size w w'
theorem aic{F:Nat}{A:Option Addr}{c:Nat}{d:List UInt8}{dict nice:Int}{mp B:Nat}{place lm:Nat}{w:World}(hR:Ready w F A c d dict nice mp B)(h4:4≤lm)(hl:place+lm≤d.length){b1 b2:Nat}{W:World}(hb:Below w.heap.size w W)(hx1:aI b1 W (PF F))(hx2:aI b2 W (.int .i64 (place:Nat))):
  Calls Tryz.prog 199 #[PF F,.int .i64 (place:Nat),.int .i64 (lm:Nat),.func (.func 219) #[] #[PF b1,PF b2]] W (Dc d place lm dict (chain d (four d place) place) W):=by
 have hW:=hR.below hb
 exact zX F A c d dict nice mp _ place lm _ _ _ W hW.at_ hl (by omega) (fun x hx=>(mM.1 hx).1) (sF _ _ _) (enters_of Tryz.func219 (by kernel_rfl) rfl)
  (XF Fence.wide 3 trivial rfl (by decide) F A c d dict nice mp B (d.length-3) b1 b2 place W hW.at_ hW.XM hx1 hx2 (by omega) (by omega))
theorem adE{F:Nat}{A:Option Addr}{c:Nat}{d:List UInt8}{dict nice:Int}{mp B:Nat}{place lm:Nat}{w:World}(hR:Ready w F A c d dict nice mp B)(h2:2≤lm)(hl:place+lm≤d.length){e:Ending}{W W0:World}(hb:Below w.heap.size w W0)
  (hP:KH (places d (d.getD place 0) (d.getD (place+1) 0) (d.length-1)) place W0 e W):
  ∃(b1 b2:Nat) (L2:List Nat),e= .returned (.func (.func 221) #[] #[PF b1,PF b2])∧Below w.heap.size w W∧(∀z,z∈L2↔z<place∧d.getD z 0=d.getD place 0∧d.getD (z+1) 0=d.getD (place+1) 0)∧
   Calls Tryz.prog 199 #[PF F,.int .i64 (place:Nat),.int .i64 (lm:Nat),.func (.func 221) #[] #[PF b1,PF b2]] W (Dc d place lm dict L2 W):=by
 obtain⟨b1,b2,A2,c2,h,rfl,hx1,hx2,hrd,hc2,hh,hlo,hhi,hb2⟩:=hP
 obtain⟨hm,hf⟩:=SX (place:=place) rfl rfl (by omega) hh hlo hhi
 have hbW:Below w.heap.size w W:=hb.trans (hb2.mono hb.size)
 have hW:=hR.below hbW
 have hlen:=vY d (d.getD place 0) (d.getD (place+1) 0) (d.length-1)
 have hsm:=hR.at_.small
 refine⟨b1,b2,_,rfl,hbW,hm,?_⟩
 exact zX F A c d dict nice mp _ place lm _ _ _ W hW.at_ hl (by omega) (fun x hx=>((hm x).1 hx).1) hf (enters_of Tryz.func221 (by kernel_rfl) rfl)
  (XG Fence.wide 3 trivial rfl (by decide) A2 c2 _ b1 b2 h W hrd hc2 (by omega) (fun x hx=>by have:=(mem_places.1 hx).1;omega) hx1 hx2 hh)
theorem XR(F:Nat)(A:Option Addr)(c:Nat)(d:List UInt8)(dict nice:Int)(mp B:Nat)(place most:Int)(w:World)(hR:Ready w F A c d dict nice mp B):
  Calls Tryz.prog 160 #[PF F,.int .i64 place,.int .i64 most] w (XQ (qY d dict nice place most) w):=by
 have HH:=Lib.hid (QU F A c d dict nice mp _ place w hR.at_)
 have Fb:(d.length:Int)≤100000:=by have:=hR.at_.small;omega
 unfold qY
 by_cases h1:0≤place∧place<(d.length:Int)
 case neg=>
  have hh:hasB d place=false:=by
   unfold hasB
   cases h:(decide (0≤place)&&decide (place<(d.length:Int)))with
   | false=>rfl
   | true=>simp at h;exact absurd h h1
  rw[hh]at HH
  rw[if_neg h1]
  clear h1 hh hR
  go_enter Tryz.func160,Tryz.ntmps160
  go_wp2_with fail
  refine HH.out.mono ?_
  rintro e w1 ⟨rfl,rfl⟩
  go_wp2_with fail
  go_ret2
  exact⟨rfl,Below.refl _ _⟩
 have hh:hasB d place=true:=by unfold hasB;simp[h1.1,h1.2]
 rw[hh]at HH
 rw[if_pos h1]
 obtain⟨p,rfl⟩: ∃p:Nat,place=(p:Int):=⟨place.toNat,by omega⟩
 simp only[Int.toNat_natCast]
 have hpi:(p:Int)≤100000:=by omega
 have hp2:(p:Int)<(d.length:Int):=h1.2
 obtain⟨X,hX⟩: ∃X:Int,(d.length:Int)-(p:Int)=X:=⟨_,rfl⟩
 obtain⟨M,hM⟩: ∃M:Int,min (min nice most) X=M:=⟨_,rfl⟩
 obtain⟨R,hRd⟩: ∃R,CP d dict nice p most=R:=⟨_,rfl⟩
 rw[hRd]
 have VA:Hid (R=if(eY (xI d p M.toNat) (depth p dict)).1<2 then(0,0)else eY (xI d p M.toNat) (depth p dict)):=Lib.hid (by
  rw[←hRd]
  unfold CP
  have e:lim d p (min nice most)=M.toNat:=by unfold lim;rw[hX,hM]
  rw[e];rfl)
 obtain⟨f0,_,f2,_,_⟩:=hR.at_.cells
 have hM0:M≤(d.length:Int)-(p:Int):=by omega
 have HR:=Lib.hid hR
 have hXw:IntKind.i64.wrap X=X:=IntWalk.i64_in _ (by omega)
 have hcase:(M=nice∧ ¬most<nice∧ ¬X<nice)∨(M=most∧most<nice∧ ¬X<most)∨(M=X∧most<nice∧X<most)∨(M=X∧ ¬most<nice∧X<nice):=by omega
 have HMX:Hid (M≤(d.length:Int)-(p:Int)):=Lib.hid hM0
 clear h1 hh hR hM hM0 hRd
 by_cases hM2:M<2
 ·have hz:Hid ((eY (xI d p M.toNat) (depth p dict)).1<2):=Lib.hid (by
   rcases(mG (xI d p M.toNat) (depth p dict)).at_ with⟨e,_⟩ | ⟨_,_,e,_⟩
   ·omega
   ·have h1:=kZ d p (p-(eY (xI d p M.toNat) (depth p dict)).2) M.toNat
    have e2:aX d p (p-(eY (xI d p M.toNat) (depth p dict)).2) M.toNat=(eY (xI d p M.toNat) (depth p dict)).1:=e
    omega)
  have HRZ:Hid (R=(0,0)):=Lib.hid (by rw[VA.out,if_pos hz.out])
  clear VA hz
  have b2:decide (M<2)=true:=decide_eq_true hM2
  rcases hcase with⟨rfl,a1,a2⟩ | ⟨rfl,a1,a2⟩ | ⟨rfl,a1,a2⟩ | ⟨rfl,a1,a2⟩
  all_goals
   go_enter Tryz.func160,Tryz.ntmps160
   go_wp2_with fail
   refine HH.out.mono ?_
   rintro e w1 ⟨rfl,rfl⟩
   go_wp2_with fail
   go_quiet (fail)
   go_wp2_with fail
   go_ret2
   rw[HRZ.out]
   exact⟨rfl,below_drewN (Below.refl _ _) _⟩
 ·obtain⟨lm,rfl⟩: ∃lm:Nat,M=(lm:Int):=⟨M.toNat,by omega⟩
  simp only[Int.toNat_natCast]at VA
  have b2:decide ((lm:Int)<2)=false:=decide_eq_false hM2
  have hlm:Hid (2≤lm∧p+lm≤d.length):=Lib.hid (by have:=HMX.out;omega)
  have hp3:Hid (p+1<d.length):=Lib.hid (by have:=hlm.out;omega)
  by_cases hM4:4≤lm
  ·have b4:decide ((4:Int)≤(lm:Int))=true:=decide_eq_true (by omega)
   have b4':(4:Int)≤(lm:Int):=by omega
   have H4:=Lib.hid hM4
   clear hM2 hM4
   rcases hcase with⟨rfl,a1,a2⟩ | ⟨rfl,a1,a2⟩ | ⟨rfl,a1,a2⟩ | ⟨rfl,a1,a2⟩
   all_goals
    go_enter Tryz.func160,Tryz.ntmps160
    go_wp2_with fail
    refine HH.out.mono ?_
    rintro e w1 ⟨rfl,rfl⟩
    go_wp2_with fail
    go_quiet (fail)
    go_wp2_with fail
    refine(CZ F p _).mono ?_
    rintro e w1 ⟨b1,b2,rfl,hx1,hx2,_,_,hb1⟩
    have hbw:=(below_drewN (Below.refl w.heap.size w) _).trans hb1
    have HB1:=Lib.hid hbw
    have CJ:=Lib.hid (aic HR.out H4.out hlm.out.2 hbw hx1 hx2)
    clear hx1 hx2 hb1 hbw
    go_wp2_with fail
    refine CJ.out.mono ?_
    rintro e w2 ⟨n,k,rfl,adF,hb2⟩
    have HBE:=Lib.hid adF
    have HB2:=Lib.hid (HB1.out.trans (hb2.mono HB1.out.size))
    clear adF hb2
    by_cases hn4:4≤n
    ·have xJ:Hid ((if(eY (xI d p lm) (depth p dict)).1<2 then(0,0)else eY (xI d p lm) (depth p dict))=(n,k)):=Lib.hid (by
      have e:=SQ HBE.out hn4
      rw[←e,if_neg (by show ¬n<2;omega)])
     have b5:decide ((4:Int)≤(n:Int))=true:=decide_eq_true (by omega)
     have b5':(4:Int)≤(n:Int):=by omega
     clear hn4
     go_wp2_with fail
     go_ret2
     rw[VA.out,xJ.out]
     exact⟨rfl,HB2.out⟩
    ·have HNF:=Lib.hid (abH HBE.out (by omega))
     have b5:decide ((4:Int)≤(n:Int))=false:=decide_eq_false (by omega)
     have b5': ¬(4:Int)≤(n:Int):=by omega
     clear hn4
     go_wp2_with fail
     refine(sH F A c d dict _ mp _ p _ (HR.out.below HB2.out).at_ (HR.out.below HB2.out).pairs hp3.out).mono ?_
     rintro e w3 hpd
     obtain⟨c1,c2,L2,rfl,hb3,hmem,hlong⟩:=adE (lm:=3) HR.out (by decide) (by have:=hlm.out;have:=H4.out;omega) HB2.out hpd
     have HB3:=Lib.hid hb3
     have HME:=Lib.hid hmem
     have HLO:=Lib.hid hlong
     clear hpd hb3 hmem hlong
     go_wp2_with fail
     refine HLO.out.mono ?_
     rintro e w4 ⟨n2,k2,rfl,Dj,hb4⟩
     have HB4:Hid (Below w.heap.size w w4):=Lib.hid (HB3.out.trans (hb4.mono HB3.out.size))
     have xJ:=Lib.hid (Gu HME.out (by decide) (by have:=H4.out;omega) HNF.out Dj)
     clear Dj hb4
     go_wp2_with fail
     go_ret2
     rw[VA.out,←xJ.out]
     exact⟨rfl,HB4.out⟩
  ·have b4:decide ((4:Int)≤(lm:Int))=false:=decide_eq_false (by omega)
   have b4': ¬(4:Int)≤(lm:Int):=by omega
   clear hM2 hM4
   rcases hcase with⟨rfl,a1,a2⟩ | ⟨rfl,a1,a2⟩ | ⟨rfl,a1,a2⟩ | ⟨rfl,a1,a2⟩
   all_goals
    go_enter Tryz.func160,Tryz.ntmps160
    go_wp2_with fail
    refine HH.out.mono ?_
    rintro e w1 ⟨rfl,rfl⟩
    go_wp2_with fail
    go_quiet (fail)
    go_wp2_with fail
    have HBQ: ∀m,Hid (Below w.heap.size w (w.drewN m)):=fun m=>Lib.hid (below_drewN (Below.refl _ _) m)
    refine(sH F A c d dict _ mp _ p _ (HR.out.below (HBQ _).out).at_ (HR.out.below (HBQ _).out).pairs hp3.out).mono ?_
    rintro e w3 hpd
    obtain⟨c1,c2,L2,rfl,hb3,hmem,hlong⟩:=adE (lm:=lm) HR.out hlm.out.1 hlm.out.2 (HBQ _).out hpd
    have HB3:=Lib.hid hb3
    have HME:=Lib.hid hmem
    have HLO:=Lib.hid hlong
    clear hpd hb3 hmem hlong
    go_wp2_with fail
    refine HLO.out.mono ?_
    rintro e w4 ⟨n2,k2,rfl,Dj,hb4⟩
    have HB4:Hid (Below w.heap.size w w4):=Lib.hid (HB3.out.trans (hb4.mono HB3.out.size))
    have xJ:=Lib.hid (Gu HME.out hlm.out.1 (Nat.le_refl _) (fun j _ _=>kZ _ _ _ _) Dj)
    clear Dj hb4
    go_wp2_with fail
    go_ret2
    rw[VA.out,←xJ.out]
    exact⟨rfl,HB4.out⟩
end Go.Proofs.YtgfpocdiojifoaaGreatDoor
