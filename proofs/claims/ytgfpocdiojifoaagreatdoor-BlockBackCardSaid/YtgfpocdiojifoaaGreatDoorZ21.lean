import Derived.Test.YtgfpocdiojifoaaGreatDoorZ20
import Derived.Deep.CutBlock
import Derived.Deep.DeepCutAuto
import Derived.Maps.AppendAt
namespace Go.Proofs.YtgfpocdiojifoaaGreatDoor
set_option maxRecDepth 100000
set_option maxHeartbeats 8000000
open Go.RowKit
def jW(D:List UInt8)(dict nice:Int)(p:Nat)(left a b c d:Int):Sy:=
 let rep:=ig D dict (p:Int) left a b c d
 let m:=qY D dict nice (p:Int) left
 if 2≤rep.1∧m.1≤rep.1+1 then⟨2,0,rep.1,0,rep.2⟩
 else if 3≤m.1∨(0<m.1∧m.2≤128)then⟨1,0,m.1,m.2,0⟩
 else if 1≤fQ D dict (p:Int) a left then⟨2,0,1,0,0⟩
 else⟨0,D.getD p 0,0,0,0⟩
def Dl(s:Sy)(w:World)(e:Ending)(w':World):Prop:=e= .returned s.val∧Below w.heap.size w w'
theorem Td(D:List UInt8)(dict place dist most:Int):fQ D dict place dist most≤273:=by
 unfold fQ
 split
 ·have:=kZ D place.toNat (place.toNat-dist.toNat) (lim D place.toNat (min 273 most))
  have h:lim D place.toNat (min 273 most)≤273:=by unfold lim;omega
  omega
 ·omega
theorem Dn{g:Nat→Nat}{M:Nat}(h: ∀i,g i≤M): ∀n,(firstTo g n).1≤M∧(firstTo g n).2≤n
 | 0=>⟨Nat.zero_le _,Nat.zero_le _⟩
 | n+1=>by
  unfold firstTo
  have ih:=Dn h n
  split
  ·exact⟨h n,Nat.le_succ _⟩
  ·exact⟨ih.1,by omega⟩
theorem Dp(D:List UInt8)(dict place left a b c d:Int):(ig D dict place left a b c d).1≤273∧(ig D dict place left a b c d).2≤4:=Dn (fun _=>Td _ _ _ _ _) 4
theorem KJ{B g:Nat}{w W:World}{v0 v1 v2 v3 v4:Value}(h:Below B w W)(hg:B≤g):Below B w (((((W.setCell ⟨g,0,none⟩ v0).setCell ⟨g,1,none⟩ v1).setCell ⟨g,2,none⟩ v2).setCell ⟨g,3,none⟩ v3).setCell ⟨g,4,none⟩ v4):=
 ((((h.setCell (p:=⟨g,0,none⟩) hg _).setCell (p:=⟨g,1,none⟩) hg _).setCell (p:=⟨g,2,none⟩) hg _).setCell (p:=⟨g,3,none⟩) hg _).setCell (p:=⟨g,4,none⟩) hg _
theorem IG(b1 b2 b3 b4:Nat)(F:Nat)(A DA:Option Addr)(cF cd:Nat)(D:List UInt8)(dict nice:Int)(mp B:Nat)(p tt:Nat)(a b c d:Int)(w:World)
  (hR:Ready w F A cF D dict nice mp B) (hD:Bytes w DA D) (hcd:D.length≤cd) (h1:aI b1 w (.int .i64 (tt:Nat))) (h2:aI b2 w (PF F)) (h3:w.heap[b3]? =some (.cells [.int .i64 a,.int .i64 b,.int .i64 c,.int .i64 d].toArray 127 (0,0))) (h4:aI b4 w (.slice DA D.length cd))
  (hp:p<tt) (hto:tt≤D.length):
  Calls Tryz.prog 158 #[.int .i64 (p:Nat),PF b1,PF b2,PF b3,PF b4] w (Dl (jW D dict nice p ((tt:Int)-(p:Int)) a b c d) w):=by
 have hsm:=hR.at_.small
 obtain⟨X,hX⟩: ∃X:Int,(tt:Int)-(p:Int)=X:=⟨_,rfl⟩
 rw[hX]
 have HC:=Lib.hid (fun(W:World) (hb:Below w.heap.size w W)=>(show W.cell? ⟨b1,0,none⟩=some (.int .i64 (tt:Nat))∧W.cell? ⟨b2,0,none⟩=some (PF F)∧(W.cell? ⟨b3,0,none⟩=some (.int .i64 a)∧W.cell? ⟨b3,1,none⟩=some (.int .i64 b)∧W.cell? ⟨b3,2,none⟩=some (.int .i64 c)∧W.cell? ⟨b3,3,none⟩=some (.int .i64 d))∧W.cell? ⟨b4,0,none⟩=some (.slice DA D.length cd)from by
  have l3:b3<w.heap.size:=(Array.getElem?_eq_some_iff.1 h3).1
  have e3:=(hb.block _ l3).trans h3
  refine⟨(h1.keep (hb.block _ h1.lt)).cell,(h2.keep (hb.block _ h2.lt)).cell,⟨?_,?_,?_,?_⟩,(h4.keep (hb.block _ h4.lt)).cell⟩<;>(rw[cell_of_row W _ _ _ _ _ e3];rfl)))
 have HRB:=Lib.hid (fun(W:World) (hb:Below w.heap.size w W)=>(hR.below hb))
 have HDB:=Lib.hid (fun(W:World) (hb:Below w.heap.size w W)=>(hD.below hb).addr (by omega))
 have hcc:(D.length:Int)≤(cd:Int):=by omega
 have hXw:IntKind.i64.wrap X=X:=IntWalk.i64_in _ (by omega)
 have hpi:(p:Int)<(D.length:Int):=by omega
 have hpl:(p:Int)≤100000:=by omega
 have HS:Hid (∀s,s=jW D dict nice p X a b c d→s=let rep:=ig D dict (p:Int) X a b c d
   let m:=qY D dict nice (p:Int) X
   if 2≤rep.1∧m.1≤rep.1+1 then⟨2,0,rep.1,0,rep.2⟩
   else if 3≤m.1∨(0<m.1∧m.2≤128)then⟨1,0,m.1,m.2,0⟩
   else if 1≤fQ D dict (p:Int) a X then⟨2,0,1,0,0⟩
   else⟨0,D.getD p 0,0,0,0⟩):=Lib.hid (fun s h=>h)
 obtain⟨S,hS⟩: ∃S,jW D dict nice p X a b c d=S:=⟨_,rfl⟩
 rw[hS]
 have HS2:=Lib.hid (HS.out S hS.symm)
 clear HS hS
 have hrl:=Dp D dict (p:Int) X a b c d
 obtain⟨⟨rn,rw_⟩,hr⟩: ∃r,ig D dict (p:Int) X a b c d=r:=⟨_,rfl⟩
 obtain⟨⟨mn,mk⟩,hm⟩: ∃r,qY D dict nice (p:Int) X=r:=⟨_,rfl⟩
 obtain⟨bk,hbk⟩: ∃r,fQ D dict (p:Int) a X=r:=⟨_,rfl⟩
 rw[hr,hm,hbk]at HS2
 rw[hr]at hrl
 simp only at HS2 hrl
 have ar8:(rn:Int)≤273:=by omega
 have HR:=Lib.hid hr
 have HM:=Lib.hid hm
 have EU:=Lib.hid hbk
 clear hR hD hcd h1 h2 h3 h4 hr hm hbk hsm
 go_enter Tryz.func158,Tryz.ntmps158
 go_upto_region 1 with fail
 obtain⟨W1,hW1⟩: ∃W1,w.alloc (.cells #[.int .i64 0,.int .u8 0,.int .i64 0,.int .i64 0,.int .i64 0] 158)=W1:=⟨_,rfl⟩
 rw[hW1]
 have hb1:Below w.heap.size w W1:=by rw[←hW1];exact(Below.refl _ _).alloc (Nat.le_refl _) _
 have hz:W1.heap[w.heap.size]? =some (.cells [.int .i64 0,.int .u8 0,.int .i64 0,.int .i64 0,.int .i64 0].toArray 158 (0,0)):=by rw[←hW1];exact heap_alloc_last _ _
 have hlt:w.heap.size<W1.heap.size:=(Array.getElem?_eq_some_iff.1 hz).1
 have HB1:=Lib.hid hb1
 have Fa:=Lib.hid hlt
 have HZ:=Lib.hid (fun(W:World) (hb:Below W1.heap.size W1 W)=>(show(W.cell? ⟨w.heap.size,0,none⟩=some (.int .i64 0)∧W.cell? ⟨w.heap.size,1,none⟩=some (.int .u8 0)∧W.cell? ⟨w.heap.size,2,none⟩=some (.int .i64 0)∧W.cell? ⟨w.heap.size,3,none⟩=some (.int .i64 0)∧W.cell? ⟨w.heap.size,4,none⟩=some (.int .i64 0))∧
   (∀i,W.frozen? ⟨w.heap.size,i,none⟩=false)from by
  have e:=(hb.block _ hlt).trans hz
  refine⟨⟨?_,?_,?_,?_,?_⟩,fun i=>frozen_of_row _ _ _ _ _ e⟩<;>(rw[cell_of_row W _ _ _ _ _ e];rfl)))
 obtain⟨cA,cB,⟨cC0,cC1,cC2,cC3⟩,cD⟩:=HC.out W1 hb1
 clear hW1 hb1 hz hlt
 go_wp2_with fail
 refine(Dk F A cF D dict nice mp _ (p:Int) X a b c d W1 (HRB.out W1 HB1.out).at_).mono ?_
 rintro e w2 ⟨rfl,hb2⟩
 rw[HR.out]
 have HB2:=Lib.hid (HB1.out.trans (hb2.mono HB1.out.size))
 have abM:=Lib.hid hb2
 obtain⟨cA,cB,⟨cC0,cC1,cC2,cC3⟩,cD⟩:=HC.out w2 HB2.out
 clear hb2
 go_wp2_with fail
 refine(XR F A cF D dict nice mp B (p:Int) X w2 (HRB.out w2 HB2.out)).mono ?_
 rintro e w3 ⟨rfl,hb3⟩
 rw[HM.out]
 have HB3:=Lib.hid (HB2.out.trans (hb3.mono HB2.out.size))
 have amk:=Lib.hid (abM.out.trans (hb3.mono abM.out.size))
 obtain⟨cA,cB,⟨cC0,cC1,cC2,cC3⟩,cD⟩:=HC.out w3 HB3.out
 clear hb3
 go_upto_region 5 with fail
 obtain⟨⟨z0,z1,z2,z3,z4⟩,zf⟩:=HZ.out w3 amk.out
 have f0:=zf 0
 have f1:=zf 1
 have f2:=zf 2
 have f3:=zf 3
 have f4:=zf 4
 clear zf
 by_cases hc1:2≤rn∧mn≤rn+1
 ·have CB:Hid (S=⟨2,0,rn,0,rw_⟩):=Lib.hid (by rw[HS2.out,if_pos hc1])
  have g1:decide ((2:Int)≤(rn:Int))=true:=decide_eq_true (by omega)
  have g1':(2:Int)≤(rn:Int):=by omega
  have g2:(mn:Int)≤(rn:Int)+1:=by omega
  clear hc1
  go_wp2_with fail
  refine bodyPost_ret (v:=S.val) (by rw[CB.out];simp[results,Tryz.results158,go_sem,Sy.val,z0,z1,z2,z3,z4]) rfl ⟨rfl,KJ HB3.out (Nat.le_refl _)⟩
 ·by_cases hc2:3≤mn∨(0<mn∧mk≤128)
  ·have hs:(2≤rn∧ ¬mn≤rn+1∧3≤mn)∨(¬2≤rn∧3≤mn)∨(¬2≤rn∧ ¬3≤mn∧0<mn∧mk≤128):=by omega
   rcases hs with⟨g1,g2,g3⟩ | ⟨g1,g3⟩ | ⟨g1,g3,g4,g5⟩
   ·have i1:(2:Int)≤(rn:Int):=by omega
    have i2: ¬(mn:Int)≤(rn:Int)+1:=by omega
    have i3:(3:Int)≤(mn:Int):=by omega
    have CB:Hid (S=⟨1,0,mn,mk,0⟩):=Lib.hid (by rw[HS2.out,if_neg hc1,if_pos hc2])
    clear hc1 hc2
    go_wp2_with fail
    refine bodyPost_ret (v:=S.val) (by rw[CB.out];simp[results,Tryz.results158,go_sem,Sy.val,z0,z1,z2,z3,z4]) rfl ⟨rfl,KJ HB3.out (Nat.le_refl _)⟩
   ·have i1: ¬(2:Int)≤(rn:Int):=by omega
    have i3:(3:Int)≤(mn:Int):=by omega
    have CB:Hid (S=⟨1,0,mn,mk,0⟩):=Lib.hid (by rw[HS2.out,if_neg hc1,if_pos hc2])
    clear hc1 hc2
    go_wp2_with fail
    refine bodyPost_ret (v:=S.val) (by rw[CB.out];simp[results,Tryz.results158,go_sem,Sy.val,z0,z1,z2,z3,z4]) rfl ⟨rfl,KJ HB3.out (Nat.le_refl _)⟩
   ·have i1: ¬(2:Int)≤(rn:Int):=by omega
    have i3: ¬(3:Int)≤(mn:Int):=by omega
    have i4:(0:Int)<(mn:Int):=by omega
    have i5:(mk:Int)≤128:=by omega
    have CB:Hid (S=⟨1,0,mn,mk,0⟩):=Lib.hid (by rw[HS2.out,if_neg hc1,if_pos hc2])
    clear hc1 hc2
    go_wp2_with fail
    refine bodyPost_ret (v:=S.val) (by rw[CB.out];simp[results,Tryz.results158,go_sem,Sy.val,z0,z1,z2,z3,z4]) rfl ⟨rfl,KJ HB3.out (Nat.le_refl _)⟩
  ·have hs:(¬2≤rn∧ ¬3≤mn∧ ¬0<mn)∨(¬2≤rn∧ ¬3≤mn∧0<mn∧ ¬mk≤128):=by omega
   rcases hs with⟨g1,g3,g4⟩ | ⟨g1,g3,g4,g5⟩
   ·have i1: ¬(2:Int)≤(rn:Int):=by omega
    have i3: ¬(3:Int)≤(mn:Int):=by omega
    have i4: ¬(0:Int)<(mn:Int):=by omega
    go_wp2_with fail
    refine(CU F A cF D dict nice mp _ (p:Int) a X w3 (HRB.out w3 HB3.out).at_).mono ?_
    rintro e w4 ⟨rfl,m4,rfl⟩
    rw[EU.out]
    by_cases hk:1≤bk
    ·have CB:Hid (S=⟨2,0,1,0,0⟩):=Lib.hid (by rw[HS2.out,if_neg hc1,if_neg hc2,if_pos hk])
     have g5:(1:Int)≤(bk:Int):=by omega
     clear hk hc1 hc2
     go_wp2_with fail
     refine bodyPost_ret (v:=S.val) (by rw[CB.out];simp[results,Tryz.results158,go_sem,Sy.val,z0,z1,z2,z3,z4]) rfl ⟨rfl,KJ (below_drewN HB3.out _) (Nat.le_refl _)⟩
    ·have CB:Hid (S=⟨0,D.getD p 0,0,0,0⟩):=Lib.hid (by rw[HS2.out,if_neg hc1,if_neg hc2,if_neg hk])
     have g5: ¬(1:Int)≤(bk:Int):=by omega
     obtain⟨g,off,rfl,_,hat⟩:=HDB.out w3 HB3.out
     have cp:=hat p (by omega)
     have e1:=dQ (d:=D) (i:=p) (by omega)
     rw[←e1]at cp
     generalize D.getD p 0=u at*
     clear hk hc1 hc2 hat e1
     go_wp2_with fail
     refine bodyPost_ret (v:=S.val) (by rw[CB.out];simp[results,Tryz.results158,go_sem,Sy.val,z0,z1,z2,z3,z4]) rfl ⟨rfl,KJ (below_drewN HB3.out _) (Nat.le_refl _)⟩
   ·have i1: ¬(2:Int)≤(rn:Int):=by omega
    have i3: ¬(3:Int)≤(mn:Int):=by omega
    have i4:(0:Int)<(mn:Int):=by omega
    have i5: ¬(mk:Int)≤128:=by omega
    go_wp2_with fail
    refine(CU F A cF D dict nice mp _ (p:Int) a X w3 (HRB.out w3 HB3.out).at_).mono ?_
    rintro e w4 ⟨rfl,m4,rfl⟩
    rw[EU.out]
    by_cases hk:1≤bk
    ·have CB:Hid (S=⟨2,0,1,0,0⟩):=Lib.hid (by rw[HS2.out,if_neg hc1,if_neg hc2,if_pos hk])
     have g5:(1:Int)≤(bk:Int):=by omega
     clear hk hc1 hc2
     go_wp2_with fail
     refine bodyPost_ret (v:=S.val) (by rw[CB.out];simp[results,Tryz.results158,go_sem,Sy.val,z0,z1,z2,z3,z4]) rfl ⟨rfl,KJ (below_drewN HB3.out _) (Nat.le_refl _)⟩
    ·have CB:Hid (S=⟨0,D.getD p 0,0,0,0⟩):=Lib.hid (by rw[HS2.out,if_neg hc1,if_neg hc2,if_neg hk])
     have g5: ¬(1:Int)≤(bk:Int):=by omega
     obtain⟨g,off,rfl,_,hat⟩:=HDB.out w3 HB3.out
     have cp:=hat p (by omega)
     have e1:=dQ (d:=D) (i:=p) (by omega)
     rw[←e1]at cp
     generalize D.getD p 0=u at*
     clear hk hc1 hc2 hat e1
     go_wp2_with fail
     refine bodyPost_ret (v:=S.val) (by rw[CB.out];simp[results,Tryz.results158,go_sem,Sy.val,z0,z1,z2,z3,z4]) rfl ⟨rfl,KJ (below_drewN HB3.out _) (Nat.le_refl _)⟩
theorem Tf(s:Sy)(hk:s.k≤2)(hr:s.r≤3)(r:R4)(w:World):Calls Tryz.prog 162 #[r.val,s.val] w (kJ (fP s r).1 (fP s r).2.1 (fP s r).2.2.1 (fP s r).2.2.2 w):=by
 obtain⟨k,b,l,d,q⟩:=s
 obtain⟨r0,r1,r2,r3⟩:=r
 simp only at hk hr
 rcases(by omega:k=0∨k=1∨k=2)with rfl | rfl | rfl
 ·exact Tc r0 r1 r2 r3 b _ _ _ w
 ·exact KI r0 r1 r2 r3 b _ _ _ w
 ·rcases(by omega:q=0∨q=1∨q=2∨q=3)with rfl | rfl | rfl | rfl
  ·exact Ou r0 r1 r2 r3 b _ _ w
  ·exact Ov r0 r1 r2 r3 b _ _ w
  ·exact Ox r0 r1 r2 r3 b _ _ w
  ·exact Oy r0 r1 r2 r3 b _ _ w
theorem vZ{g:Nat→Nat}: ∀n,0<n→(firstTo g n).2<n
 | n+1,_=>by
  unfold firstTo
  split
  ·exact Nat.lt_succ_self _
  ·rcases Nat.eq_zero_or_pos n with rfl | h
   ·exact Nat.lt_succ_self _
   ·have:=vZ (g:=g) n h;omega
theorem Ti(D:List UInt8)(dict nice:Int)(p:Nat)(left a b c d:Int):(jW D dict nice p left a b c d).k≤2∧(jW D dict nice p left a b c d).r≤3:=by
 have h:(ig D dict (p:Int) left a b c d).2<4:=vZ 4 (by decide)
 unfold jW
 simp only
 split
 ·exact⟨Nat.le_refl 2,by show(ig D dict (p:Int) left a b c d).2≤3;omega⟩
 ·split
  ·exact⟨(by decide:1≤2),Nat.zero_le 3⟩
  ·split
   ·exact⟨Nat.le_refl 2,Nat.zero_le 3⟩
   ·exact⟨Nat.zero_le 2,Nat.zero_le 3⟩
theorem XT(D:List UInt8)(dict nice place most:Int):(qY D dict nice place most).1≤D.length:=by
 unfold qY
 split
 ·rename_i h
  unfold CP
  split
  ·exact Nat.zero_le _
  ·rcases(mG (fun k=>aX D place.toNat (place.toNat-k) (lim D place.toNat (min nice most))) (min (place.toNat:Int) dict).toNat).at_ with⟨e,_⟩ | ⟨_,_,e,_⟩
   ·rw[e];exact Nat.zero_le _
   ·rw[←e]
    have h1:=kZ D place.toNat (place.toNat-(eY (fun k=>aX D place.toNat (place.toNat-k) (lim D place.toNat (min nice most))) (min (place.toNat:Int) dict).toNat).2) (lim D place.toNat (min nice most))
    have h2:lim D place.toNat (min nice most)≤D.length:=by unfold lim;omega
    exact Nat.le_trans h1 h2
 ·exact Nat.zero_le _
theorem Tj(D:List UInt8)(dict nice:Int)(p:Nat)(left a b c d:Int):(jW D dict nice p left a b c d).l≤273+D.length:=by
 have h1:=(Dp D dict (p:Int) left a b c d).1
 have h2:=XT D dict nice (p:Int) left
 unfold jW
 simp only
 split
 ·show(ig D dict (p:Int) left a b c d).1≤_;omega
 ·split
  ·show(qY D dict nice (p:Int) left).1≤_;omega
  ·split
   ·show 1≤_;omega
   ·exact Nat.zero_le _
def jM(D:List UInt8)(dict nice:Int)(tt p:Nat)(r:R4):Sy:=jW D dict nice p ((tt:Int)-(p:Int)) r.1 r.2.1 r.2.2.1 r.2.2.2
def aO(D:List UInt8)(dict nice:Int)(tt:Nat):Nat→Nat→R4→List Sy×R4
 | 0,_,r=>([],r)
 | f+1,p,r=>if p<tt then
   (jM D dict nice tt p r::(aO D dict nice tt f (p+max (jM D dict nice tt p r).l 1) (fP (jM D dict nice tt p r) r)).1,(aO D dict nice tt f (p+max (jM D dict nice tt p r).l 1) (fP (jM D dict nice tt p r) r)).2)
  else([],r)
theorem Aa(D:List UInt8)(dict nice:Int)(tt:Nat): ∀(f g p:Nat) (r:R4),tt-p≤f→tt-p≤g→aO D dict nice tt f p r=aO D dict nice tt g p r
 | 0,0,p,r,_,_=>rfl
 | 0,g+1,p,r,h,_=>by
  unfold aO
  rw[if_neg (by omega)]
 | f+1,0,p,r,_,h=>by
  unfold aO
  rw[if_neg (by omega)]
 | f+1,g+1,p,r,h1,h2=>by
  unfold aO
  by_cases hp:p<tt
  ·rw[if_pos hp,if_pos hp,Aa D dict nice tt f g _ _ (by omega) (by omega)]
  ·rw[if_neg hp,if_neg hp]
theorem sK{D:List UInt8}{dict nice:Int}{tt p:Nat}{r:R4}(hp:p<tt):aO D dict nice tt (tt-p) p r=
  (jM D dict nice tt p r::(aO D dict nice tt (tt-(p+max (jM D dict nice tt p r).l 1)) (p+max (jM D dict nice tt p r).l 1) (fP (jM D dict nice tt p r) r)).1,(aO D dict nice tt (tt-(p+max (jM D dict nice tt p r).l 1)) (p+max (jM D dict nice tt p r).l 1) (fP (jM D dict nice tt p r) r)).2):=by
 obtain⟨f,hf⟩: ∃f,tt-p=f+1:=⟨tt-p-1,by omega⟩
 rw[hf]
 conv=>lhs;unfold aO
 rw[if_pos hp,Aa D dict nice tt f (tt-(p+max (jM D dict nice tt p r).l 1)) _ _ (by omega) (by omega)]
theorem Dq{D:List UInt8}{dict nice:Int}{tt p:Nat}{r:R4}(hp: ¬p<tt):aO D dict nice tt (tt-p) p r=([],r):=by
 rw[show tt-p=0 by omega];rfl
structure Cut(D:List UInt8)(p l k:Nat):Prop where
 one:1≤k
 back:k≤p
 fits:p+l≤D.length
 same: ∀i,i<l→D.getD (p+i) 0=D.getD (p+i-k) 0
theorem Dt{D:List UInt8}{p k L l:Nat}(h1:1≤k)(h2:k≤p)(hL:p+L≤D.length)(h:aX D p (p-k) L=l):Cut D p l k:=by
 have hl:=fK D L p (p-k)
 rw[h]at hl
 exact⟨h1,h2,by have:=hl.le;omega,fun i hi=>by rw[hl.eq i hi];congr 1;omega⟩
theorem sN{D:List UInt8}{dict dist most:Int}{p l:Nat}(h:fQ D dict (p:Int) dist most=l)(hl:0<l): ∃k:Nat,dist=(k:Int)∧Cut D p l k∧(k:Int)≤dict∧l≤273∧(l:Int)≤most:=by
 unfold fQ at h
 split at h
 ·rename_i hc
  obtain⟨k,rfl⟩: ∃k:Nat,dist=(k:Int):=⟨dist.toNat,by omega⟩
  simp only[Int.toNat_natCast]at h
  have hlim:lim D p (min 273 most)=(min (min 273 most) ((D.length:Int)-(p:Int))).toNat:=rfl
  have hle:=kZ D p (p-k) (lim D p (min 273 most))
  exact⟨k,rfl,Dt (by omega) (by omega) (by omega) h,hc.2.2.2.2,by omega,by omega⟩
 ·omega
theorem Ac{D:List UInt8}{dict nice most:Int}{p n k:Nat}(h:qY D dict nice (p:Int) most=(n,k))(hn:0<n):2≤n∧(n:Int)≤nice∧Cut D p n k∧(k:Int)≤dict∧(n:Int)≤most:=by
 unfold qY at h
 split at h
 ·rename_i hc
  rw[Int.toNat_natCast]at h
  unfold CP at h
  have hB:=mG (fun k=>aX D p (p-k) (lim D p (min nice most))) (min (p:Int) dict).toNat
  split at h
  ·injection h with h _;omega
  ·rename_i h2
   rw[h]at hB h2
   rcases hB.at_ with⟨e,_⟩ | ⟨h1,h3,h4,h5⟩
   ·simp only at e;omega
   ·simp only at h1 h3 h4 h5 h2
    have hlim:lim D p (min nice most)=(min (min nice most) ((D.length:Int)-(p:Int))).toNat:=rfl
    have hle:=kZ D p (p-k) (lim D p (min nice most))
    exact⟨by omega,by omega,Dt h1 (by omega) (by omega) h4,by omega,by omega⟩
 ·injection h with h _;omega
theorem wz{g:Nat→Nat}: ∀n,(firstTo g n).1=0∨g (firstTo g n).2=(firstTo g n).1
 | 0=> .inl rfl
 | n+1=>by
  unfold firstTo
  split
  ·exact .inr rfl
  ·exact wz n
theorem oq{D:List UInt8}{p k:Nat}: ∀(l:Nat),Cut D p l k→iO (D.take p) k l=D.take (p+l)
 | 0,_=>rfl
 | l+1,h=>by
  have ih:=oq (D:=D) (p:=p) (k:=k) l ⟨h.one,h.back,by have:=h.fits;omega,fun i hi=>h.same i (by omega)⟩
  have hf:=h.fits
  have h1:=h.one
  have hb:=h.back
  unfold iO
  rw[ih]
  have e:(D.take (p+l)).length=p+l:=by rw[List.length_take];omega
  rw[e]
  have e2:(D.take (p+l)).getD (p+l-k) 0=D.getD (p+l) 0:=by
   rw[h.same l (by omega)]
   simp only[List.getD_eq_getElem?_getD]
   rw[List.getElem?_take_of_lt (by omega)]
  rw[e2,←Nat.add_assoc,List.take_add_one,dQ (by omega),List.getElem?_eq_getElem (by omega)]
  rfl
structure ae0(D:List UInt8)(dict:Int)(p:Nat)(r:R4)(s:Sy):Prop where
 k:s.k≤2
 q:s.r≤3
 fits:kC r (p:Int) (s.k:Nat) (s.l:Nat) (s.d:Nat) (s.r:Nat)=true
 near:jU r (s.k:Nat) (s.d:Nat) (s.r:Nat)≤dict
 plain:Xq (s.k:Nat) s.b (s.l:Nat) (s.d:Nat) (s.r:Nat)=s.val
 back: ∃n:Nat,jU r (s.k:Nat) (s.d:Nat) (s.r:Nat)=(n:Int)∧(((s.k:Nat):Int)≠0→1≤n∧n≤p)∧growS (D.take p) (s.k:Nat) s.b s.l n=D.take (p+max s.l 1)
 grows:p+max s.l 1≤D.length
 short:s.l≤273
theorem qZ(s:Sy)(hk:s.k≤2)(r:R4):jK r (s.k:Nat) (s.d:Nat) (s.r:Nat)=fP s r:=by
 obtain⟨k,b,l,d,q⟩:=s
 simp only at hk
 rcases(by omega:k=0∨k=1∨k=2)with rfl | rfl | rfl
 ·rfl
 ·rfl
 ·unfold jK fP
  rw[if_neg (show ¬((2:Nat):Int)=0 by decide),if_neg (show ¬((2:Nat):Int)=1 by decide),if_neg (show ¬2=0 by decide),if_neg (show ¬2=1 by decide)]
  simp only
  match q with
  | 0=>rfl
  | 1=>rfl
  | 2=>rfl
  | q+3=>
   rw[if_neg (by omega),if_neg (by omega),if_neg (by omega)];rfl
theorem aif(r:R4)(q:Nat):QN r (q:Int)=r4 r.1 r.2.1 r.2.2.1 r.2.2.2 q:=by
 unfold QN;rw[Int.toNat_natCast]
theorem sO{D:List UInt8}{dict nice:Int}{tt p:Nat}{r:R4}(hp:p<tt)(ht:tt≤D.length)(hD:D.length≤100000)(vG:1≤dict)(hn:nice≤273):ae0 D dict p r (jM D dict nice tt p r):=by
 unfold jM jW
 obtain⟨X,hX⟩: ∃X:Int,(tt:Int)-(p:Int)=X:=⟨_,rfl⟩
 rw[hX]
 obtain⟨⟨rn,rw_⟩,hr⟩: ∃z,ig D dict (p:Int) X r.1 r.2.1 r.2.2.1 r.2.2.2=z:=⟨_,rfl⟩
 obtain⟨⟨mn,mk⟩,hm⟩: ∃z,qY D dict nice (p:Int) X=z:=⟨_,rfl⟩
 rw[hr,hm]
 simp only
 split
 ·rename_i h1
  have hlt:rw_<4:=by
   have:=vZ (g:=fun i=>fQ D dict (p:Int) (r4 r.1 r.2.1 r.2.2.1 r.2.2.2 i) X) 4 (by decide)
   unfold ig at hr;rw[hr]at this;exact this
  have hat:fQ D dict (p:Int) (r4 r.1 r.2.1 r.2.2.1 r.2.2.2 rw_) X=rn:=by
   have:=wz (g:=fun i=>fQ D dict (p:Int) (r4 r.1 r.2.1 r.2.2.1 r.2.2.2 i) X) 4
   unfold ig at hr;rw[hr]at this
   rcases this with e | e
   ·simp only at e;omega
   ·exact e
  obtain⟨k,hk,hc,hkd,hl,hm2⟩:=sN hat (by omega)
  have hra:=aif r rw_
  rw[hk]at hra
  have hcb:=hc.back
  have hdz:jU r ((2:Nat):Int) ((0:Nat):Int) (rw_:Nat)=(k:Int):=hra
  refine⟨Nat.le_refl 2,by show rw_≤3;omega,?_,by rw[hdz];exact hkd,rfl,⟨k,hdz,fun _=>⟨hc.one,hcb⟩,?_⟩,?_,hl⟩
  ·show kC r (p:Int) 2 (rn:Nat) 0 (rw_:Nat)=true
   unfold kC
   rw[hra]
   simp;omega
  ·show growS (D.take p) 2 0 rn k=D.take (p+max rn 1)
   rw[show max rn 1=rn by omega]
   exact oq rn hc
  ·show p+max rn 1≤D.length
   have:=hc.fits;omega
 ·split
  ·rename_i h1 h2
   obtain⟨g2,g3,hc,hkd,_⟩:=Ac hm (by omega)
   have hcb:=hc.back
   have hc1:=hc.one
   refine⟨(by decide:1≤2),Nat.zero_le 3,?_,hkd,rfl,⟨mk,rfl,fun _=>⟨hc.one,hcb⟩,?_⟩,?_,by show mn≤273;omega⟩
   ·show kC r (p:Int) 1 (mn:Nat) (mk:Nat) 0=true
    unfold kC
    simp;omega
   ·show growS (D.take p) 1 0 mn mk=D.take (p+max mn 1)
    rw[show max mn 1=mn by omega]
    exact oq mn hc
   ·show p+max mn 1≤D.length
    have:=hc.fits;omega
  ·split
   ·rename_i h1 h2 h3
    obtain⟨l,hl⟩: ∃l,fQ D dict (p:Int) r.1 X=l:=⟨_,rfl⟩
    rw[hl]at h3
    obtain⟨k,hk,hc,hkd,_,_⟩:=sN hl (by omega)
    have hc':Cut D p 1 k:=⟨hc.one,hc.back,by have:=hc.fits;omega,fun i hi=>hc.same i (by omega)⟩
    have hcb:=hc.back
    have hdz:jU r ((2:Nat):Int) ((0:Nat):Int) ((0:Nat):Int)=(k:Int):=hk
    have hra:QN r 0=(k:Int):=hk
    refine⟨Nat.le_refl 2,Nat.zero_le 3,?_,by rw[hdz];exact hkd,rfl,⟨k,hdz,fun _=>⟨hc.one,hcb⟩,?_⟩,?_,by show 1≤273;decide⟩
    ·show kC r (p:Int) 2 1 0 0=true
     unfold kC
     rw[hra]
     simp;omega
    ·show growS (D.take p) 2 0 1 k=D.take (p+max 1 1)
     exact oq 1 hc'
    ·show p+max 1 1≤D.length
     omega
   ·refine⟨Nat.zero_le 2,Nat.zero_le 3,rfl,by show(0:Int)≤dict;omega,rfl,⟨0,rfl,fun h=>absurd rfl h,?_⟩,?_,Nat.zero_le _⟩
    ·show D.take p++[D.getD p 0]=D.take (p+max 0 1)
     rw[show max 0 1=1 from rfl,List.take_add_one,dQ (Nat.lt_of_lt_of_le hp ht),List.getElem?_eq_getElem (Nat.lt_of_lt_of_le hp ht)];rfl
    ·show p+max 0 1≤D.length
     omega
theorem QW{D:List UInt8}{dict nice:Int}{tt p:Nat}{r:R4}(hp:p<tt):p+max (jM D dict nice tt p r).l 1≤tt:=by
 unfold jM jW
 obtain⟨X,hX⟩: ∃X:Int,(tt:Int)-(p:Int)=X:=⟨_,rfl⟩
 rw[hX]
 obtain⟨⟨rn,rw_⟩,hr⟩: ∃z,ig D dict (p:Int) X r.1 r.2.1 r.2.2.1 r.2.2.2=z:=⟨_,rfl⟩
 obtain⟨⟨mn,mk⟩,hm⟩: ∃z,qY D dict nice (p:Int) X=z:=⟨_,rfl⟩
 rw[hr,hm]
 simp only
 split
 ·rename_i h1
  have hat:fQ D dict (p:Int) (r4 r.1 r.2.1 r.2.2.1 r.2.2.2 rw_) X=rn:=by
   have:=wz (g:=fun i=>fQ D dict (p:Int) (r4 r.1 r.2.1 r.2.2.1 r.2.2.2 i) X) 4
   unfold ig at hr;rw[hr]at this
   rcases this with e | e
   ·simp only at e;omega
   ·exact e
  obtain⟨k,hk,hc,hkd,hl,hm2⟩:=sN hat (by omega)
  show p+max rn 1≤tt
  omega
 ·split
  ·rename_i h1 h2
   obtain⟨g2,g3,hc,hkd,hm2⟩:=Ac hm (by omega)
   show p+max mn 1≤tt
   omega
  ·split
   ·show p+max 1 1≤tt
    omega
   ·show p+max 0 1≤tt
    omega
end Go.Proofs.YtgfpocdiojifoaaGreatDoor
