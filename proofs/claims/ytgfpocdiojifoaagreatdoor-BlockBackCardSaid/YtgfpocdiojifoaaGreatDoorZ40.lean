import Derived.Test.YtgfpocdiojifoaaGreatDoorZ39
import Derived.Laws.BitsAllLaws
namespace Go.Proofs.YtgfpocdiojifoaaGreatDoor
set_option maxRecDepth 100000
set_option maxHeartbeats 8000000
open Go.RowKit
theorem Only.fresh{X:List Nat}{a b c:World}(h:Only X a b)(k:Below a.heap.size b c):Only X a c:=
 ⟨k.os.trans h.os,k.tape.trans h.tape,k.output.trans h.output,Nat.le_trans h.size k.size,fun i hi hx=>(k.block i hi).trans (h.block i hi hx)⟩
theorem Own.MC{base:Nat}{w w':World}{v:Value}{l:List UInt8}(h:Own base w v l)(hb: ∀g,v.ownBlock=some g→w'.heap[g]? =w.heap[g]?):Own base w' v l:=by
 rcases h with⟨h1,h2 | ⟨g,cap,cur,h2,h3,h4,h5⟩⟩
 ·exact⟨h1,.inl h2⟩
 ·exact⟨h1,.inr ⟨g,cap,cur,h2,h3,(hb g (by rw[h2];rfl)).trans h4,h5⟩⟩
def Jm(gd o cap:Nat)(L:List UInt8)(C Lb lc lp pb:Nat)(X:List Nat)(n0:Nat)(res:Option (List UInt8×Nat×R4×PD))(w:World)(e:Ending)(w':World):Prop:=
 match res with
 | none=>e= .returned (.tuple #[.slice none 0 0,.int .i64 6])∧Only (C::Lb::X) w w'
 | some (T,st,r,y)=> ∃A c,e= .returned (.tuple #[.slice A (T.length-n0) c,.int .i64 0])∧T.length-n0≤c∧c≤9223372036854775807∧Bytes w' A (T.drop n0)∧jd (ak gd o cap L) C Lb lc lp pb st r y X w w'
def wQ(res:Option (List UInt8×Nat×R4×PD)):Prop:= ∀q,res=some q→q.2.1<12∧eP q.2.2.1
theorem wQ.none:wQ none:=fun _ h=>by cases h
theorem wQ.some{T:List UInt8}{st:Nat}{r:R4}{y:PD}(h:st<12∧eP r):wQ (some (T,st,r,y)):=fun _ e=>by injection e with e;rw[←e];exact h
theorem PZ{gd o cap:Nat}{L:List UInt8}{C Lb lc lp pb st:Nat}{r:R4}{y:PD}{X:List Nat}{w:World}(hM:MS (ak gd o cap L) w C Lb lc lp pb st r y X)(hlc:lc≤4)(hlp:lp≤4)(hpb:pb≤4)(hst:st<12)(hr:eP r)(hok:(ak gd o cap L).ok y.2 0)
  (A:Option Addr) (H:List UInt8) (c:Nat) (hB:Bytes w A H) (hc:H.length≤c) (hH:H.length≤500000000) (many:Nat) (ajk:many≤500000000) (dict:Int) (hd1:1≤dict) (hd2:dict≤9223372036854775807):
  Calls Tryz.prog 217 #[PF gd,PF C,.slice A H.length c,.int .i64 (many:Nat),.int .i64 dict] w (fun e w'=>Jm gd o cap L C Lb lc lp pb X (H.length-iY H.length (max dict r.1)) (bW gd o cap L lc lp pb dict (H.length-iY H.length (max dict r.1)+many) many (H.drop (iY H.length (max dict r.1))) st r y) w e w'∧wQ (bW gd o cap L lc lp pb dict (H.length-iY H.length (max dict r.1)+many) many (H.drop (iY H.length (max dict r.1))) st r y)):=by
 have hr1:1≤r.1∧r.1≤4294967296:=⟨hr.1.1,hr.2.1⟩
 obtain⟨back,hback⟩: ∃back,max dict r.1=back:=⟨_,rfl⟩
 have hb1:1≤back:=by omega
 have hb2:back≤9223372036854775807:=by omega
 have hcl:=Ey H.length (show 0≤back by omega)
 have rH:=Lib.hid (fun W=>Me A H c back W hc (by omega) hb1 hb2)
 rw[hback]
 obtain⟨cut,hcut⟩: ∃cut,iY H.length back=cut:=⟨_,rfl⟩
 rw[hcut]at rH hcl ⊢
 have hBT:=hB.cutFrom hcl hc
 have hTl:(H.drop cut).length=H.length-cut:=List.length_drop
 obtain⟨T0,hT0⟩: ∃T0,H.drop cut=T0:=⟨_,rfl⟩
 rw[hT0]at hBT hTl ⊢
 obtain⟨n0,hn0⟩: ∃n0,H.length-cut=n0:=⟨_,rfl⟩
 rw[hn0]at rH hTl ⊢
 obtain⟨AT,hAT⟩: ∃AT,(if c=cut then A else A.map (·.add cut))=AT:=⟨_,rfl⟩
 rw[hAT]at rH hBT
 obtain⟨cT,hcT⟩: ∃cT,c-cut=cT:=⟨_,rfl⟩
 rw[hcT]at rH
 obtain⟨RES,sU⟩: ∃RES,bW gd o cap L lc lp pb dict (n0+many) many T0 st r y=RES:=⟨_,rfl⟩
 rw[sU]
 have xJ:=Lib.hid sU
 obtain rfl:X=[gd,o]:=hM.io.1
 have HM:=Lib.hid hM
 have HBT:=Lib.hid hBT
 have HTL:=Lib.hid hTl
 have UW:=Lib.hid (And.intro hlc (And.intro hlp hpb))
 have HST:=Lib.hid (And.intro hst (And.intro hr hok))
 have hni:(n0:Int)≤500000000:=by omega
 have hnn:n0≤500000000:=by omega
 have Nj:(many:Int)≤500000000:=by omega
 have hlt:=hM.adW
 have Fa:=Lib.hid hlt
 have EU:=Lib.hid hback
 have atw:decide (dict<1)=false:=decide_eq_false (by omega)
 have hm0:decide ((many:Int)<0)=false:=decide_eq_false (by omega)
 clear hM hB hBT hc hH hcl hcut hT0 hn0 hAT hcT sU hlc hlp hpb hst hr hok hlt hTl hback
 go_enter Tryz.func217,Tryz.ntmps217
 go_wp2_with fail
 refine(su HM.out.mod).mono ?_
 rintro e w1 ⟨rfl,hb1'⟩
 have ix:=VH r.1 r.2.1 r.2.2.1 r.2.2.2 w1
 have HB1:=Lib.hid hb1'
 clear hb1'
 go_wp2_with fail
 rw[EU.out]
 refine(rH.out w1).mono ?_
 rintro e w1' ⟨rfl,rfl⟩
 clear ix
 go_upto_region 4 with(at_builtin;refine ay rfl (.const (.slice none 0 0)) (.tmp 36) rfl w.heap.size w1 _ [] rfl (Own.nil _ _) AT T0 cT (by rw[HTL.out];rfl) (HBT.out.below HB1.out) (by rw[HTL.out];simp;omega) HB1.out.size ?_;intro v2 w2 ho2 hg2;have RY:=Lib.hid (show Own w.heap.size w2 v2 T0 from ho2);have HB2:=Lib.hid (below_grown HB1.out hg2 HB1.out.size (fun g e=>by cases e));clear ho2 hg2)
 have eT:=HTL.out
 subst eT
 obtain⟨A2,c2,rfl,hc2,hm2,_⟩:=RY.out.read
 have afW:(T0.length:Int)≤(c2:Int):=by omega
 have EX:Hid (MS (ak gd o cap L) w2 C Lb lc lp pb st r y [gd,o]):=Lib.hid (HM.out.Bq HB2.out.size (fun i hi=>HB2.out.block i (Fa.out i hi)))
 have anC:Hid (Only (C::Lb::[gd,o]) w w2):=Lib.hid (Only.of_below HB2.out)
 clear hc2 hm2
 go_wp2_with fail
 go_loopg [12] many (fun gk v wr=> ∃(T:List UInt8) (st:Nat) (r:R4) (y:PD) (vv:Value),vv=v∧T0.length≤T.length∧T.length≤T0.length+many∧T0.length+many≤T.length+gk∧Hid (Own w.heap.size wr vv T)∧Hid (bW gd o cap L lc lp pb dict (T0.length+many) gk T st r y=RES)∧Hid (MS (ak gd o cap L) wr C Lb lc lp pb st r y [gd,o])∧Hid (st<12∧eP r∧(ak gd o cap L).ok y.2 0)∧Hid (Only (C::Lb::[gd,o]) w wr))
 case atStart=>exact⟨T0,st,r,y,_,rfl,Nat.le_refl _,Nat.le_add_right _ _,Nat.le_refl _,RY,xJ,EX,HST,anC⟩
 case round=>
  obtain⟨T,st,r,y,v,rfl,hT1,hT2,oU,HO,HU,HM,HST,lW⟩:=hrel
  obtain⟨AT,cT,rfl,hcT,hmT,hBT⟩:=HO.out.read
  have hTi:(T.length:Int)≤1000000000:=by omega
  have aty:(T0.length:Int)≤(T.length:Int):=by omega
  have atz:(T.length:Int)≤(cT:Int):=by omega
  have HTB:=Lib.hid (And.intro hT1 (And.intro hT2 oU))
  have hsz:=lW.out.size
  by_cases hend:T.length<T0.length+many
  ·have apR:(T.length:Int)-(T0.length:Int)<(many:Int):=by omega
   cases gk with
   | zero=>omega
   | succ gk=>
    obtain⟨⟨s,st',r',y'⟩,ht⟩: ∃t,Md.sym (ak gd o cap L) lc lp pb st r T 0 0 0 0 0 y=t:=⟨_,rfl⟩
    have hk:=WL (ak gd o cap L) HM.out UW.out.1 UW.out.2.1 UW.out.2.2 HST.out.1 HST.out.2.1 (k:=0) AT T cT hBT hcT (by omega) (fun a e=>fun hm=>by have h1:=(HO.out.aF a.block (by rw[e];rfl)).1;have:=Fa.out _ hm;omega) 0 0 0 0 0 (fun _=>⟨by decide,by decide⟩) (fun _ _=>⟨by decide,by decide⟩) ht HST.out.2.2
    have HKD:Hid (Calls Tryz.prog 164 #[PF C,.iface 283 (.pointer (some ⟨gd,0,none⟩)),.slice AT T.length cT,.agg #[.int .i64 0,.int .u8 0,.int .i64 0,.int .i64 0,.int .i64 0]] wr _):=Lib.hid hk
    have HTS:=Lib.hid ht
    clear hk ht hBT hcT hmT
    go_wp2_with fail
    refine HKD.out.mono ?_
    rintro e w5 ⟨⟨rfl,X5,hM5,Fz,_⟩,hk2,hr3,ajm,_,hst12,hrg,ajn⟩
    obtain rfl:X5=[gd,o]:=hM5.io.1
    have hO5:Own w.heap.size w5 (.slice AT T.length cT) T:=HO.out.MC fun g e=>by
     have h1:=HO.out.aF g e
     exact Fz.block g h1.2 (fun hm=>by have:=Fa.out _ hm;omega)
    have anD:(s.l:Int)≤273:=by omega
    have Ws:Hid (Only (C::Lb::[gd,o]) w w5):=Lib.hid (lW.out.trans Fz (fun i hi=> .inl hi))
    obtain⟨W6,hW6⟩: ∃W,w5.alloc (.cells #[.int .i64 (s.k:Nat),.int .u8 (s.b.toNat:Nat),.int .i64 (s.l:Nat),.int .i64 (s.d:Nat),.int .i64 (s.r:Nat)] 158)=W:=⟨_,rfl⟩
    obtain⟨y0,y1,y2,y3,y4,hb6⟩:=aeQ hW6
    have anE:=block_lt_of_cell y0
    have Gv:Hid (Below w.heap.size w5 W6):=Lib.hid (hb6.mono Ws.out.size)
    have QG:=Lib.hid (hM5.below hb6)
    have WE:Hid (Own w.heap.size W6 (.slice AT T.length cT) T):=Lib.hid (hO5.below hb6)
    have acT:=Lib.hid (And.intro hst12 (And.intro hrg ajn))
    have Jo:Hid (Only (C::Lb::[gd,o]) w W6):=Lib.hid (Ws.out.fresh Gv.out)
    have HW6:=Lib.hid hW6
    have iL:=Lib.hid (QB gd o cap L y'.2 W6 QG.out.io.2)
    have apU:=Lib.hid ajm
    clear hM5 Fz hst12 hrg ajn hO5 hW6 hb6 HKD HM HO
    go_upto_region 7 with fail
    rw[HW6.out]
    cases hout:y'.2.out with
    | true=>
     have hres:RES=none:=by rw[←HU.out];exact pX hend HTS.out hout
     rw[hout]at iL
     have HRN:=Lib.hid hres
     clear hres hout
     go_wp2_with fail
     refine iL.out.mono ?_
     rintro e w7 ⟨rfl,rfl⟩
     go_wp2_with fail
     go_ret2
     rw[HRN.out]
     exact⟨⟨rfl,Jo.out⟩,.none⟩
    | false=>
     rw[hout]at iL
     have HOF:=Lib.hid hout
     clear hout
     go_wp2_with fail
     refine iL.out.mono ?_
     rintro e w7 ⟨rfl,rfl⟩
     by_cases hk0:s.k=0
     ·have HU2:Hid (bW gd o cap L lc lp pb dict (T0.length+many) gk (T++[s.b]) st' r' y'=RES):=Lib.hid (by rw[←HU.out];exact(mQ hend HTS.out HOF.out hk0).symm)
      have anF:(((s.k:Nat):Int)==0)=true:=by rw[hk0];rfl
      obtain⟨W8,VE⟩: ∃W,W6.alloc (.cells #[.int .u8 (s.b.toNat:Nat)] 5)=W:=⟨_,rfl⟩
      have hb8:Below w.heap.size W6 W8:=by rw[←VE];exact(Below.refl _ _).alloc Jo.out.size _
      have Jw:Own w.heap.size W8 (.slice AT T.length cT) T:=by rw[←VE];exact WE.out.alloc _
      have hx8:Bytes W8 (some ⟨W6.heap.size,0,none⟩) [s.b]:=by rw[←VE];exact Gs W6 s.b
      have HW8:=Lib.hid VE
      have OM:=Lib.hid hb8
      have HO8:=Lib.hid Jw
      have HX8:=Lib.hid hx8
      have ajo:Hid (w.heap.size≤W8.heap.size):=Lib.hid (Nat.le_trans Jo.out.size hb8.size)
      have anG:Hid (T.length≤1000000000):=Lib.hid (by omega)
      clear VE hb8 Jw hx8 hk0
      go_wp2_with (at_builtin;rw[HW8.out];refine ay rfl (.tmp 57) (.tmp 60) rfl w.heap.size W8 _ T rfl HO8.out (some ⟨W6.heap.size,0,none⟩) [s.b] 1 rfl HX8.out (by have:=anG.out;simp;omega) ajo.out ?_;intro v9 w9 ho9 hg9;have HO9:Hid (Own w.heap.size w9 v9 (T++[s.b])):=Lib.hid ho9;have FQ:=Lib.hid (below_grown OM.out hg9 ajo.out (fun g e=>(HO8.out.aF g e).1));clear ho9 hg9)
      go_roundg gk
      case measure=>omega
      case rel=>
       refine⟨T++[s.b],st',r',y',v9,rfl,?_,?_,?_,HO9,HU2,Lib.hid (QG.out.Bq FQ.out.size (fun i hi=>FQ.out.block i (Fa.out i hi))),acT,Lib.hid (Jo.out.fresh FQ.out)⟩<;>rw[List.length_append,List.length_singleton]<;>omega
     ·have anF:(((s.k:Nat):Int)==0)=false:=beq_eq_false_iff_ne.2 (by omega)
      have HRP:=Lib.hid (su QG.out.mod)
      have HK0:=Lib.hid hk0
      clear hk0
      go_wp2_with fail
      refine HRP.out.mono ?_
      rintro e w7 ⟨rfl,hb7⟩
      have ix:=VH r'.1 r'.2.1 r'.2.2.1 r'.2.2.2 w7
      have z2:=(hb7.cell (p:=⟨w5.heap.size,2,none⟩) anE).trans y2
      have vJ:Hid (Below w.heap.size W6 w7):=Lib.hid (hb7.mono Jo.out.size)
      have HO7:Hid (Own w.heap.size w7 (.slice AT T.length cT) T):=Lib.hid (WE.out.below hb7)
      have HR1:Hid (1≤r'.1):=Lib.hid acT.out.2.1.1.1
      have atC:r'.1≤4294967296:=acT.out.2.1.2.1
      have atD:1≤r'.1:=HR1.out
      clear hb7 y0 y1 y2 y3 y4
      by_cases hbad:min (T.length:Int) dict<r'.1∨T0.length+many-T.length<s.l
      ·have hres:RES=none:=by rw[←HU.out];exact pY hend HTS.out HK0.out hbad
       have HRN:=Lib.hid hres
       clear hres
       by_cases hb1:min (T.length:Int) dict<r'.1
       ·have ajp:decide (min (T.length:Int) dict<r'.1)=true:=decide_eq_true hb1
        clear hbad
        go_wp2_with fail
        go_ret2
        rw[HRN.out]
        exact⟨⟨rfl,Jo.out.fresh vJ.out⟩,.none⟩
       ·have ajp:decide (min (T.length:Int) dict<r'.1)=false:=decide_eq_false hb1
        have hb2:(many:Int)-((T.length:Int)-(T0.length:Int))<(s.l:Int):=by omega
        have anH:decide ((many:Int)-((T.length:Int)-(T0.length:Int))<(s.l:Int))=true:=decide_eq_true hb2
        clear hbad
        go_wp2_with fail
        go_ret2
        rw[HRN.out]
        exact⟨⟨rfl,Jo.out.fresh vJ.out⟩,.none⟩
      ·have HU2:Hid (bW gd o cap L lc lp pb dict (T0.length+many) gk (iO T r'.1.toNat s.l) st' r' y'=RES):=Lib.hid (by rw[←HU.out];exact(mV hend HTS.out HOF.out HK0.out hbad).symm)
       have hb1: ¬min (T.length:Int) dict<r'.1:=fun h=>hbad (.inl h)
       have ajp:decide (min (T.length:Int) dict<r'.1)=false:=decide_eq_false hb1
       have hb2: ¬(many:Int)-((T.length:Int)-(T0.length:Int))<(s.l:Int):=by omega
       have anH:decide ((many:Int)-((T.length:Int)-(T0.length:Int))<(s.l:Int))=false:=decide_eq_false hb2
       obtain⟨bk,hbk⟩: ∃bk:Nat,r'.1=(bk:Int):=⟨r'.1.toNat,by omega⟩
       have atE:bk≤T.length:=by omega
       have hbk1:1≤bk:=by omega
       have HSL:Hid (T.length+s.l≤T0.length+many∧1≤s.l):=Lib.hid ⟨by omega,by have h:=ZC (io:=ak gd o cap L) (lc:=lc) (lp:=lp) (pb:=pb) (st:=st) (r:=r) (H:=T) (k:=0) (b:=0) (l:=0) (d:=0) (q:=0) (x:=y);rw[HTS.out]at h;exact h HK0.out⟩
       rw[hbk,Int.toNat_natCast]at HU2
       clear hbad
       have hbi:(1:Int)≤(bk:Int):=by omega
       have atF:(bk:Int)≤(T.length:Int):=by omega
       go_wp2_with fail
       go_loopw [12,84] (fun v i wr2=> ∃(n:Nat) (vv:Value),n≤s.l∧vv=v∧i= .int .i64 (n:Nat)∧Hid (Own w.heap.size wr2 vv (iO T bk n))∧Hid (Below w.heap.size w7 wr2)) (fun _ i _=>s.l-(intOf i).toNat)
       case atStart=>exact⟨0,_,Nat.zero_le _,rfl,rfl,HO7,Lib.hid (Below.refl _ _)⟩
       case round=>
        obtain⟨n,v,hn,rfl,rfl,HO,fV⟩:=hrel
        by_cases hnl:n<s.l
        ·have hni:(n:Int)<(s.l:Int):=by omega
         have hnb:decide ((n:Int)<(s.l:Int))=true:=decide_eq_true hni
         obtain⟨T2,hT⟩: ∃T2,iO T bk n=T2:=⟨_,rfl⟩
         have hTl:T2.length=T.length+n:=by rw[←hT];exact gZ T bk n
         rw[hT]at HO
         obtain⟨A2,c2,rfl,hc2,hm2,hB2⟩:=HO.out.read
         have hLi:(T2.length:Int)≤1000000000:=by have:=HSL.out;omega
         have afW:(T2.length:Int)≤(c2:Int):=by omega
         obtain⟨x,hx⟩: ∃x,T2.length-bk=x:=⟨_,rfl⟩
         have hxi:(T2.length:Int)-(bk:Int)=(x:Int):=by omega
         have hxl:(x:Int)<(T2.length:Int):=by omega
         obtain⟨g,off,rfl,_,hat⟩:=hB2.addr (by omega)
         have cx:=hat x (by omega)
         have e1:=dQ (d:=T2) (i:=x) (by omega)
         rw[←e1]at cx
         have anI:Hid (iO T bk (n+1)=T2++[T2.getD x 0]):=Lib.hid (by unfold iO;rw[hT,hx])
         generalize T2.getD x 0=u at*
         obtain⟨W4,sJ⟩: ∃W4,wr.alloc (.cells #[.int .u8 (u.toNat:Nat)] 5)=W4:=⟨_,rfl⟩
         have hbw:w.heap.size≤wr.heap.size:=Nat.le_trans Jo.out.size (Nat.le_trans vJ.out.size fV.out.size)
         have hb4:Below w.heap.size w7 W4:=by rw[←sJ];exact fV.out.alloc hbw _
         have fE:Own w.heap.size W4 (.slice (some ⟨g,off,none⟩) T2.length c2) T2:=by rw[←sJ];exact HO.out.alloc _
         have hx4:Bytes W4 (some ⟨wr.heap.size,0,none⟩) [u]:=by rw[←sJ];exact Gs wr u
         have ajq:w.heap.size≤W4.heap.size:=by rw[←sJ];simp;omega
         have WJ:=Lib.hid sJ
         have HB4:=Lib.hid hb4
         have ajr:=Lib.hid ajq
         have J5:=Lib.hid fE
         have HX4:=Lib.hid hx4
         have anJ:Hid (T2.length≤1000000000):=Lib.hid (by omega)
         clear sJ hb4 fE hx4 hT hTl hc2 hm2 hB2 hx hat e1 hbw ajq
         go_wp2_with (at_builtin;rw[WJ.out];refine ay rfl (.tmp 86) (.tmp 94) rfl w.heap.size W4 _ T2 rfl J5.out (some ⟨wr.heap.size,0,none⟩) [u] 1 rfl HX4.out (by have:=anJ.out;simp;omega) ajr.out ?_;intro v5 w5 qj hg5;have Vw:Hid (Own w.heap.size w5 v5 (iO T bk (n+1))):=Lib.hid (by rw[anI.out];exact qj);have zk:=Lib.hid (below_grown HB4.out hg5 ajr.out (fun g e=>(J5.out.aF g e).1));clear qj hg5)
         exact⟨⟨n+1,_,by omega,rfl,by go_num,Vw,zk⟩,by simp[intOf];omega⟩
        ·obtain rfl:n=s.l:=by omega
         have hnb:decide (((s.l:Nat):Int)<((s.l:Nat):Int))=false:=decide_eq_false (by omega)
         go_wp2_with fail
         go_roundg gk
         case measure=>omega
         case rel=>
          have hk: ∀i∈C::Lb::[gd,o],wr.heap[i]? =W6.heap[i]? :=fun i hi=>(fV.out.block i (Fa.out i hi)).trans (vJ.out.block i (Fa.out i hi))
          have hgl:=gZ T bk s.l
          refine⟨iO T bk s.l,st',r',y',v,rfl,?_,?_,?_,HO,HU2,Lib.hid (QG.out.Bq (Nat.le_trans vJ.out.size fV.out.size) hk),acT,Lib.hid ((Jo.out.fresh vJ.out).fresh fV.out)⟩<;>rw[hgl]<;>(have h1:=HSL.out;have h2:=HTB.out;omega)
  ·have hres:RES=some (T,st,r,y):=by rw[←HU.out];exact mP (by omega)
   have HRN:=Lib.hid hres
   have apW:decide ((T.length:Int)-(T0.length:Int)<(many:Int))=false:=decide_eq_false (by omega)
   have hBF:=hBT.cutFrom hT1 hcT
   have hfr: ¬(T.length:Int)-(T0.length:Int)<(many:Int):=by omega
   obtain⟨AF,Ii⟩: ∃AF,(if cT=T0.length then AT else AT.map (·.add T0.length))=AF:=⟨_,rfl⟩
   rw[Ii]at hBF
   have HAF:=Lib.hid Ii
   have HBF:=Lib.hid hBF
   clear hres hBF Ii hBT
   go_wp2_with fail
   all_goals
    go_ret2
    rw[HRN.out]
   ·refine⟨⟨AF,0,?_,by omega,by omega,HBF.out,_,HM.out,lW.out,fun i hi=> .inl hi⟩,.some ⟨HST.out.1,HST.out.2.1⟩⟩
    rw[←HAF.out,if_pos (by first | assumption | omega)];rfl
   ·refine⟨⟨AF,cT-T0.length,?_,by omega,by omega,HBF.out,_,HM.out,lW.out,fun i hi=> .inl hi⟩,.some ⟨HST.out.1,HST.out.2.1⟩⟩
    rw[←HAF.out,if_neg (by assumption)];rfl
section
structure FX where
 base:Nat
 w0:World
 bb:Nat
 ab:Nat
 R:Nat
 A:Option Addr
 B:List UInt8
 c:Nat
 dict:Int
abbrev MF(dict:Int)(v:Value)(s:jy)(cv:Value):List Value:=
 [.int .i64 dict,v,.int .i64 (s.start:Nat),.bool s.clear,.bool s.asked,.int .i64 (s.lc:Nat),.int .i64 (s.lp:Nat),.int .i64 (s.pb:Nat),cv]
def mg(base:Nat)(w:World)(cv:Value)(s:jy):Prop:=
 s.clear=true→s.asked=false→ ∃C L,cv=PF C∧(base≤C∧base≤L)∧bg w C L s.lc s.lp s.pb s.st s.r s.P∧lS (s.lc:Nat) (s.lp:Nat) (s.pb:Nat)=true∧s.st<12∧eP s.r
structure yH(k:FX)(w:World)(pos:Nat)(s:jy)(cv:Value):Prop where
 AU:w.heap[k.bb]? =some (.cells #[.slice k.A k.B.length k.c] 22 (0,0))
 uX:w.heap[k.ab]? =some (.cells [Value.int .i64 (pos:Nat)].toArray 3 (0,0))
 row: ∃v,w.heap[k.R]? =some (.cells (MF k.dict v s cv).toArray 183 (0,0))∧Own k.base w v s.out
 low:k.base≤k.bb∧k.base≤k.ab∧k.base≤k.R
 bytes:Bytes w k.A k.B∧ ∀a,k.A=some a→a.block<k.base
 nums:k.B.length≤k.c∧k.c≤9223372036854775807∧k.B.length≤140737488355328∧pos≤k.B.length∧s.start≤s.out.length
 below:Below k.base k.w0 w
 FY:k.base≤k.w0.heap.size
def Uk(k:FX)(w:World)(pos:Nat)(s:jy):Prop:= ∃cv,yH k w pos s cv∧mg k.base w cv s
theorem Own.neT{base:Nat}{W:World}{v:Value}{l:List UInt8}(h:Own base W v l){j:Nat}{cs:Array Value}{t:TypeId}{x:Nat×Nat}(hj:W.heap[j]? =some (.cells cs t x))(ht:t≠5):v.ownBlock≠some j:=by
 intro he
 rcases h with⟨_,⟨rfl,_⟩ | ⟨g',cap',cur,rfl,_,h4,_⟩⟩
 ·cases he
 ·have e:g'=j:=by simpa [Value.ownBlock]using he
  subst e
  rw[h4]at hj;injection hj with hj;injection hj with _ e2 _;exact ht e2.symm
theorem Own.typed{base:Nat}{w:World}{v:Value}{l:List UInt8}(h:Own base w v l){g:Nat}(hg:v.ownBlock=some g): ∃cs x,w.heap[g]? =some (.cells cs 5 x):=by
 rcases h with⟨_,⟨rfl,_⟩ | ⟨g',cap',cur,rfl,_,h4,_⟩⟩
 ·cases hg
 ·have e:g'=g:=by simpa [Value.ownBlock]using hg
  subst e
  exact⟨_,_,h4⟩
section
variable{k:FX}{w w':World}{pos:Nat}{s:jy}{cv:Value}
theorem yH.keep(h:yH k w pos s cv)(hb:Below k.base w w')(hX: ∀(i:Nat) (cs:Array Value) (t:TypeId) (x:Nat×Nat),w.heap[i]? =some (Obj.cells cs t x)→(t=22∨t=3∨t=183∨t=5)→w'.heap[i]? =w.heap[i]?):yH k w' pos s cv:=by
 obtain⟨v,hr,ho⟩:=h.row
 refine⟨(hX _ _ _ _ h.AU (.inl rfl)).trans h.AU,(hX _ _ _ _ h.uX (.inr (.inl rfl))).trans h.uX,⟨v,(hX _ _ _ _ hr (.inr (.inr (.inl rfl)))).trans hr,ho.MC fun g hg=> ?_⟩,h.low,⟨?_,h.bytes.2⟩,h.nums,h.below.trans hb,h.FY⟩
 ·obtain⟨cs,x,hc⟩:=ho.typed hg
  exact hX _ _ _ _ hc (.inr (.inr (.inr rfl)))
 ·refine h.bytes.1.keep hb.size fun p hp _=>hb.cell ?_
  cases hA:k.A with
  | none=>rw[hA]at hp;cases hp
  | some a=>
   rw[hA]at hp
   have e:a.block=p.block:=by simpa using hp
   rw[←e];exact h.bytes.2 a hA
theorem yH.of_below(h:yH k w pos s cv)(hb:Below w.heap.size w w'):yH k w' pos s cv:=
 h.keep (hb.mono (Nat.le_trans h.FY h.below.size)) fun i _ _ _ hi _=>hb.block i (Array.getElem?_eq_some_iff.1 hi).1
theorem mg.keep{base:Nat}(h:mg base w cv s)(hX: ∀(i:Nat) (cs:Array Value) (t:TypeId) (x:Nat×Nat),w.heap[i]? =some (Obj.cells cs t x)→(t=146∨t=291)→w'.heap[i]? =w.heap[i]?):mg base w' cv s:=by
 intro h1 h2
 obtain⟨C,L,e,hb,hM,hp⟩:=h h1 h2
 obtain⟨T,hT,_⟩:=hM.box
 obtain⟨l,hl,_⟩:=hM.lits
 exact⟨C,L,e,hb,hM.keep (hX _ _ _ _ hT (.inl rfl)) (hX _ _ _ _ hl (.inr rfl)),hp⟩
theorem mg.of_below{base:Nat}(h:mg base w cv s)(hb:Below w.heap.size w w'):mg base w' cv s:=h.keep fun i _ _ _ hi _=>hb.block i (Array.getElem?_eq_some_iff.1 hi).1
theorem mg.set{base:Nat}(h:mg base w cv s){p:Addr}{cs:Array Value}{t:TypeId}{x:Nat×Nat}(hp:w.heap[p.block]? =some (.cells cs t x))(h1:t≠146)(h2:t≠291)(u:Value):mg base (w.setCell p u) cv s:=
 h.keep fun i _ t' _ hi ht=>ah _ _ _ _ (row_ne hi hp (by rcases ht with rfl | rfl<;>(first | exact fun e=>h1 e.symm | exact fun e=>h2 e.symm)))
theorem mg.same{base:Nat}{s':jy}(h:mg base w cv s)(h1:s'.clear=s.clear)(h2:s'.asked=s.asked)(h3:s'.lc=s.lc∧s'.lp=s.lp∧s'.pb=s.pb∧s'.st=s.st∧s'.r=s.r∧s'.P=s.P):mg base w cv s':=by
 unfold mg at*
 obtain⟨e1,e2,e3,e4,e5,e6⟩:=h3
 rw[h1,h2,e1,e2,e3,e4,e5,e6];exact h
theorem Uk.of_below(h:Uk k w pos s)(hb:Below w.heap.size w w'):Uk k w' pos s:=by
 obtain⟨cv,h1,h2⟩:=h
 exact⟨cv,h1.of_below hb,h2.of_below hb⟩
theorem yH.cells(h:yH k w pos s cv): ∃v,(w.cell? ⟨k.R,0,none⟩=some (.int .i64 k.dict)∧w.cell? ⟨k.R,1,none⟩=some v∧w.cell? ⟨k.R,2,none⟩=some (.int .i64 (s.start:Nat))∧w.cell? ⟨k.R,3,none⟩=some (.bool s.clear)∧w.cell? ⟨k.R,4,none⟩=some (.bool s.asked)∧w.cell? ⟨k.R,5,none⟩=some (.int .i64 (s.lc:Nat))∧w.cell? ⟨k.R,6,none⟩=some (.int .i64 (s.lp:Nat))∧w.cell? ⟨k.R,7,none⟩=some (.int .i64 (s.pb:Nat))∧w.cell? ⟨k.R,8,none⟩=some cv)∧Own k.base w v s.out∧ ∀i,w.frozen? ⟨k.R,i,none⟩=false:=by
 obtain⟨v,hr,ho⟩:=h.row
 refine⟨v,⟨?_,?_,?_,?_,?_,?_,?_,?_,?_⟩,ho,fun i=>frozen_of_row _ _ _ _ _ hr⟩<;>(rw[cell_of_row w _ _ _ _ _ hr];rfl)
theorem yH.boxes(h:yH k w pos s cv):w.cell? ⟨k.bb,0,none⟩=some (.slice k.A k.B.length k.c)∧w.cell? ⟨k.ab,0,none⟩=some (.int .i64 (pos:Nat))∧w.frozen? ⟨k.ab,0,none⟩=false∧k.bb≠k.ab:=by
 refine⟨?_,?_,frozen_of_row _ _ _ _ _ h.uX,row_ne h.AU h.uX (by decide)⟩
 ·rw[cell_of_row w _ _ _ _ _ h.AU];rfl
 ·rw[cell_of_row w _ _ _ _ _ h.uX];rfl
theorem yH.setPos(h:yH k w pos s cv){p:Nat}(hp:p≤k.B.length):yH k (w.setCell ⟨k.ab,0,none⟩ (.int .i64 (p:Nat))) p s cv:=by
 obtain⟨v,hr,ho⟩:=h.row
 have hB:Below k.base k.w0 (w.setCell ⟨k.ab,0,none⟩ (.int .i64 (p:Nat))):=h.below.setCell (p:=⟨k.ab,0,none⟩) h.low.2.1 _
 refine⟨(ah _ _ _ _ (row_ne h.AU h.uX (by decide))).trans h.AU,heap_set h.uX 0 _,⟨v,(ah _ _ _ _ (row_ne hr h.uX (by decide))).trans hr,ho.MC fun g hg=>ah _ _ _ _ (fun e=>ho.neT h.uX (by decide) (by rw[hg,e]))⟩,h.low,⟨?_,h.bytes.2⟩,⟨h.nums.1,h.nums.2.1,h.nums.2.2.1,hp,h.nums.2.2.2.2⟩,hB,h.FY⟩
 refine h.bytes.1.keep (by simp) fun q hq _=>World.cell?_setCell_far _ _ _ _ ?_
 cases hA:k.A with
 | none=>rw[hA]at hq;cases hq
 | some a=>
  rw[hA]at hq
  have e:a.block=q.block:=by simpa using hq
  have:=h.bytes.2 a hA
  have:=h.low.2.1
  show k.ab≠q.block
  omega
theorem yH.put(h:yH k w pos s cv)(i:Nat)(u:Value){s':jy}{cv':Value}(hrow: ∀v,(MF k.dict v s cv).set i u=MF k.dict v s' cv')(ho':s'.out=s.out)(hst:s'.start≤s'.out.length):yH k (w.setCell ⟨k.R,i,none⟩ u) pos s' cv':=by
 obtain⟨v,hr,ho⟩:=h.row
 have hB:Below k.base k.w0 (w.setCell ⟨k.R,i,none⟩ u):=h.below.setCell (p:=⟨k.R,i,none⟩) h.low.2.2 _
 refine⟨(ah _ _ _ _ (row_ne h.AU hr (by decide))).trans h.AU,(ah _ _ _ _ (row_ne h.uX hr (by decide))).trans h.uX,⟨v,by rw[←hrow v];exact heap_set hr i u,?_⟩,h.low,⟨?_,h.bytes.2⟩,⟨h.nums.1,h.nums.2.1,h.nums.2.2.1,h.nums.2.2.2.1,hst⟩,hB,h.FY⟩
 ·rw[ho'];exact ho.MC fun g hg=>ah _ _ _ _ (fun e=>ho.neT hr (by decide) (by rw[hg,e]))
 ·refine h.bytes.1.keep (by simp) fun q hq _=>World.cell?_setCell_far _ _ _ _ ?_
  cases hA:k.A with
  | none=>rw[hA]at hq;cases hq
  | some a=>
   rw[hA]at hq
   have e:a.block=q.block:=by simpa using hq
   have:=h.bytes.2 a hA
   have:=h.low.2.2
   show k.R≠q.block
   omega
end
def um(k:FX)(x:yN)(e:Ending)(w':World):Prop:=
 match x with
 | .bad n=>e= .returned (.int .i64 (n:Nat))∧Below k.base k.w0 w'
 | .go pos s=>e= .returned (.int .i64 0)∧Uk k w' pos s
end
def zK(w:World)(e:Ending)(w':World):Prop:=e= .returned (.tuple #[.slice none 0 0,.int .i64 2])∧w=w'
def ZH(k:FX)(pos n:Nat)(s:jy)(cv:Value)(w:World)(e:Ending)(w':World):Prop:=
 ∃AP cP,e= .returned (.tuple #[.slice AP n cP,.int .i64 0])∧(n≤cP∧cP≤9223372036854775807)∧(Bytes w' AP ((k.B.drop pos).take n)∧ ∀a,AP=some a→a.block<k.base)∧yH k w' (pos+n) s cv∧(∀s' cv',mg k.base w cv' s'→mg k.base w' cv' s')
abbrev Rk(k:FX):Value:= .func (.func 113) #[] #[PF k.bb,PF k.ab]
theorem nR{k:FX}{w:World}{pos:Nat}{s:jy}{cv:Value}(h:yH k w pos s cv)(n:Nat)(hn:n≤1000000)(hl:k.B.length<pos+n):Calls Tryz.prog 113 #[.int .i64 (n:Nat),PF k.bb,PF k.ab] w (zK w):=by
 obtain⟨b0,b1,b2,hne⟩:=h.boxes
 obtain⟨n1,n2,n3,n4,_⟩:=h.nums
 obtain⟨L,hL⟩: ∃L,k.B.length=L:=⟨_,rfl⟩
 rw[hL]at b0 hl n1 n3 n4
 have Fb:(L:Int)-(pos:Int)<(n:Int):=by omega
 have hlb:decide ((L:Int)-(pos:Int)<(n:Int))=true:=decide_eq_true Fb
 have hni:(n:Int)≤1000000:=by omega
 have hpi:(pos:Int)≤(L:Int):=by omega
 have hLi:(L:Int)≤140737488355328:=by omega
 clear h hL
 go_enter Tryz.func113,Tryz.ntmps113
 go_wp2_with fail
 go_ret2
 exact⟨rfl,rfl⟩
theorem qc{k:FX}{w:World}{pos:Nat}{s:jy}{cv:Value}(h:yH k w pos s cv)(n:Nat)(hn:n≤1000000)(hl:pos+n≤k.B.length):Calls Tryz.prog 113 #[.int .i64 (n:Nat),PF k.bb,PF k.ab] w (ZH k pos n s cv w):=by
 obtain⟨b0,b1,b2,hne⟩:=h.boxes
 obtain⟨n1,n2,n3,n4,_⟩:=h.nums
 have hset:=h.setPos (p:=pos+n) hl
 have EC: ∀s' cv',mg k.base w cv' s'→mg k.base (w.setCell ⟨k.ab,0,none⟩ (.int .i64 ((pos+n:Nat):Nat))) cv' s':=fun s' cv' hc=>hc.set (p:=⟨k.ab,0,none⟩) h.uX (by decide) (by decide) _
 obtain⟨q,hq⟩: ∃q,pos+n=q:=⟨_,rfl⟩
 rw[hq]at hset EC hl
 have hby:=hset.bytes
 have hcut:=(hby.1.cutFrom (k:=pos) n4 n1).take n
 obtain⟨AP,hAP⟩: ∃AP,(if k.c=pos then k.A else k.A.map (·.add pos))=AP:=⟨_,rfl⟩
 rw[hAP]at hcut
 have hcl: ∀a,AP=some a→a.block<k.base:=by
  intro a ha
  rw[←hAP]at ha
  split at ha
  ·exact hby.2 a ha
  ·cases hA:k.A with
   | none=>rw[hA]at ha;cases ha
   | some a'=>
    rw[hA]at ha
    have e:a'.add pos=a:=by simpa using ha
    rw[←e];exact(show(a'.add pos).block=a'.block from by unfold Addr.add;split<;>rfl)▸hby.2 a' hA
 have HAP:=Lib.hid hAP
 have vX:=Lib.hid (And.intro hset (And.intro EC (And.intro hcut hcl)))
 have b0':=hset.boxes.1
 have b1':=hset.boxes.2.1
 have HQ:=Lib.hid hq
 obtain⟨L,hL⟩: ∃L,k.B.length=L:=⟨_,rfl⟩
 rw[hL]at b0 b0' hl n1 n3 n4
 have hpq:(pos:Int)+(n:Int)=(q:Int):=by omega
 have hqp:(q:Int)-(n:Int)=(pos:Int):=by omega
 have atG:(pos:Int)≤(q:Int):=by omega
 have hqL:(q:Int)≤(L:Int):=by omega
 have hLc:(L:Int)≤(k.c:Int):=by omega
 have hci:(k.c:Int)≤9223372036854775807:=by omega
 have hlb:decide ((L:Int)-(pos:Int)<(n:Int))=false:=decide_eq_false (by omega)
 have hni:(n:Int)≤1000000:=by omega
 have hpi:(pos:Int)≤(L:Int):=by omega
 have hLi:(L:Int)≤140737488355328:=by omega
 have hdiff:q-pos=n:=by omega
 have HN:=Lib.hid (show n≤k.c-pos∧k.c-pos≤9223372036854775807 by omega)
 clear h hL hset EC hby hcut hAP hcl hq hl n1 n2 n3 n4
 go_enter Tryz.func113,Tryz.ntmps113
 go_wp2_with fail
 all_goals go_ret2
 ·refine⟨AP,0,?_,⟨by omega,by omega⟩,vX.out.2.2,by rw[HQ.out];exact vX.out.1,vX.out.2.1⟩
  rw[←HAP.out,if_pos (by first | assumption | omega)];try rfl
 ·refine⟨AP,k.c-pos,?_,HN.out,vX.out.2.2,by rw[HQ.out];exact vX.out.1,vX.out.2.1⟩
  rw[←HAP.out,if_neg (by assumption)];try rfl
theorem P5(a b:Nat)(ha:a<256)(hb:b<256):bits .or .i64 ((a:Int)*256) (b:Int)=((256*a+b:Nat):Int):=by
 show IntKind.i64.wrap ((BitVec.ofInt 64 ((a:Int)*256) ||| BitVec.ofInt 64 (b:Int)).toNat:Int)=_
 have h1:(BitVec.ofInt 64 ((a:Int)*256)).toNat=a*256:=by rw[BitVec.toNat_ofInt];omega
 have h2:(BitVec.ofInt 64 (b:Int)).toNat=b:=by rw[BitVec.toNat_ofInt];omega
 have h3:=Dv a b 8 hb
 rw[BitVec.toNat_or,h1,h2,show(256:Nat)=2^8 by decide,h3]
 unfold IntKind.wrap
 simp[IntKind.bits,IntKind.signed]
 omega
theorem UY(A:Option Addr)(l:List UInt8)(c:Nat)(w:World)(hB:Bytes w A l)(h:2≤l.length):Calls Tryz.prog 185 #[.slice A l.length c] w fun e w'=>e= .returned (.int .i64 (dI l 0:Nat))∧Below w.heap.size w w':=by
 obtain⟨b,off,rfl,hb,hc⟩:=hB.addr (by omega)
 clear hB
 have k0:=hc 0 (by omega)
 have k1:=hc 1 (by omega)
 rw[Nat.add_zero]at k0
 have e0:=dQ (d:=l) (i:=0) (by omega)
 have e1:=dQ (d:=l) (i:=1) (by omega)
 have hR:dI l 0=256*(l.getD 0 0).toNat+(l.getD 1 0).toNat:=rfl
 rw[←e0]at k0
 rw[←e1]at k1
 rw[hR]
 have l0:=(l.getD 0 0).toNat_lt
 have l1:=(l.getD 1 0).toNat_lt
 clear hc e0 e1 hR
 generalize l.getD 0 0=x at*
 generalize l.getD 1 0=y at*
 generalize l.length=L at*
 have HTB:=P5 x.toNat y.toNat l0 l1
 have hx:(x.toNat:Int)<256:=by omega
 have hL:(2:Int)≤(L:Int):=by omega
 have hw:wrap64 ((x.toNat:Int)*256)=(x.toNat:Int)*256:=by unfold wrap64;omega
 go_enter Tryz.func185,Tryz.ntmps185
 go_wp2_with fail
 go_quiet (fail)
 go_wp2_with fail
 go_ret
 exact⟨rfl,below_drewN (Below.refl _ _) _⟩
end Go.Proofs.YtgfpocdiojifoaaGreatDoor
