import Derived.Test.YtfcaoggfnkhfiaaGreatDoorZ22
import Derived.Deep.DeepCutAuto
import Derived.Deep.RegionHeld3
import Derived.OwnWalk
namespace Go.Proofs.YtfcaoggfnkhfiaaGreatDoor
set_option maxRecDepth 100000
set_option maxHeartbeats 8000000
open Go.RowKit Go.Proofs.Tryz
variable{p q:Int}{l l' l2 x:List UInt8}{bo er g i many n r s:Nat}{A:Option Addr}{a b c d:Value}{w w':World}
def zW(bo:Nat)(l:List UInt8)(w:World)(e:Ending)(w':World):Prop:=
 e= .returned (.tuple #[(iA l).1.agg,.int .i64 ((iA l).2.2:Nat)])∧Below bo w w'∧bH bo w w'∧((iA l).2.2=0→Rest bo w' (iA l).2.1)
def cX(r:Nat)(w:World)(f:bS):Prop:=w.heap[r]? =some (.cells #[.int .i64 f.id,.int .u32 (f.n:Nat)] 109 (0,0))
theorem cX.cells{f:bS}(h:cX r w f):w.cell? ⟨r,0,none⟩=some (.int .i64 f.id)∧w.cell? ⟨r,1,none⟩=some (.int .u32 (f.n:Nat))∧w.frozen? ⟨r,0,none⟩=false∧w.frozen? ⟨r,1,none⟩=false:=by
 refine⟨?_,?_,?_,?_⟩;·rw[cell_of_row w r 0 _ _ _ h];rfl
 ·rw[cell_of_row w r 1 _ _ _ h];rfl
 ·simp[World.frozen?,show w.heap[r]? =_ from h]
 ·simp[World.frozen?,show w.heap[r]? =_ from h]
theorem cX.zX{f:bS}(h:cX r w f)(i:Int):cX r (w.setCell ⟨r,0,none⟩ (.int .i64 i)) ⟨i,f.n⟩:=heap_set (L:=[.int .i64 f.id,.int .u32 (f.n:Nat)]) h 0 (.int .i64 i)
theorem cX.Pp{f:bS}(h:cX r w f)(i:Int)(n:Nat):cX r ((w.setCell ⟨r,0,none⟩ (.int .i64 i)).setCell ⟨r,1,none⟩ (.int .u32 (n:Nat))) ⟨i,n⟩:=by have h1:=heap_set (L:=[.int .i64 f.id,.int .u32 (f.n:Nat)]) h 0 (.int .i64 i);exact heap_set (L:=[.int .i64 i,.int .u32 (f.n:Nat)]) h1 1 (.int .u32 (n:Nat))
theorem cX.zero{f:bS}(h:cX r w f):((w.setCell ⟨r,0,none⟩ (.int .i64 0)).setCell ⟨r,1,none⟩ (.int .u32 0)).cell? ⟨r,1,none⟩=some (.int .u32 0):=(h.Pp 0 0).cells.2.1
theorem Rest.alloc(h:Rest bo w l)(o:Obj):Rest bo (w.alloc o) l:=by
 have aH:bo+1≤w.heap.size:=by obtain⟨A,c,h1,_⟩:=h;exact h1.lt
 exact h.aA ((Below.refl _ _).alloc aH _)
theorem Rest.lt(h:Rest bo w l):bo<w.heap.size:=by obtain⟨A,c,h1,_⟩:=h;exact h1.lt
theorem UV(bo:Nat)(l:List UInt8)(w:World)(hR:Rest bo w l)(hl:l.length≤1000000):
  Calls prog 215 #[.func (.func 178) #[] #[.pointer (some ⟨bo,0,none⟩)],.func (.func 179) #[] #[.pointer (some ⟨bo,0,none⟩)]] w (zW bo l w):=by
 have aH:=hR.lt;have Ie:Hid (Below bo w (w.alloc (.cells #[.int .i64 0,.int .u32 0] 109))):=ae ((Below.refl _ _).alloc aa _);have HF0:Hid (cX w.heap.size (w.alloc (.cells #[.int .i64 0,.int .u32 0] 109)) ⟨0,0⟩):=ae (heap_alloc_last _ _);have HN0:=ae (ql bo l (w.alloc (.cells #[.int .i64 0,.int .u32 0] 109)) (hR.alloc _) hl);have HM:Hid (iA l=match fq l with
  | none=>(⟨0,0⟩,[],4)
  | some (id,l1)=>match fq l1 with
   | none=>(⟨0,0⟩,[],4)
   | some (n,l2)=>if l2.length<n then(⟨0,0⟩,[],4)else if 2147483648≤id then(⟨0,0⟩,[],5)else match eI (id:Int) (l2.take n)with
    | none=>(⟨0,0⟩,[],5)
    | some f=>(f,l2.drop n,0)):=ae rfl
 have HD:=ae (show zW bo l w=fun e w'=>e= .returned (.tuple #[(iA l).1.agg,.int .i64 ((iA l).2.2:Nat)])∧Below bo w w'∧bH bo w w'∧((iA l).2.2=0→Rest bo w' (iA l).2.1)from rfl);have yh:Hid (∀(wx:World) (u1 u2:Value),Below bo w wx→Below bo w ((wx.setCell ⟨w.heap.size,0,none⟩ u1).setCell ⟨w.heap.size,1,none⟩ u2)):=ae (fun wx u1 u2 h=>Below.setCell (p:=⟨w.heap.size,1,none⟩) (Below.setCell (p:=⟨w.heap.size,0,none⟩) h pP _) pP _);have Sf:Hid (∀(wx:World) (u1 u2:Value),bH bo w wx→bH bo w ((wx.setCell ⟨w.heap.size,0,none⟩ u1).setCell ⟨w.heap.size,1,none⟩ u2)):=ae (fun wx u1 u2 h=>(h.set (Nat.le_refl _) u1).set (Nat.le_refl _) u2);have HK0:Hid (bH bo w (w.alloc (.cells #[.int .i64 0,.int .u32 0] 109))):=ae (Below.old (ar));rw[HD.out];clear HD;generalize iA l=R at*;have ahR:(w.alloc (.cells #[.int .i64 0,.int .u32 0] 109)).heap.size=w.heap.size+1:=ag;have HWS:=ae ahR;clear ahR;go_enter func215,ntmps215;go_wp2_with fail;refine HN0.out.mono ?_;rintro e w1 ⟨az,iy,iz⟩;have ud:cX w.heap.size w1 ⟨0,0⟩:=(iy.2 _ aa).trans HF0.out;have ahS:=Ie.out.trans az;have ko1:=ae (HK0.out.trans iy.old);obtain⟨c0,c1,f0,f1⟩:=ud.cells;simp only at c0 c1;cases hn:fq l with
 | none=>
  rw[hn]at iz HM;obtain rfl:=iz;obtain rfl:R=(⟨0,0⟩,[],4):=HM.out;clear HM hn iy;go_wp2_with fail;have k1:=cX.zero ud;obtain⟨k0,_,_,_⟩:=(cX.zX ud 0).cells;simp only at k0;exact bodyPost_ret (v:= .tuple #[.agg #[.int .i64 0,.int .u32 0],.int .i64 4]) pQ rfl ⟨rfl,yh.out w1 _ _ ahS,Sf.out w1 _ _ ko1.out⟩
 | some r1=>
  obtain⟨id,l1⟩:=r1;rw[hn]at iz HM;obtain⟨rfl,iE⟩:=iz;obtain⟨hid,xT,_⟩:=iu hn;have Z0:=ae (ql bo l1 w1 iE aa);have qq:Hid (R=match fq l1 with
   | none=>(⟨0,0⟩,[],4)
   | some (n,l2)=>if l2.length<n then(⟨0,0⟩,[],4)else if 2147483648≤id then(⟨0,0⟩,[],5)else match eI (id:Int) (l2.take n)with
    | none=>(⟨0,0⟩,[],5)
    | some f=>(f,l2.drop n,0)):=ae HM.out
  have axl:(id:Int)<9223372036854775808:=aa;have eQ:w1.heap.size=w.heap.size+1:=by rw[iy.1,HWS.out]
  have UW:=ae eQ;clear HM hn iy hid eQ;go_wp2_with fail;refine Z0.out.mono ?_;rintro e w2 ⟨aD,l6,jz⟩;have Lh:cX w.heap.size w2 ⟨0,0⟩:=(l6.2 _ aa).trans ud;have KN:=ahS.trans aD;have ko2:=ae (ko1.out.trans l6.old);clear c0 c1 f0 f1;obtain⟨c0,c1,f0,f1⟩:=Lh.cells;simp only at c0 c1;cases qt:fq l1 with
  | none=>
   rw[qt]at jz qq;obtain rfl:=jz;obtain rfl:R=(⟨0,0⟩,[],4):=qq.out;clear qq qt l6;go_wp2_with fail;have k1:=cX.zero Lh;obtain⟨k0,_,_,_⟩:=(cX.zX Lh 0).cells;simp only at k0;exact bodyPost_ret (v:= .tuple #[.agg #[.int .i64 0,.int .u32 0],.int .i64 4]) pQ rfl ⟨rfl,yh.out w2 _ _ KN,Sf.out w2 _ _ ko2.out⟩
  | some r2=>
   obtain⟨n,l2⟩:=r2;rw[qt]at jz qq;obtain⟨rfl,iU⟩:=jz;obtain⟨SB,wY,_⟩:=iu qt;have HTK:=ae (Po bo n l2 w2 iU aa SB);have Av:Hid (R=if l2.length<n then(⟨0,0⟩,[],4)else if 2147483648≤id then(⟨0,0⟩,[],5)else match eI (id:Int) (l2.take n)with
    | none=>(⟨0,0⟩,[],5)
    | some f=>(f,l2.drop n,0)):=ae qq.out
   have hnI:(n:Int)<9223372036854775808:=aa;have HZ2:Hid (w2.heap.size=w.heap.size+1):=ae (by rw[l6.1,UW.out]);clear qq qt l6 SB;go_wp2_with fail;refine HTK.out.mono ?_;rintro e w3 ⟨bA,mi,vV⟩;have Qp:cX w.heap.size w3 ⟨0,0⟩:=(mi.2 _ aa).trans Lh;have Y1:=KN.trans bA;have ko3:=ae (ko2.out.trans mi.old);clear c0 c1 f0 f1;obtain⟨c0,c1,f0,f1⟩:=Qp.cells;simp only at c0 c1;rcases vV with⟨ahT,rfl⟩ | ⟨aor,A3,c3,rfl,ln,hA3,Qc⟩
   ·obtain rfl:R=(⟨0,0⟩,[],4):=(by rw[Av.out,if_pos ahT]);clear Av ahT mi;go_wp2_with fail;have k1:=cX.zero Qp;obtain⟨k0,_,_,_⟩:=(cX.zX Qp 0).cells;simp only at k0;exact bodyPost_ret (v:= .tuple #[.agg #[.int .i64 0,.int .u32 0],.int .i64 4]) pQ rfl ⟨rfl,yh.out w3 _ _ Y1,Sf.out w3 _ _ ko3.out⟩
   ·by_cases UX:2147483648≤id;·obtain rfl:R=(⟨0,0⟩,[],5):=(by rw[Av.out,if_neg aa,if_pos UX]);have hbi:(2147483648:Int)≤(id:Int):=aa;clear Av UX mi;go_wp2_with fail;have k1:=cX.zero Qp;obtain⟨k0,_,_,_⟩:=(cX.zX Qp 0).cells;simp only at k0;exact bodyPost_ret (v:= .tuple #[.agg #[.int .i64 0,.int .u32 0],.int .i64 5]) pQ rfl ⟨rfl,yh.out w3 _ _ Y1,Sf.out w3 _ _ ko3.out⟩
    ·have hbi:decide ((2147483648:Int)≤(id:Int))=false:=(by simp;omega);have VJ:Hid (R=match eI (id:Int) (l2.take n)with
      | none=>(⟨0,0⟩,[],5)
      | some f=>(f,l2.drop n,0)):=ae (by rw[Av.out,if_neg aa,if_neg UX])
     have Jr:(l2.take n).length=n:=mV;have EU:=OJ (id:Int) A3 (l2.take n) c3 w3 ln;rw[Jr]at EU;clear Jr hA3 ln aor xT wY;have Pb:w.heap.size<w3.heap.size:=(by rw[mi.1,HZ2.out];omega);have RP:=ae Qc;have Qr:=ae Pb;clear Pb Qc;cases sj:eI (id:Int) (l2.take n)with
     | none=>
      rw[sj]at EU VJ;obtain rfl:R=(⟨0,0⟩,[],5):=VJ.out;have acv:=ae (show Calls prog 246 #[.int .i64 (id:Int),.slice A3 n c3] w3 (tq w3 0 0 (.int .i64 5))from EU);clear Av VJ UX mi EU sj;go_wp2_with fail;refine acv.out.mono ?_;rintro e w4 ⟨rfl,bm⟩;have TV:cX w.heap.size w4 ⟨0,0⟩:=(bm.block _ Qr.out).trans Qp;have acw:=Y1.trans (bm.mono (am Qr.out));have ko4:=ae (ko3.out.trans (Below.old bm));clear c0 c1 f0 f1;obtain⟨c0,c1,f0,f1⟩:=TV.cells;simp only at c0 c1;go_wp2_with fail;have k1:=cX.zero TV;obtain⟨k0,_,_,_⟩:=(cX.zX TV 0).cells;simp only at k0;exact bodyPost_ret (v:= .tuple #[.agg #[.int .i64 0,.int .u32 0],.int .i64 5]) pQ rfl ⟨rfl,yh.out w4 _ _ acw,Sf.out w4 _ _ ko4.out⟩
     | some f=>
      obtain⟨tX,fn⟩:=f;rw[sj]at EU VJ;obtain rfl:R=(⟨tX,fn⟩,l2.drop n,0):=VJ.out;have acv:=ae (show Calls prog 246 #[.int .i64 (id:Int),.slice A3 n c3] w3 (tq w3 tX fn (.int .i64 0))from EU);clear Av VJ UX mi EU sj;go_wp2_with fail;refine acv.out.mono ?_;rintro e w4 ⟨rfl,bm⟩;have TV:cX w.heap.size w4 ⟨0,0⟩:=(bm.block _ Qr.out).trans Qp;have acw:=Y1.trans (bm.mono (am Qr.out));have ko4:=ae (ko3.out.trans (Below.old bm));have hR4:Rest bo w4 (l2.drop n):=RP.out.aA (bm.mono (am Qr.out));clear c0 c1 f0 f1;obtain⟨c0,c1,f0,f1⟩:=TV.cells;simp only at c0 c1;go_wp2_with fail;obtain⟨_,k1,_,_⟩:=(cX.Pp TV tX fn).cells;obtain⟨k0,_,_,_⟩:=(cX.zX TV tX).cells;simp only at k0 k1
      have V2:Rest bo ((w4.setCell ⟨w.heap.size,0,none⟩ (.int .i64 tX)).setCell ⟨w.heap.size,1,none⟩ (.int .u32 (fn:Nat))) (l2.drop n):=
       hR4.aA (Below.setCell (p:=⟨w.heap.size,1,none⟩) (Below.setCell (p:=⟨w.heap.size,0,none⟩) (Below.refl _ _) pR _) pR _)
      exact bodyPost_ret (v:= .tuple #[.agg #[.int .i64 tX,.int .u32 (fn:Nat)],.int .i64 0]) pQ rfl ⟨rfl,yh.out w4 _ _ acw,Sf.out w4 _ _ ko4.out,by first | exact V2 | exact fun _=>V2⟩
theorem G5(id:Int)(l:List UInt8)(g:bS)(h:eI id l=some g):g.id=id:=by
 unfold eI at h;split at h
 ·rename_i e;split at h
  ·split at h;·injection h with h;subst h;exact e.symm
   ·cases h
  ·cases h
 ·split at h
  ·rename_i e;split at h;·injection h with h;subst h;exact e.symm
   ·cases h
  ·split at h
   ·split at h;·injection h with h;subst h;rfl
    ·split at h;·injection h with h;subst h;rfl
     ·cases h
    ·cases h
   ·cases h
theorem Mv(l:List UInt8):(iA l).1.ok∧(iA l).2.1.length≤l.length:=by
 have hz:bS.ok ⟨0,0⟩:=⟨by show(-9223372036854775808:Int)≤0;omega,by show(0:Int)≤9223372036854775807;omega,by show 0<4294967296;omega⟩
 unfold iA;split;·exact⟨hz,ag⟩
 ·rename_i id l1 h1;split;·exact⟨hz,ag⟩
  ·rename_i n l2 h2;split;·exact⟨hz,ag⟩
   ·split;·exact⟨hz,ag⟩
    ·rename_i hid;split;·exact⟨hz,ag⟩
     ·rename_i f hf;refine⟨⟨?_,?_,Ua _ _ _ hf⟩,?_⟩;·have:=G5 _ _ _ hf;rw[this];omega
      ·have:=G5 _ _ _ hf;rw[this];omega
      ·have h3:=(iu h1).2.1;have h4:=(iu h2).2.1;simp only[List.length_drop];omega
def eK(bo many:Nat)(l:List UInt8)(w:World)(e:Ending)(w':World):Prop:=
 ∃A c d,e= .returned (.tuple #[.slice A (if(bU many (many+1) 0 l []).2.2=0 then many else 0) c,.int .u32 (d:Nat),.int .i64 ((bU many (many+1) 0 l []).2.2:Nat)])∧Below bo w w'∧bH bo w w'∧
  ((bU many (many+1) 0 l []).2.2≠0→A=none∧c=0∧d=0)∧
  ((bU many (many+1) 0 l []).2.2=0→Rest bo w' (bU many (many+1) 0 l []).2.1∧fN w' A ((bU many (many+1) 0 l []).1.take many)∧d=((bU many (many+1) 0 l []).1.getD many ⟨0,0⟩).n∧many≤c∧c≤9223372036854775807∧(∀a,A=some a→w.heap.size≤a.block))
theorem eK.err(h:bU many (many+1) 0 l []=([],[],er))(h0:er≠0)(hb:Below bo w w')(hk:bH bo w w'):eK bo many l w (.returned (.tuple #[.slice none 0 0,.int .u32 0,.int .i64 (er:Nat)])) w':=by unfold eK;rw[h];exact⟨none,0,0,by rw[if_neg h0];rfl,hb,hk,fun _=>⟨rfl,rfl,rfl⟩,fun h=>absurd h h0⟩
theorem eK.yes{c d:Nat}{acc:List bS}(h:bU many (many+1) 0 l []=(acc,l',0))(hb:Below bo w w')(hk:bH bo w w')(hr:Rest bo w' l')(hf:fN w' A (acc.take many))(hd:d=(acc.getD many ⟨0,0⟩).n)
  (hc:many≤c) (hm:c≤9223372036854775807) (hA: ∀a,A=some a→w.heap.size≤a.block):eK bo many l w (.returned (.tuple #[.slice A many c,.int .u32 (d:Nat),.int .i64 0])) w':=by
 unfold eK;rw[h];exact⟨A,c,d,rfl,hb,hk,fun h=>absurd rfl h,fun _=>⟨hr,hf,hd,hc,hm,hA⟩⟩
theorem Pq(bo many:Nat)(l:List UInt8)(w:World)(hR:Rest bo w l)(hl:l.length≤1000000)(hm:many≤3):
  Calls prog 181 #[.int .i64 (many:Nat),.func (.func 178) #[] #[.pointer (some ⟨bo,0,none⟩)],.func (.func 179) #[] #[.pointer (some ⟨bo,0,none⟩)]] w (eK bo many l w):=by
 have aH:=hR.lt;have EN:(many:Int)≤3:=aa;go_enter func181,ntmps181;go_wp2_with fail;go_loopw [9,15] (fun lv i wr=> ∃(j:Nat) (lq:List UInt8) (acc:List bS),j≤many+1∧i= .int .i64 (j:Nat)∧Hid (bU many (many+1) 0 l []=bU many (many+1-j) j lq acc)∧Hid (eM w.heap.size wr lv acc)∧acc.length=j∧Hid (∀f∈acc,f.ok)∧Hid (Rest bo wr lq)∧lq.length≤l.length∧Hid (Below bo w wr)∧Hid (bH bo w wr)) (fun _ i _=>many+1-(intOf i).toNat);case atStart=>exact⟨0,l,[],aa,rfl,ae rfl,ae (eM.nil _ _),rfl,ae ag,ae hR,aa,ae (Below.refl _ _),ae ⟨Nat.le_refl _,fun _ _ _=>rfl⟩⟩
 case round=>
  obtain⟨j,lq,acc,hj,rfl,HGO,HOW,aot,Hv,og,hlq,tU,HKO⟩:=hrel;by_cases ub:j<many+1
  ·have Dj:(j:Int)<(many:Int)+1:=(by omega);have HO:=ae (UV bo lq wr og.out aa);have wb:many+1-j=(many-j)+1:=aa;rw[wb]at HGO;have HE:=ae (HGO.out.trans (nI many (many-j) j lq acc));have acx:=ae (Mv lq);have G6:=ae (show zW bo lq wr=fun e w'=>e= .returned (.tuple #[(iA lq).1.agg,.int .i64 ((iA lq).2.2:Nat)])∧Below bo wr w'∧bH bo wr w'∧((iA lq).2.2=0→Rest bo w' (iA lq).2.1)from rfl);rw[G6.out]at HO;clear G6 wb HGO;generalize iA lq=R1 at*;obtain⟨⟨tX,fn⟩,l',er⟩:=R1;go_wp2_with fail;refine HO.out.mono ?_;rintro e w1 ⟨rfl,az,iy,mf⟩;have a7:=ae (tU.out.trans az);have EZ:=ae (HKO.out.trans iy);have hzz:=HKO.out.1;have vw:Below bo w (w1.alloc (.cells #[.int .i64 tX,.int .u32 (fn:Nat)] 109)):=a7.out.alloc (am EZ.out.1) _;have hkA:bH bo w (w1.alloc (.cells #[.int .i64 tX,.int .u32 (fn:Nat)] 109)):=EZ.out.trans (Below.old (ar));by_cases he:er=0
   ·subst he;have wZ:=ae (mf rfl);have GJ:Hid (bU many (many+1) 0 l []=if(tX==33) !=(j==many)then([],[],5)else bU many (many-j) (j+1) l' (acc++[⟨tX,fn⟩])):=ae HE.out;have ahV:eM w.heap.size w1 u9 acc:=HOW.out.aA (fun g e=>iy.2 g (HOW.out.lt g e).2 (fun e2=>by have:=(HOW.out.lt g e).1;omega));have⟨b2,Pr⟩:=ex ((j==many));have⟨b1,aou⟩:=ex ((tX==33));have fC:((j:Int)==(many:Int))=b2:=(by rw[←Pr,Bool.eq_iff_iff];simp;omega);rw[Pr,aou]at GJ;clear Pr;have lX:=wZ.out.alloc (.cells #[.int .i64 tX,.int .u32 (fn:Nat)] 109);have ahW:=ahV.alloc (.cells #[.int .i64 tX,.int .u32 (fn:Nat)] 109);have HA:=ae (And.intro vw (And.intro hkA (And.intro lX ahW)));have iX:b1=b2∨b1≠b2:=(by cases b1<;>cases b2<;>simp);clear vw hkA lX ahW ahV mf az iy HE;rcases iX with rfl | dH
    ·have BJ:Hid (bU many (many+1) 0 l []=bU many (many-j) (j+1) l' (acc++[⟨tX,fn⟩])):=ae (by rw[GJ.out];simp);have HWB:Hid (Below (w1.alloc (.cells #[.int .i64 tX,.int .u32 (fn:Nat)] 109)).heap.size (w1.alloc (.cells #[.int .i64 tX,.int .u32 (fn:Nat)] 109)) ((w1.alloc (.cells #[.int .i64 tX,.int .u32 (fn:Nat)] 109)).alloc (.cells #[.int .i64 tX,.int .u32 (fn:Nat)] 109))):=ae (ar);obtain⟨A9,c9,hu9,_,_,_⟩:=HA.out.2.2.2.read Hv.out;have hF1:=zz (w1.alloc (.cells #[.int .i64 tX,.int .u32 (fn:Nat)] 109)) ⟨tX,fn⟩ acx.out.1;rw[show(w1.alloc (.cells #[.int .i64 tX,.int .u32 (fn:Nat)] 109)).heap.size=w1.heap.size+1 by simp]at hF1;have Y4:=HA.out.2.2.2.alloc (.cells #[.int .i64 tX,.int .u32 (fn:Nat)] 109);have VH:=HA.out.1.alloc (am HA.out.2.1.1) (.cells #[.int .i64 tX,.int .u32 (fn:Nat)] 109);have hkB:=HA.out.2.1.trans (Below.old HWB.out);have hrB:=HA.out.2.2.1.alloc (.cells #[.int .i64 tX,.int .u32 (fn:Nat)] 109);have DK:=ae (And.intro VH (And.intro hkB hrB));have aox:=hkB.1;have sM:Hid (acc.length+[(⟨tX,fn⟩:bS)].length≤1000000):=ae av;clear VH hkB hrB hu9;cases b1
     all_goals
      go_wp2_with (at_builtin;refine rP rfl (.tmp 34) (.tmp 36) rfl w.heap.size _ u9 acc rfl Y4 (some ⟨w1.heap.size+1,0,none⟩) [⟨tX,fn⟩] 1 rfl hF1 sM.out aox ?_;intro v2 w2 el gI)
      have aD:Below bo w w2:=ao DK.out.1 gI (am DK.out.2.1.1) (fun g e=>by have:=(Y4.lt g e).1;omega);have l6:bH bo w w2:=⟨Nat.le_trans DK.out.2.1.1 gI.size,fun g h1 h2=>(gI.block g (am DK.out.2.1.1) (fun e=>by have:=(Y4.lt g e.symm).1;omega)).trans (DK.out.2.1.2 g h1 h2)⟩
      have wm:Rest bo w2 l':=DK.out.2.2.aA (ao (Below.refl _ _) gI (am DK.out.2.1.1) (fun g e=>by have:=(Y4.lt g e).1;omega));exact⟨⟨j+1,l',acc++[⟨tX,fn⟩],aa,aE,ae (by rw[BJ.out];congr 1;omega),ae el,av,ae (fun f hf=>by rcases List.mem_append.1 hf with h | h;exact Hv.out f h;rw[List.mem_singleton.1 h];exact acx.out.1),ae wm,Nat.le_trans acx.out.2 hlq,ae aD,ae l6⟩,jb⟩
    ·have BJ:Hid (bU many (many+1) 0 l []=([],[],5)):=ae (by rw[GJ.out,if_pos (by simpa using dH)]);cases b1<;>cases b2;·exact absurd rfl dH
     ·clear dH;go_wp2_with fail;go_ret3;exact eK.err BJ.out ak HA.out.1 HA.out.2.1
     ·clear dH;go_wp2_with fail;go_ret3;exact eK.err BJ.out ak HA.out.1 HA.out.2.1
     ·exact absurd rfl dH
   ·have BJ:Hid (bU many (many+1) 0 l []=([],[],er)):=ae (by rw[HE.out,if_pos he]);have Qs:(0:Int)<(er:Int):=aa;have HEZ:=ae he;have VI:=ae (And.intro vw hkA);clear he vw hkA;go_wp2_with fail;go_ret3;exact eK.err BJ.out HEZ.out VI.out.1 VI.out.2
  ·obtain rfl:j=many+1:=(by omega);rw[Nat.sub_self]at HGO;have aoy:Hid (bU many (many+1) 0 l []=(acc,lq,0)):=ae HGO.out;obtain⟨A9,c9,rfl,V5,hm9,hF9⟩:=HOW.out.read Hv.out;obtain⟨b,off,rfl,L6,dm⟩:=hF9.addr aa;have hfj:=dm many aa;have mb:acc.getD many ⟨0,0⟩=acc[many]:=(by simp[List.getD,show many<acc.length by omega]);have HGD:=ae mb;have aoz:w.heap.size≤b:=(HOW.out.lt b rfl).1;have Ic:=ae (fun(w':World) (hb:Below wr.heap.size wr w')=>(hb.cell (p:=⟨b,off+many*2+1,none⟩) L6).trans hfj.c1);have xP:fN wr (some ⟨b,off,none⟩) (acc.take many):=(by refine .inr ⟨b,off,rfl,L6,fun i hi=> ?_⟩;have h2:=dm i (by rw[List.length_take]at hi;omega);rw[List.getElem_take];exact h2);have UY:=ae xP;generalize acc[many]=f9 at*;obtain⟨id9,n9⟩:=f9;rw[aot];have hmc:(many:Int)+1≤(c9:Int):=aa;have HC:=ae (show(many:Int)≤(c9:Int)∧(many:Int)<(many:Int)+1∧(0:Int)≤(many:Int) by omega);have bw:Below wr.heap.size wr wr.drew:=bg wr;clear mb xP hfj dm hF9 HGO ub HOW;go_wp2_with fail;refine wp_region_held_drew (S:=fun w'=>Below wr.heap.size wr w') ai bw (fun hS=> ?_);refine af 0 hS (h:=af 1 hS (h:=cw 2 rfl (fun w hSw=>K6) hS (h:=af 3 hS (h:=af 4 hS (h:=cw 5 rfl (fun w hSw=>K6) hS (h:=af 6 hS (h:=bI 7 Ic.out hS (h:=af 8 hS (h:=af 9 hS (h:=af 10 hS (h:= ?_)))))))))));refine wpAnyH_done ai ?_ _;go_wp2_with fail;go_ret3;exact eK.yes aoy.out (tU.out.trans (bw.mono (am HKO.out.1))) (HKO.out.trans (Below.old bw)) (og.out.aA (bw.mono (am HKO.out.1))) (UY.out.below bw) (by rw[HGD.out]) aa hm9 (fun a e=>by injection e with e;subst e;exact aoz)
def dC(r:Nat)(w:World)(a b c d:Value):Prop:=w.heap[r]? =some (.cells #[a,b,c,d] 75 (0,0))
theorem dC.cells(h:dC r w a b c d):w.cell? ⟨r,0,none⟩=some a∧w.cell? ⟨r,1,none⟩=some b∧w.cell? ⟨r,2,none⟩=some c∧w.cell? ⟨r,3,none⟩=some d:=by refine⟨?_,?_,?_,?_⟩<;>(rw[cell_of_row w r _ _ _ _ h];rfl)
theorem dC.frozen(h:dC r w a b c d)(i:Nat):w.frozen? ⟨r,i,none⟩=false:=by simp[World.frozen?,show w.heap[r]? =_ from h]
theorem dC.UZ(h:dC r w a b c d)(u:Value):dC r (w.setCell ⟨r,0,none⟩ u) u b c d:=heap_set (L:=[a,b,c,d]) h 0 u
theorem dC.zX(h:dC r w a b c d)(u:Value):dC r (w.setCell ⟨r,1,none⟩ u) a u c d:=heap_set (L:=[a,b,c,d]) h 1 u
theorem dC.Pp(h:dC r w a b c d)(u:Value):dC r (w.setCell ⟨r,2,none⟩ u) a b u d:=heap_set (L:=[a,b,c,d]) h 2 u
theorem dC.ahY(h:dC r w a b c d)(u:Value):dC r (w.setCell ⟨r,3,none⟩ u) a b c u:=heap_set (L:=[a,b,c,d]) h 3 u
theorem dC.ret(h:dC r w a b c d)(p q s t:Value):(w.setCell ⟨r,0,none⟩ p).cell? ⟨r,0,none⟩=some p∧((w.setCell ⟨r,0,none⟩ p).setCell ⟨r,1,none⟩ q).cell? ⟨r,1,none⟩=some q∧
  (((w.setCell ⟨r,0,none⟩ p).setCell ⟨r,1,none⟩ q).setCell ⟨r,2,none⟩ s).cell? ⟨r,2,none⟩=some s∧((((w.setCell ⟨r,0,none⟩ p).setCell ⟨r,1,none⟩ q).setCell ⟨r,2,none⟩ s).setCell ⟨r,3,none⟩ t).cell? ⟨r,3,none⟩=some t:=
 ⟨(h.UZ p).cells.1,((h.UZ p).zX q).cells.2.1,(((h.UZ p).zX q).Pp s).cells.2.2.1,((((h.UZ p).zX q).Pp s).ahY t).cells.2.2.2⟩
theorem dC.aA(h:dC r w a b c d)(hk:ec bo w w')(hr:r≠bo):dC r w' a b c d:=(hk.2 r hr).trans h
theorem dC.other{u:Value}(h:dC r w a b c d)(hg:g≠r):dC r (w.setCell ⟨g,i,none⟩ u) a b c d:=(ah _ _ _ _ (fun e=>hg e.symm)).trans h
theorem Mw: ∀s:Fin 256,bits .and .u8 (s.val:Int) 64=(if s.val/64%2=1 then 64 else 0)∧bits .and .u8 (s.val:Int) 128=(if s.val/128=1 then 128 else 0)∧bits .and .u8 (s.val:Int) 3=((s.val%4:Nat):Int)∧(bits .and .u8 (s.val:Int) 60=0↔s.val/4%16=0):=rm
def dS(bo s:Nat)(l:List UInt8)(w:World)(e:Ending)(w':World):Prop:=
 Below bo w w'∧bH bo w w'∧match ig s l with
 | none=>e= .returned (.tuple #[.agg #[.int .i64 0,.int .i64 0,.slice none 0 0,.int .u32 0],.int .i64 4])
 | some (p,q,l2)=>e= .returned (.tuple #[.agg #[.int .i64 p,.int .i64 q,.slice none 0 0,.int .u32 0],.int .i64 0])∧Rest bo w' l2
theorem dS.err(h:ig s l=none)(hb:Below bo w w')(hk:bH bo w w'):dS bo s l w (.returned (.tuple #[.agg #[.int .i64 0,.int .i64 0,.slice none 0 0,.int .u32 0],.int .i64 4])) w':=by unfold dS;rw[h];exact⟨hb,hk,rfl⟩
theorem dS.yes(h:ig s l=some (p,q,l2))(hb:Below bo w w')(hk:bH bo w w')(hr:Rest bo w' l2):dS bo s l w (.returned (.tuple #[.agg #[.int .i64 p,.int .i64 q,.slice none 0 0,.int .u32 0],.int .i64 0])) w':=by unfold dS;rw[h];exact⟨hb,hk,rfl,hr⟩
def acy(bo:Nat)(w:World)(p q:Int)(l:List UInt8)(wx:World):Prop:=
 dC w.heap.size wx (.int .i64 0) (.int .i64 0) (.slice none 0 0) (.int .u32 0)∧dC (w.heap.size+1) wx (.int .i64 p) (.int .i64 q) (.slice none 0 0) (.int .u32 0)∧Rest bo wx l∧Below bo w wx∧bH bo w wx
theorem ve(s:Nat)(l:List UInt8):ig s l=match rY (s/64%2==1) true l with
 | none=>none
 | some (p,l1)=>match rY (s/128==1) false l1 with
  | none=>none
  | some (q,l2)=>some (p,q,l2):=rfl
theorem zY{here z:Bool}(h:rY here z l=some (p,l')):l'.length≤l.length∧ -1≤p∧p<9223372036854775808:=by
 unfold rY at h;split at h
 ·split at h;·cases h
  ·rename_i n l1 hn;split at h;·cases h
   ·injection h with h;injection h with h1 h2;subst h1;subst h2;have:=iu hn;exact⟨aa,aa,aa⟩
 ·injection h with h;injection h with h1 h2;subst h1;subst h2;exact⟨Nat.le_refl _,aa,aa⟩
theorem KO(bo s:Nat)(l:List UInt8)(w:World)(hR:Rest bo w l)(hl:l.length≤1000000)(hs:s<256):
  Calls prog 180 #[.int .u8 (s:Nat),.func (.func 178) #[] #[.pointer (some ⟨bo,0,none⟩)]] w (dS bo s l w):=by
 have aH:=hR.lt;have⟨w0,hw0⟩:=ex ((w.alloc (.cells #[.int .i64 0,.int .i64 0,.slice none 0 0,.int .u32 0] 75)).alloc (.cells #[.int .i64 (-1),.int .i64 (-1),.slice none 0 0,.int .u32 0] 75));have hI0:Hid (acy bo w (-1) (-1) l w0):=ae (by
  have h1:(w.alloc (.cells #[.int .i64 0,.int .i64 0,.slice none 0 0,.int .u32 0] 75)).heap[w.heap.size]? =_:=heap_alloc_last _ _;have h2:=heap_alloc_last (w.alloc (.cells #[.int .i64 0,.int .i64 0,.slice none 0 0,.int .u32 0] 75)) (.cells #[.int .i64 (-1),.int .i64 (-1),.slice none 0 0,.int .u32 0] 75);rw[World.size_alloc]at h2;rw[←hw0];exact⟨(Below.heap_alloc _ _ _ ag).trans h1,h2,(hR.alloc _).alloc _,((Below.refl _ _).alloc aa _).alloc av _,Below.old ((ar).alloc ag _)⟩)
 have F9:=ae hw0;clear hw0;obtain⟨acz,U0,_,_⟩:=Mw ⟨s,hs⟩;simp only at acz U0;have HSM:=ae (ve s l);have⟨b1,az⟩:=ex ((s/64%2==1));have⟨b2,aD⟩:=ex ((s/128==1));rw[az,aD]at HSM;have HA1:Hid (bits .and .u8 (s:Int) 64=if b1=true then 64 else 0):=ae (by rw[acz,←az];simp);have HA2:Hid (bits .and .u8 (s:Int) 128=if b2=true then 128 else 0):=ae (by rw[U0,←aD];simp);clear acz U0 az aD;go_enter func180,ntmps180;go_upto_region 2 with fail;rw[F9.out];have gl:=ae (fun(wx:World) (h:Below bo w wx) (i:Nat) (u:Value)=>(Below.setCell (p:=⟨w.heap.size+1,i,none⟩) h (by show bo≤w.heap.size+1;omega) u));have HRT:=ae (fun(wx:World) (lx:List UInt8) (h:Rest bo wx lx) (i:Nat) (u:Value)=>h.aA (Below.setCell (p:=⟨w.heap.size+1,i,none⟩) (Below.refl _ _) (by show bo+1≤w.heap.size+1;omega) u))
 have zZ:=ae (fun(wx:World) (h:Below bo w wx) (a b c d:Value)=>(show Below bo w ((((wx.setCell ⟨w.heap.size,0,none⟩ a).setCell ⟨w.heap.size,1,none⟩ b).setCell ⟨w.heap.size,2,none⟩ c).setCell ⟨w.heap.size,3,none⟩ d)from
  Below.setCell (p:=⟨w.heap.size,3,none⟩) (Below.setCell (p:=⟨w.heap.size,2,none⟩) (Below.setCell (p:=⟨w.heap.size,1,none⟩) (Below.setCell (p:=⟨w.heap.size,0,none⟩) h pP a) pP b) pP c) pP d))
 have Mx:=ae (fun(wx:World) (h:bH bo w wx) (a b c d:Value)=>(show bH bo w ((((wx.setCell ⟨w.heap.size,0,none⟩ a).setCell ⟨w.heap.size,1,none⟩ b).setCell ⟨w.heap.size,2,none⟩ c).setCell ⟨w.heap.size,3,none⟩ d)from
  (((h.set (Nat.le_refl _) a).set (Nat.le_refl _) b).set (Nat.le_refl _) c).set (Nat.le_refl _) d))
 have ahZ:=ae (fun(wx:World) (lx:List UInt8) (h:Rest bo wx lx) (a b c d:Value)=>(show Rest bo ((((wx.setCell ⟨w.heap.size,0,none⟩ a).setCell ⟨w.heap.size,1,none⟩ b).setCell ⟨w.heap.size,2,none⟩ c).setCell ⟨w.heap.size,3,none⟩ d) lx from
  h.aA (Below.setCell (p:=⟨w.heap.size,3,none⟩) (Below.setCell (p:=⟨w.heap.size,2,none⟩) (Below.setCell (p:=⟨w.heap.size,1,none⟩) (Below.setCell (p:=⟨w.heap.size,0,none⟩) (Below.refl _ _) pR a) pR b) pR c) pR d)))
 clear F9;go_upto_if 14 with fail;go_cut []from 11 (fun wx=> ∃p l1,rY b1 true l=some (p,l1)∧acy bo w p (-1) l1 wx);case first=>
  cases b1 with
  | false=>
   have ha:=HA1.out;rw[if_neg ag]at ha;go_wp2_with fail;go_meet;exact⟨-1,l,rfl,hI0.out⟩
  | true=>
   have ha:=HA1.out;rw[if_pos rfl]at ha;obtain⟨hz,hh,hr,hb,hk⟩:=hI0.out;have HN:=ae (ql bo l w0 hr aa);have My:=ae (show rY true true l=(match fq l with
    | none=>none
    | some (n,l')=>if(true&&n==0)=true then none else some ((n:Int),l'))from rfl)
   go_wp2_with fail;refine HN.out.mono ?_;rintro e w1 ⟨az,iy,iz⟩;have eQ:=hz.aA iy aa;have H7:=hh.aA iy aa;have a7:=ae (hb.trans az);have EZ:=ae (hk.trans iy.old);have UW:=ae eQ;have HH1:=ae H7;obtain⟨z0,z1,z2,z3⟩:=eQ.cells;have EO:=eQ.frozen 0;have EP:=eQ.frozen 1;have EQ:=eQ.frozen 2;have ER:=eQ.frozen 3;cases hn:fq l with
   | none=>
    rw[hn]at iz My;obtain rfl:=iz;have HNO:Hid (ig s l=none):=ae (by rw[HSM.out,My.out]);clear hn iy az hz hh hb hk hr eQ H7;go_wp2_with fail;obtain⟨k0,k1,k2,k3⟩:=dC.ret UW.out (.int .i64 0) (.int .i64 0) (.slice none 0 0) (.int .u32 0);exact bodyPost_ret (v:= .tuple #[.agg #[.int .i64 0,.int .i64 0,.slice none 0 0,.int .u32 0],.int .i64 4]) wN rfl (dS.err HNO.out (zZ.out w1 a7.out _ _ _ _) (Mx.out w1 EZ.out _ _ _ _))
   | some r1=>
    obtain⟨n,l'⟩:=r1;rw[hn]at iz My;obtain⟨rfl,iE⟩:=iz;obtain⟨SB,Jr,_⟩:=iu hn;have pX:(n:Int)<9223372036854775808:=aa;have wZ:=ae iE;by_cases Bc:n=0;·subst Bc;have HNO:Hid (ig s l=none):=ae (by rw[HSM.out,My.out];rfl);clear hn iy az hz hh hb hk hr eQ H7;go_wp2_with fail;obtain⟨k0,k1,k2,k3⟩:=dC.ret UW.out (.int .i64 0) (.int .i64 0) (.slice none 0 0) (.int .u32 0);exact bodyPost_ret (v:= .tuple #[.agg #[.int .i64 0,.int .i64 0,.slice none 0 0,.int .u32 0],.int .i64 4]) wN rfl (dS.err HNO.out (zZ.out w1 a7.out _ _ _ _) (Mx.out w1 EZ.out _ _ _ _))
    ·have FC:((n:Int)==0)=false:=(by simp;omega);have HF:Hid (rY true true l=some ((n:Int),l')):=ae (by rw[My.out];simp[Bc]);obtain⟨y0,y1,y2,y3⟩:=HH1.out.cells;have yf:=HH1.out.frozen 0;clear hn iy az hz hh hb hk hr eQ H7 SB Jr iE Bc;go_wp2_with fail;go_meet;exact⟨(n:Int),l',HF.out,UW.out.other aa,HH1.out.UZ _,HRT.out _ _ wZ.out 0 _,gl.out _ a7.out 0 _,EZ.out.set aa _⟩
 case rest=>
 obtain⟨p,l1,hp,hi1⟩:=hcut;have qp:=zY hp;have ah0:Hid (ig s l=match rY b2 false l1 with
  | none=>none
  | some (q,l2)=>some (p,q,l2)):=ae (by rw[HSM.out,hp])
 have HI1:=ae hi1;clear hi1 hI0 HA1 hp;go_upto_if 32 with fail;go_cut []from 11 (fun wx=> ∃q l2,rY b2 false l1=some (q,l2)∧acy bo w p q l2 wx);case first=>
  cases b2 with
  | false=>
   have ha:=HA2.out;rw[if_neg ag]at ha;go_wp2_with fail;go_meet;exact⟨-1,l1,rfl,HI1.out⟩
  | true=>
   have ha:=HA2.out;rw[if_pos rfl]at ha;obtain⟨hz,hh,hr,hb,hk⟩:=HI1.out;have HN:=ae (ql bo l1 wc hr aa);have My:=ae (show rY true false l1=(match fq l1 with
    | none=>none
    | some (n,l')=>if(false&&n==0)=true then none else some ((n:Int),l'))from rfl)
   go_wp2_with fail;refine HN.out.mono ?_;rintro e w1 ⟨az,iy,iz⟩;have eQ:=hz.aA iy aa;have H7:=hh.aA iy aa;have a7:=ae (hb.trans az);have EZ:=ae (hk.trans iy.old);have UW:=ae eQ;have HH1:=ae H7;obtain⟨z0,z1,z2,z3⟩:=eQ.cells;have EO:=eQ.frozen 0;have EP:=eQ.frozen 1;have EQ:=eQ.frozen 2;have ER:=eQ.frozen 3;cases hn:fq l1 with
   | none=>
    rw[hn]at iz My;obtain rfl:=iz;have HNO:Hid (ig s l=none):=ae (by rw[ah0.out,My.out]);clear hn iy az hz hh hb hk hr eQ H7;go_wp2_with fail;obtain⟨k0,k1,k2,k3⟩:=dC.ret UW.out (.int .i64 0) (.int .i64 0) (.slice none 0 0) (.int .u32 0);exact bodyPost_ret (v:= .tuple #[.agg #[.int .i64 0,.int .i64 0,.slice none 0 0,.int .u32 0],.int .i64 4]) wN rfl (dS.err HNO.out (zZ.out w1 a7.out _ _ _ _) (Mx.out w1 EZ.out _ _ _ _))
   | some r1=>
    obtain⟨n,l'⟩:=r1;rw[hn]at iz My;obtain⟨rfl,iE⟩:=iz;obtain⟨SB,Jr,_⟩:=iu hn;have pX:(n:Int)<9223372036854775808:=aa;have wZ:=ae iE;have HF:Hid (rY true false l1=some ((n:Int),l')):=ae (by rw[My.out];rfl);obtain⟨y0,y1,y2,y3⟩:=HH1.out.cells;have yf:=HH1.out.frozen 1;clear hn iy az hz hh hb hk hr eQ H7 SB Jr iE;go_wp2_with fail;go_meet;exact⟨(n:Int),l',HF.out,UW.out.other aa,HH1.out.zX _,HRT.out _ _ wZ.out 1 _,gl.out _ a7.out 1 _,EZ.out.set aa _⟩
 case rest=>
 obtain⟨q,l2,hq,hi2⟩:=hcut;have aoC:Hid (ig s l=some (p,q,l2)):=ae (by rw[ah0.out,hq]);obtain⟨hz,hh,hr,hb,hk⟩:=hi2;have UW:=ae hz;have a7:=ae hb;have EZ:=ae hk;have wZ:=ae hr;obtain⟨y0,y1,y2,y3⟩:=hh.cells;obtain⟨z0,z1,z2,z3⟩:=hz.cells;have EO:=hz.frozen 0;have EP:=hz.frozen 1;have EQ:=hz.frozen 2;have ER:=hz.frozen 3;clear hz hh hr hb hk hq HI1 qp;go_wp2_with fail;obtain⟨k0,k1,k2,k3⟩:=dC.ret UW.out (.int .i64 p) (.int .i64 q) (.slice none 0 0) (.int .u32 0);exact bodyPost_ret (v:= .tuple #[.agg #[.int .i64 p,.int .i64 q,.slice none 0 0,.int .u32 0],.int .i64 0]) wN rfl (dS.yes aoC.out (zZ.out wc a7.out _ _ _ _) (Mx.out wc EZ.out _ _ _ _) (ahZ.out wc l2 wZ.out _ _ _ _))
theorem cS(A B:Option Addr)(l m:List UInt8)(c d:Nat)(w:World)(h1:Bytes w A l)(h2:Bytes w B m):Calls prog 92 #[.slice A l.length c,.slice B m.length d] w fun e w'=>e= .returned (.bool (l==m))∧w=w':=by refine(m9 (.slice A l.length c) (.slice B m.length d) ⟨l.toArray⟩ ⟨m.toArray⟩ w (lz h1 c) (lz h2 d)).mono fun e w' h=> ?_;obtain⟨rfl,rfl⟩:=h;rw[ByteArray.toList_mk,ByteArray.toList_mk];exact⟨rfl,rfl⟩
def ft(l:List UInt8)(A:Option Addr)(c:Nat)(w:World)(e:Ending)(w':World):Prop:=
 Below w.heap.size w w'∧(((dZ l).2=0∧e= .returned (.tuple #[.slice A (bN l-4) c,.int .i64 0]))∨((dZ l).2≠0∧e= .returned (.tuple #[.slice none 0 0,.int .i64 ((dZ l).2:Nat)])))
theorem ft.err{c:Nat}(h:dZ l=([],er))(h0:er≠0)(hb:Below w.heap.size w w'):ft l A c w (.returned (.tuple #[.slice none 0 0,.int .i64 (er:Nat)])) w':=by unfold ft;rw[h];exact⟨hb,.inr ⟨h0,rfl⟩⟩
theorem ft.yes{c:Nat}(h:dZ l=(x,0))(hn:n=bN l-4)(hb:Below w.heap.size w w'):ft l A c w (.returned (.tuple #[.slice A n c,.int .i64 0])) w':=by unfold ft;rw[h,hn];exact⟨hb,.inl ⟨rfl,rfl⟩⟩
theorem Ps(A:Option Addr)(l:List UInt8)(c:Nat)(w:World)(hB:Bytes w A l)(hc:l.length≤c)(hm:c≤9223372036854775807)(hl:l.length≤1000000):
  Calls prog 177 #[.slice A l.length c] w (ft l A c w):=by
 have HB:=ae hB
 have rZ:dZ l=if l.length=0 then([],2)else if l.getD 0 0=0 then([],4)else if l.length<bN l then([],2)
  else if(eL (l.take (bN l-4))==part l (bN l-4) 4)=false then([],4)else(l.take (bN l-4),0):=rfl
 by_cases h0:l.length=0;·have HF:=ae (show dZ l=([],2) by rw[rZ,if_pos h0]);have ZO:(l.length:Int)=0:=aa;rw[h0];clear hB rZ h0;go_enter func177,ntmps177;go_wp2_with fail;go_ret2;exact ft.err HF.out ak (Below.refl _ _)
 rw[if_neg h0]at rZ;obtain⟨b,off,rfl,gZ,hcell⟩:=hB.addr aa;have k0:w.cell? ⟨b,off+0,none⟩=some (B8 (l[0]'aa)):=hcell 0 aa;have mb:l[0]'aa=l.getD 0 0:=by simp[List.getD,show 0<l.length by omega]
 rw[mb,Nat.add_zero]at k0;have ur:(0:Int)<(l.length:Int):=aa;have Jr: ¬(l.length:Int)=0:=aa;clear hcell mb hB h0;by_cases hx:l.getD 0 0=0;·have HF:=ae (show dZ l=([],4) by rw[rZ,if_pos hx]);rw[hx]at k0;have k1:w.cell? ⟨b,off,none⟩=some (.int .u8 0):=k0;clear k0 rZ hx;go_enter func177,ntmps177;go_wp2_with fail;go_ret2;exact ft.err HF.out ak (Below.refl _ _)
 rw[if_neg hx]at rZ;have hxt:0<(l.getD 0 0).toNat:=by
  rcases Nat.eq_zero_or_pos (l.getD 0 0).toNat with h | h;·exact absurd (UInt8.toNat_inj.1 kJ) hx
  ·exact h
 have asf:=(l.getD 0 0).toNat_lt;have dl:bN l=4*(l.getD 0 0).toNat+4:=rfl;have k1:w.cell? ⟨b,off,none⟩=some (.int .u8 ((l.getD 0 0).toNat:Nat)):=k0;clear k0 hx;generalize(l.getD 0 0).toNat=x at*;have nV:((x:Int)==0)=false:=av;have⟨Z,hZ⟩:=ex (bN l);have HZ:=ae hZ;rw[hZ]at rZ dl;have VT:((x:Int)+1)*4=(Z:Int):=aa;have hZb:Z≤1024:=aa;have axr:8≤Z:=aa;by_cases aH:l.length<Z;·have HF:=ae (show dZ l=([],2) by rw[rZ,if_pos aH]);have Jv:(l.length:Int)<(Z:Int):=aa;clear rZ aH hZ dl hxt;go_enter func177,ntmps177;go_wp2_with fail;go_ret2;exact ft.err HF.out ak (Below.refl _ _)
 rw[if_neg aH]at rZ;have Jv:(Z:Int)≤(l.length:Int):=aa;have axs:decide ((l.length:Int)<(Z:Int))=false:=av;have⟨p,hp⟩:=ex (Z-4);have HP:=ae hp;rw[hp]at rZ;have HW:Hid (IntKind.i64.wrap ((Z:Int)-4)=(p:Int)):=ae (by rw[IntWalk.i64_in _ aa];omega);have HT4:Hid (Z-p=4):=ae aa;have HC:=ae (show(p:Int)≤(c:Int)∧(0:Int)≤(p:Int)∧(p:Int)≤(Z:Int)∧(Z:Int)≤(c:Int)∧ ¬c=p∧p≤Z∧(p:Int)≤(l.length:Int) by omega);have O8:(l.take p).length=p:=mV;have qp:=dJ l p 4 aa;have sk:=ae (bX (l.take p));have HS:=ae (show ∀w',Bytes w' (some ⟨b,off,none⟩) l→Calls prog 39 #[.int .i64 1,.slice (some ⟨b,off,none⟩) p c] w' (bF w' (eL (l.take p)))from fun w' h=>by
  have:=mL (some ⟨b,off,none⟩) (l.take p) c w' (h.take p) (by rw[O8];omega) hm;rwa [O8]at this)
 have HE:=ae (show ∀A2 c2 w',Bytes w' (some ⟨b,off,none⟩) l→Bytes w' A2 (eL (l.take p))→Calls prog 92 #[.slice A2 4 c2,.slice (some ⟨b,off+p,none⟩) 4 (c-p)] w' fun e Qv=>e= .returned (.bool (eL (l.take p)==part l p 4))∧w'=Qv from fun A2 c2 w' h h2=>by
  have h3:Bytes w' (some ⟨b,off+p,none⟩) (part l p 4):=(Bytes.drop p h).take 4;have:=cS _ _ (eL (l.take p)) (part l p 4) c2 (c-p) w' h2 h3;rwa [qp,bX]at this)
 have bw:Below w.heap.size w w.drew:=bg w;generalize hv:(eL (l.take p)==part l p 4)=v at*;have ah1:=ae rZ;clear rZ hv aH hZ dl hxt hp O8 qp;go_enter func177,ntmps177;go_wp2_with fail;refine wp_region_held_drew (S:=fun w'=>Below w.heap.size w w') ai bw (fun hS=> ?_);refine af 0 hS (h:=af 1 hS (h:=af 2 hS (h:= ?_)));rw[HW.out];refine cw 3 rfl (fun w hSw=>K7) hS (h:=af 4 hS (h:=af 5 hS (h:=af 6 hS (h:= ?_))));rw[HW.out];refine af 7 hS (h:=cw 8 rfl (fun w hSw=>K7) hS (h:= ?_));rw[HT4.out];refine af 9 hS (h:=af 10 hS (h:= ?_));refine wpAnyH_done ai ?_ _;go_wp2_with fail;refine(HS.out w.drew (HB.out.below bw)).mono ?_;rintro e w2 ⟨A2,c2,rfl,cU,fJ,fC,aD⟩;have g2:Below w.heap.size w w2:=aM bw aD;have iX:=ae (HE.out A2 c2 w2 (HB.out.below g2) fC);rw[sk.out];clear fC aD cU;go_wp2_with fail;refine iX.out.mono ?_;rintro e w3 ⟨rfl,rfl⟩;cases v with
 | false=>
  have HF:=ae (show dZ l=([],4) by rw[ah1.out,if_pos rfl]);go_wp2_with fail;go_ret2;exact ft.err HF.out ak g2
 | true=>
  have HF:=ae (show dZ l=(l.take p,0) by rw[ah1.out,if_neg ag]);go_wp2_with fail;go_ret2;exact ft.yes HF.out (by rw[HZ.out,HP.out]) g2
theorem gV{ops:Array Oper}{o:Oper}{a:Act}{K:Act→World→Prop}{Q:Exit→Act→World→Prop}(mb:o.guard=none)(x y:Operand)(ho:o.op= .makeSlice 22 x y)
  (base n:Nat) (w:World) (hx:a.eval x= .int .i64 (n:Nat)) (hy:a.eval y= .int .i64 (n:Nat)) (hn:n≤1000000) (bR:base≤w.heap.size)
  (h: ∀w',Own base w' (.slice (some ⟨w.heap.size,0,none⟩) n n) (List.replicate n 0)→w.grownBy w' none→K (a.put o.dst (.slice (some ⟨w.heap.size,0,none⟩) n n)) w'):if Region.wanted o (yielded ops a.tmps)=true then Oper.wp prog o a w K Q else K (a.put o.dst undef) w:=by
 rw[if_pos tY];obtain⟨i,hi,kw,eQ,oC⟩:=info_parts oK;obtain⟨w',hr,h1,h2⟩:=run_make_full (P:=prog) w base 22 5 i (.int .u8 0) 1 underlying22 hi kw eQ .i64 .i64 n mW fF bR;rw[LG]at h1;have el:Own base w' (.slice (some ⟨w.heap.size,0,none⟩) n n) (List.replicate n 0):=by unfold Own;rw[List.length_replicate,List.map_replicate];exact h1
 unfold Oper.wp execOp;simp only[ho,hx,hy,Sem.run_bind,Sem.run_pure,Result.andThen_ok,hr];exact h w' el h2
def dv(w:World)(r:eO×Nat×Nat)(e:Ending)(w':World):Prop:=
 ∃A c,e= .returned (.tuple #[CE r.1 A c,.int .i64 (r.2.1:Nat),.int .i64 (r.2.2:Nat)])∧fN w' A r.1.l∧r.1.l.length≤c∧c≤9223372036854775807∧Below w.heap.size w w'
theorem dv.err(h:gO l=(dh,0,er))(hb:Below w.heap.size w w'):dv w (gO l) (.returned (.tuple #[.agg #[.int .i64 0,.int .i64 0,.slice none 0 0,.int .u32 0],.int .i64 0,.int .i64 (er:Nat)])) w':=by unfold dv;rw[h];exact⟨none,0,rfl,.inl rfl,Nat.le_refl _,aa,hb⟩
theorem dv.yes{h:eO}{c:Nat}(hg:gO l=(h,n,0))(hb:Below w.heap.size w w')(hf:fN w' A h.l)(hc:h.l.length≤c)(hm:c≤9223372036854775807):dv w (gO l) (.returned (.tuple #[CE h A c,.int .i64 (n:Nat),.int .i64 0])) w':=by unfold dv;rw[hg];exact⟨A,c,rfl,hf,hc,hm,hb⟩
theorem KP(h:dZ l=(x,0)):x=l.take (bN l-4)∧bN l≤l.length∧8≤bN l∧bN l≤1024:=by
 have rZ:dZ l=if l.length=0 then([],2)else if l.getD 0 0=0 then([],4)else if l.length<bN l then([],2)
  else if(eL (l.take (bN l-4))==part l (bN l-4) 4)=false then([],4)else(l.take (bN l-4),0):=rfl
 rw[rZ]at h;by_cases h0:l.length=0;·rw[if_pos h0]at h;simp at h
 rw[if_neg h0]at h;by_cases h1:l.getD 0 0=0;·rw[if_pos h1]at h;simp at h
 rw[if_neg h1]at h;by_cases h2:l.length<bN l;·rw[if_pos h2]at h;simp at h
 rw[if_neg h2]at h;have hx:=(l.getD 0 0).toNat_lt;have hp:0<(l.getD 0 0).toNat:=by
  rcases Nat.eq_zero_or_pos (l.getD 0 0).toNat with e | e;·exact absurd (UInt8.toNat_inj.1 (by simpa using e)) h1
  ·exact e
 split at h;·simp at h
 ·simp only[Prod.mk.injEq,and_true]at h;exact⟨h.symm,aa,by unfold bN;omega,by unfold bN;omega⟩
theorem Pu(h:ig s l=some (p,q,l2)):l2.length≤l.length:=by
 rw[ve]at h;split at h;·cases h
 ·rename_i p1 l1 h1;split at h;·cases h
  ·rename_i q1 l3 h3;injection h with h;injection h with e1 h;injection h with e2 e3;subst e3;have a1:=(zY h1).1;have a2:=(zY h3).1;omega
theorem G7: ∀(many k i:Nat) (l:List UInt8) (acc:List bS),(bU many k i l acc).2.1.length≤l.length
 | _,0,_,_,_=>Nat.le_refl _
 | many,k+1,i,l,acc=>by
  rw[nI];split;·simp
  ·split;·simp
   ·exact Nat.le_trans (G7 many k (i+1) _ _) (Mv l).2
theorem z7: ∀(many k i:Nat) (l:List UInt8) (acc:List bS),(bU many k i l acc).2.2=0→(bU many k i l acc).1.length=acc.length+k
 | _,0,_,_,_,_=>rfl
 | many,k+1,i,l,acc,h=>by
  rw[nI]at h ⊢;split at h;·rename_i h1;exact absurd h h1
  ·rename_i h1;rw[if_neg h1];split at h;·cases h
   ·rename_i h2;rw[if_neg h2];have:=z7 many k (i+1) _ _ h;rw[this,List.length_append];simp;omega
theorem lQ{base b:Nat}(h:Own base w (.slice (some ⟨b,0,none⟩) n n) (List.replicate n 0)):Bytes w (some ⟨b,0,none⟩) (List.replicate n 0):=by obtain⟨A8,c8,e8,_,_,rI⟩:=h.read;injection e8 with e1 e2 e3;rw[e1];exact rI
theorem U1(l:List UInt8):(l==List.replicate l.length 0)=l.all (· ==0):=by
 induction l with
 | nil=>rfl
 | cons x l ih=>simp only[List.length_cons,List.replicate_succ,List.all_cons];rw[←ih];rfl
theorem fN.set{l:List bS}(h:fN w A l)(hA: ∀a,A=some a→a.block≠g)(u:Value):fN (w.setCell ⟨g,i,none⟩ u) A l:=by
 rcases h with h | ⟨b,off,rfl,hb,dm⟩
 ·exact .inl h
 ·have dH:b≠g:=hA ⟨b,off,none⟩ rfl;have mY:(w.setCell ⟨g,i,none⟩ u).heap[b]? =w.heap[b]? :=ah _ _ _ _ (fun e=>dH e);refine .inr ⟨b,off,rfl,by simp;exact hb,fun k hk=>⟨?_,?_,(dm k hk).ok⟩⟩;·exact(World.cell?_of_block (a:=⟨b,off+k*2,none⟩) mY).trans (dm k hk).c0
  ·exact(World.cell?_of_block (a:=⟨b,off+k*2+1,none⟩) mY).trans (dm k hk).c1
theorem Pv(A:Option Addr)(l:List UInt8)(c:Nat)(w:World)(hB:Bytes w A l)(hc:l.length≤c)(hm:c≤9223372036854775807)(hl:l.length≤1000000):
  Calls prog 137 #[.slice A l.length c] w (dv w (gO l)):=by
 have⟨W0,Fb⟩:=ex (w.alloc (.cells #[.int .i64 0,.int .i64 0,.slice none 0 0,.int .u32 0] 75));have oo:Below w.heap.size w W0:=by rw[←Fb];exact ar
 have DH:dC w.heap.size W0 (.int .i64 0) (.int .i64 0) (.slice none 0 0) (.int .u32 0):=by rw[←Fb];exact heap_alloc_last _ _
 have kw:W0.heap.size=w.heap.size+1:=by rw[←Fb];simp
 have F9:=ae Fb;have We:=ae (Ps A l c W0 (hB.below oo) hc hm hl)
 have zZ:=ae (fun(wx:World) (h:Below w.heap.size w wx) (a b c d:Value)=>(show Below w.heap.size w ((((wx.setCell ⟨w.heap.size,0,none⟩ a).setCell ⟨w.heap.size,1,none⟩ b).setCell ⟨w.heap.size,2,none⟩ c).setCell ⟨w.heap.size,3,none⟩ d)from
  Below.setCell (p:=⟨w.heap.size,3,none⟩) (Below.setCell (p:=⟨w.heap.size,2,none⟩) (Below.setCell (p:=⟨w.heap.size,1,none⟩) (Below.setCell (p:=⟨w.heap.size,0,none⟩) h (Nat.le_refl _) a) (Nat.le_refl _) b) (Nat.le_refl _) c) (Nat.le_refl _) d))
 have HGD:Hid (gO l=if(dZ l).2≠0 then(dh,0,(dZ l).2)else if(l.getD 1 0).toNat/4%16≠0 then(dh,0,5)
  else if(fh (l.getD 1 0).toNat ((dZ l).1.drop 2)).2≠0 then(dh,0,(fh (l.getD 1 0).toNat ((dZ l).1.drop 2)).2)
  else((fh (l.getD 1 0).toNat ((dZ l).1.drop 2)).1,bN l,0)):=ae rfl
 have HB:=ae hB;clear Fb hB;go_enter func137,ntmps137;go_upto_region 1 with fail;rw[F9.out];clear F9;go_wp2_with fail;refine We.out.mono ?_;rintro e w1 ⟨az,js⟩;have U2:=ae (aM oo az);have mf:dC w.heap.size w1 (.int .i64 0) (.int .i64 0) (.slice none 0 0) (.int .u32 0):=(az.block _ aa).trans DH;have uC:w.heap.size<w1.heap.size:=am az.size;have wZ:=ae mf;rcases js with⟨hse,rfl⟩ | ⟨hse,rfl⟩
 case inr=>have HF:=ae (show gO l=(dh,0,(dZ l).2) by rw[HGD.out,if_pos hse]);obtain⟨z0,z1,z2,z3⟩:=mf.cells;have EO:=mf.frozen 0;have EP:=mf.frozen 1;have EQ:=mf.frozen 2;have ER:=mf.frozen 3;have Qs:(0:Int)<((dZ l).2:Int):=aa;generalize(dZ l).2=er at*;clear hse mf az DH HGD;go_wp2_with fail;obtain⟨k0,k1,k2,k3⟩:=dC.ret wZ.out (.int .i64 0) (.int .i64 0) (.slice none 0 0) (.int .u32 0);exact bodyPost_ret (v:= .tuple #[.agg #[.int .i64 0,.int .i64 0,.slice none 0 0,.int .u32 0],.int .i64 0,.int .i64 (er:Nat)]) pS rfl (dv.err HF.out (zZ.out w1 U2.out _ _ _ _))
 obtain⟨x,e0⟩: ∃x,dZ l=(x,0):=⟨(dZ l).1,Prod.ext rfl hse⟩
 obtain⟨hx,hZl,hZ8,hZm⟩:=KP e0;have⟨p,hp⟩:=ex (bN l-4);rw[hp]at hx ⊢;subst hx;have ah2:=ae (show bN l=p+4 by omega)
 have acC:Hid (gO l=if(l.getD 1 0).toNat/4%16≠0 then(dh,0,5)
  else if(fh (l.getD 1 0).toNat ((l.take p).drop 2)).2≠0 then(dh,0,(fh (l.getD 1 0).toNat ((l.take p).drop 2)).2)
  else((fh (l.getD 1 0).toNat ((l.take p).drop 2)).1,p+4,0)):=ae (by rw[HGD.out,e0,if_neg (fun h=>h rfl),ah2.out])
 obtain⟨b,off,rfl,gZ,hcell⟩:=HB.out.addr aa;have iy:w.cell? ⟨b,off+1,none⟩=some (.int .u8 ((l.getD 1 0).toNat:Nat)):=by have h:=hcell 1 aa;rw[h];simp[List.getD,show 1<l.length by omega]
 have EZ:=ae (fun(wx:World) (h:Below w.heap.size w wx)=>(h.cell (p:=⟨b,off+1,none⟩) gZ).trans iy);have hj1:=EZ.out w1 U2.out;have Mz:=(l.getD 1 0).toNat_lt;obtain⟨_,_,ha3,Pw⟩:=Mw ⟨(l.getD 1 0).toNat,Mz⟩;simp only at ha3 Pw;have wY:((l.take p).drop 2).length=p-2:=by rw[List.length_drop,List.length_take];omega
 have fC:=ae (fun(wx:World) (h:Below w.heap.size w wx)=>Bytes.drop 2 ((HB.out.below h).take p));generalize(l.getD 1 0).toNat=s at*;generalize(l.take p).drop 2=l2 at*;have AU:(4:Int)≤(p:Int):=aa;have hpc:(p:Int)≤(c:Int):=aa;have cU: ¬c=2:=aa;have⟨p2,vo⟩:=ex (p-2);have Qn:=ae vo;have axt:p2≤1024:=aa;rw[vo]at wY;obtain⟨v60,aoF⟩: ∃v,bits .and .u8 (s:Int) 60=v:=⟨_,rfl⟩
 rw[aoF]at Pw;obtain⟨z0,z1,z2,z3⟩:=mf.cells;have EO:=mf.frozen 0;have EP:=mf.frozen 1;have EQ:=mf.frozen 2;have ER:=mf.frozen 3;clear hcell iy mf az DH HGD e0 hse hp;by_cases w_:s/4%16=0;case neg=>
  have HF:=ae (show gO l=(dh,0,5) by rw[acC.out,if_pos w_]);have ZU:(v60==0)=false:=by
   cases h:v60==0 with
   | false=>rfl
   | true=>exact absurd (Pw.1 kJ) w_
  clear Pw w_;go_wp2_with fail;obtain⟨k0,k1,k2,k3⟩:=dC.ret wZ.out (.int .i64 0) (.int .i64 0) (.slice none 0 0) (.int .u32 0);exact bodyPost_ret (v:= .tuple #[.agg #[.int .i64 0,.int .i64 0,.slice none 0 0,.int .u32 0],.int .i64 0,.int .i64 5]) pS rfl (dv.err HF.out (zZ.out w1 U2.out _ _ _ _))
 have Y5:Hid (gO l=if(fh s l2).2≠0 then(dh,0,(fh s l2).2)else((fh s l2).1,p+4,0)):=ae (by rw[acC.out,if_neg (fun h=>h w_)]);have Bd:v60=0:=Pw.2 w_;subst Bd;clear Pw w_ acC;have fL:ir w1.heap.size (w1.alloc (.cells #[.slice (some ⟨b,off+2,none⟩) p2 (c-2)] 22)) (.slice (some ⟨b,off+2,none⟩) l2.length (c-2)):=by rw[wY];exact heap_alloc_last _ _
 have qz:Below w1.heap.size w1 (w1.alloc (.cells #[.slice (some ⟨b,off+2,none⟩) p2 (c-2)] 22)):=ar;have KN:Below w.heap.size w (w1.alloc (.cells #[.slice (some ⟨b,off+2,none⟩) p2 (c-2)] 22)):=aM U2.out qz;have iU:Rest w1.heap.size (w1.alloc (.cells #[.slice (some ⟨b,off+2,none⟩) p2 (c-2)] 22)) l2:=⟨_,_,fL,fC.out _ KN,fun a e=>by injection e with e;rw[←e];show b<w1.heap.size;have:=U2.out.size;omega,by rw[wY];omega,aa⟩
 have sM:=ae (KO w1.heap.size s l2 _ iU (by rw[wY];omega) Mz);have hj2:=EZ.out _ KN;have aoG:=ae KN;have DY:=ae qz;have aoH:=ae iU.lt;have ah3:Hid (dC w.heap.size (w1.alloc (.cells #[.slice (some ⟨b,off+2,none⟩) p2 (c-2)] 22)) (.int .i64 0) (.int .i64 0) (.slice none 0 0) (.int .u32 0)):=ae ((qz.block _ uC).trans wZ.out);have KQ:=ae (show fh s l2=match ig s l2 with
  | none=>(dh,4)
  | some (p,q,l2)=>if(bU (s%4) (s%4+1) 0 l2 []).2.2≠0 then(dh,(bU (s%4) (s%4+1) 0 l2 []).2.2)
   else if(bU (s%4) (s%4+1) 0 l2 []).2.1.all (· ==0)=false then(dh,5)
   else(⟨p,q,(bU (s%4) (s%4+1) 0 l2 []).1.take (s%4),((bU (s%4) (s%4+1) 0 l2 []).1.getD (s%4) ⟨0,0⟩).n⟩,0)from rfl)
 clear fL qz KN iU z0 z1 z2 z3 EO EP EQ ER;go_upto_region 9 with fail;generalize w1.alloc (.cells #[.slice (some ⟨b,off+2,none⟩) p2 (c-2)] 22)=w2 at*;go_wp2_with fail;refine sM.out.mono ?_;rintro e w3 ⟨bA,mi,vV⟩;have ah4:=ae (aoG.out.trans (bA.mono aa));have Cb:dC w.heap.size w3 (.int .i64 0) (.int .i64 0) (.slice none 0 0) (.int .u32 0):=(bA.block _ uC).trans ah3.out;have afz:w1.heap.size<w3.heap.size:=by have h1:=mi.1;have h2:=ah3.out;have h3:=DY.out.size;have h4:=aoH.out;omega
 cases LZ:ig s l2 with
 | none=>
  rw[LZ]at vV KQ;obtain rfl:=vV;have HF:=ae (show gO l=(dh,0,4) by rw[Y5.out,KQ.out];rfl);have tc:Below w3.heap.size w3 (w3.alloc (.cells #[.int .i64 0,.int .i64 0,.slice none 0 0,.int .u32 0] 75)):=ar;have JG:=ae (show dC w.heap.size (w3.alloc (.cells #[.int .i64 0,.int .i64 0,.slice none 0 0,.int .u32 0] 75)) (.int .i64 0) (.int .i64 0) (.slice none 0 0) (.int .u32 0)from(tc.block _ aa).trans Cb);have Y6:=ae (ah4.out.trans (tc.mono aa));obtain⟨z0,z1,z2,z3⟩:=JG.out.cells;have EO:=JG.out.frozen 0;have EP:=JG.out.frozen 1;have EQ:=JG.out.frozen 2;have ER:=JG.out.frozen 3;clear LZ tc bA mi Cb;go_wp2_with fail;obtain⟨k0,k1,k2,k3⟩:=dC.ret JG.out (.int .i64 0) (.int .i64 0) (.slice none 0 0) (.int .u32 0);exact bodyPost_ret (v:= .tuple #[.agg #[.int .i64 0,.int .i64 0,.slice none 0 0,.int .u32 0],.int .i64 0,.int .i64 4]) pS rfl (dv.err HF.out (zZ.out _ Y6.out _ _ _ _))
 | some r3=>
  obtain⟨p',q',l3⟩:=r3;rw[LZ]at vV KQ;obtain⟨rfl,Qc⟩:=vV;have qu:=Pu LZ;have⟨W4,mG⟩:=ex (w3.alloc (.cells #[.int .i64 p',.int .i64 q',.slice none 0 0,.int .u32 0] 75));have M2:=ae mG;have tc:Below w3.heap.size w3 W4:=by rw[←mG];exact ar
  have hh4:dC w3.heap.size W4 (.int .i64 p') (.int .i64 q') (.slice none 0 0) (.int .u32 0):=by rw[←mG];exact heap_alloc_last _ _
  have YP:W4.heap.size=w3.heap.size+1:=by rw[←mG];simp
  have Y6:=ae (ah4.out.trans (tc.mono aa));have Qd:dC w.heap.size W4 (.int .i64 0) (.int .i64 0) (.slice none 0 0) (.int .u32 0):=(tc.block _ aa).trans Cb;have hR4:Rest w1.heap.size W4 l3:=Qc.aA (tc.mono aa);have mS:s%4≤3:=aa;have HFL:=ae (Pq w1.heap.size (s%4) l3 W4 hR4 aa mS);have hj4:=EZ.out W4 Y6.out;have wP:=G7 (s%4) (s%4+1) 0 l3 [];clear LZ mG tc bA mi Cb Qc hR4;go_upto_region 12 with fail;rw[M2.out];clear M2;have⟨s4,sI⟩:=ex (s%4);rw[sI]at ha3 HFL KQ wP mS;clear sI;go_wp2_with fail;refine HFL.out.mono ?_;rintro e w5 ⟨A5,c5,d5,rfl,eu,hk5,her,G8⟩;have Xm:dC w3.heap.size w5 (.int .i64 p') (.int .i64 q') (.slice none 0 0) (.int .u32 0):=(hk5.2 _ aa aa).trans hh4;have RN:dC w.heap.size w5 (.int .i64 0) (.int .i64 0) (.slice none 0 0) (.int .u32 0):=(eu.block _ uC).trans Qd;have ah5:=ae (Y6.out.trans (eu.mono aa));have acD:=z7 s4 (s4+1) 0 l3 [];have⟨FR,hFR⟩:=ex (bU s4 (s4+1) 0 l3 []);rw[hFR]at her G8 KQ wP acD ⊢;clear hFR;obtain⟨acc,l4,er⟩:=FR;obtain⟨y0,y1,y2,y3⟩:=Xm.cells;have yf2:=Xm.frozen 2;have yf3:=Xm.frozen 3;have dH:w3.heap.size≠w.heap.size:=aa;by_cases he:er=0;case neg=>
   obtain⟨rfl,rfl,rfl⟩:=her he;have HF:=ae (show gO l=(dh,0,er) by
    have e:fh s l2=(dh,er):=(by rw[KQ.out];simp only[];rw[if_pos he]);rw[Y5.out,e,if_pos he])
   have HV:Hid ((if er=0 then s4 else 0)=0):=ae (if_neg he);simp only[];rw[HV.out];have AJ:Hid (dC w.heap.size ((w5.setCell ⟨w3.heap.size,2,none⟩ (.slice none 0 0)).setCell ⟨w3.heap.size,3,none⟩ (.int .u32 ((0:Nat):Int))) (.int .i64 0) (.int .i64 0) (.slice none 0 0) (.int .u32 0)):=ae ((RN.other dH).other dH);have aoI:Hid (Below w.heap.size w ((w5.setCell ⟨w3.heap.size,2,none⟩ (.slice none 0 0)).setCell ⟨w3.heap.size,3,none⟩ (.int .u32 ((0:Nat):Int)))):=ae (Below.setCell (p:=⟨w3.heap.size,3,none⟩) (Below.setCell (p:=⟨w3.heap.size,2,none⟩) ah5.out wO _) wO _);have Qs:((er:Int)==0)=false:=av;clear he her G8 eu hk5 RN Xm;go_upto_region 13 with fail;generalize(w5.setCell ⟨w3.heap.size,2,none⟩ (.slice none 0 0)).setCell ⟨w3.heap.size,3,none⟩ (.int .u32 ((0:Nat):Int))=w6 at*;obtain⟨z0,z1,z2,z3⟩:=AJ.out.cells;have EO:=AJ.out.frozen 0;have EP:=AJ.out.frozen 1;have EQ:=AJ.out.frozen 2;have ER:=AJ.out.frozen 3;clear y0 y1 y2 y3 yf2 yf3;go_wp2_with fail;obtain⟨k0,k1,k2,k3⟩:=dC.ret AJ.out (.int .i64 0) (.int .i64 0) (.slice none 0 0) (.int .u32 0);exact bodyPost_ret (v:= .tuple #[.agg #[.int .i64 0,.int .i64 0,.slice none 0 0,.int .u32 0],.int .i64 0,.int .i64 (er:Nat)]) pS rfl (dv.err HF.out (zZ.out w6 aoI.out _ _ _ _))
  case pos=>
   subst he;obtain⟨V2,hF5,hd5,QJ,aoJ,Wg⟩:=G8 rfl;simp only at V2 hF5 hd5;have Hx:=ae hd5;clear hd5;have oX:=ae (show(acc.take s4).length=s4 by have h:acc.length=0+(s4+1):=acD rfl;rw[List.length_take];omega);clear acD;have U3:Below w.heap.size w ((w5.setCell ⟨w3.heap.size,2,none⟩ (.slice A5 s4 c5)).setCell ⟨w3.heap.size,3,none⟩ (.int .u32 (d5:Nat))):=Below.setCell (p:=⟨w3.heap.size,3,none⟩) (Below.setCell (p:=⟨w3.heap.size,2,none⟩) ah5.out wO _) wO _;have hR6:Rest w1.heap.size ((w5.setCell ⟨w3.heap.size,2,none⟩ (.slice A5 s4 c5)).setCell ⟨w3.heap.size,3,none⟩ (.int .u32 (d5:Nat))) l4:=V2.aA (Below.setCell (p:=⟨w3.heap.size,3,none⟩) (Below.setCell (p:=⟨w3.heap.size,2,none⟩) (Below.refl _ _) (by show w1.heap.size+1≤w3.heap.size;omega) _) (by show w1.heap.size+1≤w3.heap.size;omega) _);have AJ:dC w.heap.size ((w5.setCell ⟨w3.heap.size,2,none⟩ (.slice A5 s4 c5)).setCell ⟨w3.heap.size,3,none⟩ (.int .u32 (d5:Nat))) (.int .i64 0) (.int .i64 0) (.slice none 0 0) (.int .u32 0):=(RN.other dH).other dH;have hh6:dC w3.heap.size ((w5.setCell ⟨w3.heap.size,2,none⟩ (.slice A5 s4 c5)).setCell ⟨w3.heap.size,3,none⟩ (.int .u32 (d5:Nat))) (.int .i64 p') (.int .i64 q') (.slice A5 s4 c5) (.int .u32 (d5:Nat)):=(Xm.Pp _).ahY _;have hF6:fN ((w5.setCell ⟨w3.heap.size,2,none⟩ (.slice A5 s4 c5)).setCell ⟨w3.heap.size,3,none⟩ (.int .u32 (d5:Nat))) A5 (acc.take s4):=(hF5.set (fun a e=>am (Wg a e)) _).set (fun a e=>am (Wg a e)) _;simp only[];have N1:=ae (And.intro U3 (And.intro hR6 (And.intro AJ (And.intro hh6 hF6))));clear U3 hR6 AJ hh6 hF6 her G8 eu hk5 RN Xm V2 hF5;go_upto_region 15 with fail;generalize(w5.setCell ⟨w3.heap.size,2,none⟩ (.slice A5 s4 c5)).setCell ⟨w3.heap.size,3,none⟩ (.int .u32 (d5:Nat))=w6 at*;obtain⟨U3,⟨A6,c6,OS,mj,hA6,zC,hm6⟩,AJ,hh6,hF6⟩:=N1.out;have ah9:l4.length≤1000000:=(by have h:l4.length≤l3.length:=wP;omega);have xF:=ae ah9;have axu:=OS.lt;have HXC:=ae (fun(wx:World) (h:Below w6.heap.size w6 wx)=>(OS.below h).cell);have HE:=ae (show ∀A2 w',Below w6.heap.size w6 w'→Bytes w' A2 (List.replicate l4.length 0)→Calls prog 92 #[.slice A6 l4.length c6,.slice A2 l4.length l4.length] w' fun e Qv=>e= .returned (.bool (l4.all (· ==0)))∧w'=Qv from fun A2 w' h h2=>by
    have:=cS A6 A2 l4 (List.replicate l4.length 0) c6 l4.length w' (mj.below h) h2;rw[List.length_replicate,U1]at this;exact this)
   have O6:=ae (show fh s l2=if l4.all (· ==0)=false then(dh,5)else(⟨p',q',acc.take s4,(acc.getD s4 ⟨0,0⟩).n⟩,0) by rw[KQ.out];rfl);generalize l4.all (· ==0)=v at*;have bw:Below w6.heap.size w6 w6.drew:=bg w6;have HH6:=ae hh6;have aia:=ae AJ;have aoK:=ae hF6;clear y0 y1 y2 y3 yf2 yf3 OS mj hA6 wP ah9 hh6 AJ hF6;refine wp_region_held_drew (S:=fun w'=>Below w6.heap.size w6 w') ai bw (fun hS=> ?_);refine bI 0 HXC.out hS (h:=bI 1 HXC.out hS (h:=af 2 hS (h:= ?_)));refine aC 3 (fun K hK=> ?_);refine gV rfl (.tmp 62) (.tmp 62) rfl w6.heap.size l4.length w6.drew rfl rfl xF.out (Nat.le_refl _) ?_;intro w7 ut Br;have g7:Below w6.heap.size w6 w7:=bw.trans (ao (Below.refl _ _) Br (Nat.le_refl _) (fun g e=>gw));have iX:=ae (HE.out (some ⟨w6.drew.heap.size,0,none⟩) w7 g7 (lQ ut));clear ut Br;refine dM ?_;refine hK.out _ _ g7 (fun _=> ?_);clear hK K;refine aC 4 (fun K hK=> ?_);go_simp;refine iX.out.mono ?_;rintro e w8 ⟨rfl,rfl⟩;go_wp2_with fail;refine hK.out _ _ g7 (fun _=> ?_);clear hK K;refine aC 5 (fun K hK=> ?_);go_simp;refine hK.out _ _ g7 (fun _=> ?_);clear hK K;refine wpAnyH_done ai ?_ _;have aib:=ae (aM U3 g7);have E_:dC w.heap.size w7 (.int .i64 0) (.int .i64 0) (.slice none 0 0) (.int .u32 0):=(g7.block _ (by have:=aia.out;have h9:=U3.size;have h8:=(cr this);exact h8)).trans aia.out;have HR7:=ae E_;obtain⟨z0,z1,z2,z3⟩:=E_.cells;have EO:=E_.frozen 0;have EP:=E_.frozen 1;have EQ:=E_.frozen 2;have ER:=E_.frozen 3;cases v with
   | false=>
    have HF:=ae (show gO l=(dh,0,5) by
     have e:fh s l2=(dh,5):=(by rw[O6.out,if_pos rfl]);rw[Y5.out,e];rfl)
    clear E_;go_wp2_with fail;obtain⟨k0,k1,k2,k3⟩:=dC.ret HR7.out (.int .i64 0) (.int .i64 0) (.slice none 0 0) (.int .u32 0);exact bodyPost_ret (v:= .tuple #[.agg #[.int .i64 0,.int .i64 0,.slice none 0 0,.int .u32 0],.int .i64 0,.int .i64 5]) pS rfl (dv.err HF.out (zZ.out w7 aib.out _ _ _ _))
   | true=>
    have HF:=ae (show gO l=(⟨p',q',acc.take s4,d5⟩,p+4,0) by
     have e:fh s l2=(⟨p',q',acc.take s4,(acc.getD s4 ⟨0,0⟩).n⟩,0):=(by rw[O6.out,if_neg ag]);rw[Y5.out,e,Hx.out];rfl)
    have hh7:dC w3.heap.size w7 (.int .i64 p') (.int .i64 q') (.slice A5 s4 c5) (.int .u32 (d5:Nat)):=(g7.block _ (cr HH6.out)).trans HH6.out;obtain⟨y0,y1,y2,y3⟩:=hh7.cells;clear E_ hh7;go_wp2_with fail;obtain⟨k0,k1,k2,k3⟩:=dC.ret HR7.out (.int .i64 p') (.int .i64 q') (.slice A5 s4 c5) (.int .u32 (d5:Nat));have Y7: ∀a,A5=some a→a.block≠w.heap.size:=fun a e=>am (Wg a e);have Bn:=dv.yes (w:=w) (l:=l) (A:=A5) (c:=c5) HF.out (zZ.out w7 aib.out (.int .i64 p') (.int .i64 q') (.slice A5 s4 c5) (.int .u32 (d5:Nat))) (((((aoK.out.below g7).set Y7 _).set Y7 _).set Y7 _).set Y7 _) (by show(acc.take s4).length≤c5;rw[oX.out];exact QJ) aoJ;have aic:dv w (gO l) (.returned (.tuple #[.agg #[.int .i64 p',.int .i64 q',.slice A5 s4 c5,.int .u32 (d5:Nat)],.int .i64 ((p:Int)+4),.int .i64 0])) ((((w7.setCell ⟨w.heap.size,0,none⟩ (.int .i64 p')).setCell ⟨w.heap.size,1,none⟩ (.int .i64 q')).setCell ⟨w.heap.size,2,none⟩ (.slice A5 s4 c5)).setCell ⟨w.heap.size,3,none⟩ (.int .u32 (d5:Nat))):=(by simp only[CE,oX.out]at Bn;exact Bn);exact bodyPost_ret (v:= .tuple #[.agg #[.int .i64 p',.int .i64 q',.slice A5 s4 c5,.int .u32 (d5:Nat)],.int .i64 ((p:Int)+4),.int .i64 0]) pS rfl aic
theorem Px(s:Nat)(l:List UInt8):fh s l=match ig s l with
 | none=>(dh,4)
 | some (p,q,l2)=>if(bU (s%4) (s%4+1) 0 l2 []).2.2≠0 then(dh,(bU (s%4) (s%4+1) 0 l2 []).2.2)
  else if(bU (s%4) (s%4+1) 0 l2 []).2.1.all (· ==0)=false then(dh,5)
  else(⟨p,q,(bU (s%4) (s%4+1) 0 l2 []).1.take (s%4),((bU (s%4) (s%4+1) 0 l2 []).1.getD (s%4) ⟨0,0⟩).n⟩,0):=rfl
end Go.Proofs.YtfcaoggfnkhfiaaGreatDoor
