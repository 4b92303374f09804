import Derived.Test.YtgfpocdiojifoaaGreatDoorZ46
import Derived.Deep.RegionHeld3
namespace Go.Proofs.YtgfpocdiojifoaaGreatDoor
set_option maxRecDepth 100000
set_option maxHeartbeats 8000000
open Go.RowKit
theorem MW(k:jv)(A:Option Addr)(c:Nat): ∀(l:List (Nat×Nat)) (z:iq×Bool),aH {k with A:=A,cD:=c} l z=aH k l z
 | [],_=>rfl
 | x::l,z=>by
  have h:=MW k A c l (aC k x.1 x.2 z.1 z.2).2
  show((aC k x.1 x.2 z.1 z.2).1++(aH {k with A:=A,cD:=c} l (aC k x.1 x.2 z.1 z.2).2).1,(aH {k with A:=A,cD:=c} l (aC k x.1 x.2 z.1 z.2).2).2)=_
  rw[h];rfl
theorem ac1(k:jv)(A:Option Addr)(c:Nat):dU {k with A:=A,cD:=c}=dU k:=by
 unfold dU
 exact congrArg (fun z:List UInt8×iq×Bool=>z.1++[0]) (MW k A c _ _)
def Op.k(o:Op)(D:List UInt8):jv:=⟨none,D,0,o.lc.toNat,o.lp.toNat,o.pb.toNat,o.nice,o.chunk,o.block,o.check,o.ch,o.dict,0⟩
def Op.packed(o:Op)(D:List UInt8):List UInt8:=dU (o.k (dW o.l D))
def Op.head(o:Op)(D:List UInt8):gU:=⟨(o.packed D).length,D.length,o.l,aJ (aV o.dict)⟩
def Op.lM(o:Op)(D:List UInt8):List UInt8:=gB (o.head D)++o.packed D
def Op.blk(o:Op)(D:List UInt8):List UInt8:=o.lM D++(List.replicate (aY (o.lM D).length) 0++tZ o.check D)
def Op.rc(o:Op)(D:List UInt8):Nat×Nat:=((o.lM D).length+dS o.check,D.length)
abbrev agf(r:Nat×Nat):Value:= .agg #[.int .i64 (r.1:Nat),.int .i64 (r.2:Nat)]
theorem least(p:Nat→Prop) [DecidablePred p]: ∀n,p n→ ∃k,k≤n∧p k∧ ∀j,j<k→ ¬p j
 | 0,h=>⟨0,Nat.le_refl _,h,fun _ hj=>absurd hj (Nat.not_lt_zero _)⟩
 | n+1,h=>by
  by_cases hn: ∃j,j≤n∧p j
  ·obtain⟨j,hj,hp⟩:=hn
   obtain⟨k,hk,h1,h2⟩:=least p j hp
   exact⟨k,by omega,h1,h2⟩
  ·exact⟨n+1,Nat.le_refl _,h,fun j hj hp=>hn ⟨j,by omega,hp⟩⟩
theorem Qo(k:Nat)(h:k≤40):aV (aJ k)=k:=En _ _ h (Nat.le_refl _) fun j hj=>Em j k hj h
theorem qh(d:Nat)(h:d≤67108864):d≤aJ (aV d)∧aJ (aV d)≤67108864:=by
 have e28:aJ 28=67108864:=by decide
 obtain⟨k,hk,h1,h2⟩:=least (fun k=>d≤aJ k) 28 (by show d≤aJ 28;rw[e28];exact h)
 rw[En d k (by omega) h1 (fun j hj=>Nat.lt_of_not_le (h2 j hj))]
 refine⟨h1,?_⟩
 rcases Nat.lt_or_ge k 28 with hl | hl
 ·have:=Em k 28 hl (by omega);omega
 ·have:k=28:=by omega
  subst this;rw[e28];exact Nat.le_refl _
structure Op.Ok(o:Op):Prop where
 lc:0≤o.lc∧o.lc≤4
 lp:0≤o.lp∧o.lp≤4
 pb:0≤o.pb∧o.pb≤4
 OL:o.lc+o.lp≤4
 nice:2≤o.nice∧o.nice≤273
 chunk:1≤o.chunk∧o.chunk≤65536
 dict:4096≤o.dict∧o.dict≤67108864
 may:lu o.l=true
 check:iD o.check=true
theorem Op.Ok.of{o:Op}(h:o.fine=true):o.Ok:=by
 unfold Op.fine lT lS at h
 simp only[Bool.and_eq_true,decide_eq_true_iff]at h
 obtain⟨⟨⟨p1,p2,p3,p4⟩,p5⟩,p6⟩:=h
 exact⟨by omega,by omega,by omega,by omega,p2,p3,p4,p5,p6⟩
theorem EN(l:List bK)(h:lu l=true):l.all eG=true∧l.length≤3:=by
 unfold lu at h;rw[Bool.and_eq_true,decide_eq_true_iff]at h;exact⟨h.2,h.1⟩
theorem Op.Ok.pko{o:Op}(h:o.Ok)(D:List UInt8)(A:Option Addr)(c:Nat):PkO {o.k D with A:=A,cD:=c} o.v:=by
 have h1:=h.lc;have h2:=h.lp;have h3:=h.pb;have h4:=h.OL
 refine⟨?_,?_,?_,?_,?_,h.nice,h.chunk,h.dict⟩
 ·show FK o.lc o.lp o.pb o.nice o.chunk o.block o.check o.ch o.dict=FK ((o.lc.toNat:Nat):Int) ((o.lp.toNat:Nat):Int) ((o.pb.toNat:Nat):Int) o.nice o.chunk o.block o.check o.ch o.dict
  rw[Int.toNat_of_nonneg h1.1,Int.toNat_of_nonneg h2.1,Int.toNat_of_nonneg h3.1]
 ·show o.lc.toNat≤4;omega
 ·show o.lp.toNat≤4;omega
 ·show o.pb.toNat≤4;omega
 ·show o.lc.toNat+o.lp.toNat≤4;omega
theorem Op.Ok.bk{o:Op}(h:o.Ok)(D:List UInt8)(hD:D.length≤100000):Hq (o.k D):=by
 have h1:=h.lc;have h2:=h.lp;have h3:=h.pb;have h4:=h.OL;have h5:=h.dict
 exact⟨by show o.lc.toNat≤4∧o.lp.toNat≤4∧o.pb.toNat≤4∧o.lc.toNat+o.lp.toNat≤4;omega,h.nice.2,by show 1≤o.dict;omega,hD⟩
theorem Op.Ok.agh{o:Op}(h:o.Ok):1≤o.chunk.toNat:=by have:=h.chunk;omega
theorem Op.nT{o:Op}(h:o.Ok)(D:List UInt8):1≤(o.packed D).length∧(o.packed D).length≤4*D.length+1:=by
 have h1:=Qi (k:=o.k (dW o.l D)) h.agh
 have h2:(o.k (dW o.l D)).D.length=D.length:=dR _ _
 rw[h2]at h1
 exact⟨by unfold Op.packed dU;rw[List.length_append];simp,h1⟩
theorem Op.iZ{o:Op}(h:o.Ok)(D:List UInt8)(hD:D.length≤100000):(o.head D).ok∧jI (o.head D)=true:=by
 have hp:=o.nT h D
 have hd:=qh o.dict h.dict.2
 refine⟨?_,?_⟩
 ·show -9223372036854775808≤((o.packed D).length:Int)∧((o.packed D).length:Int)≤9223372036854775807∧ -9223372036854775808≤(D.length:Int)∧(D.length:Int)≤9223372036854775807∧aJ (aV o.dict)<4294967296
  omega
 ·show(wM ((o.packed D).length:Int) (D.length:Int)&&lu o.l&&yD (aJ (aV o.dict)))=true
  rw[h.may]
  unfold wM yD
  rw[Qo _ (uh _)]
  simp
  omega
theorem Op.EO{o:Op}(h:o.Ok)(D:List UInt8)(hD:D.length≤100000)(hf: ∀f∈o.l,f.ok):(gB (o.head D)).length≤128∧(gB (o.head D)).length%4=0:=by
 obtain⟨h1,h2⟩:=o.iZ h D hD
 obtain⟨e1,e2,e3,_⟩:=lH (o.head D) h1 hf h2
 have e4:=yK (o.head D) h1 hf h2
 have e5:(nJ (bH (o.head D))).length≤(bH (o.head D)).length+3:=by unfold nJ aY;rw[List.length_append,List.length_replicate];omega
 rw[e1];omega
def Qp(B:List UInt8)(mem:Nat)(r:List UInt8×Nat×Nat):Prop:=
 (∃h n er,jD B=(h,n,er)∧er≠0∧r=([],0,er))∨
 (∃h n,jD B=(h,n,0)∧h.d<4294967296∧mem<h.d∧r=([],0,9))∨
 (∃h n S p er fuel,jD B=(h,n,0)∧(1≤h.d∧h.d<4294967296∧h.d≤mem∧n≤B.length)∧(B.length<fuel∧bF (B.drop n) h.d fuel 0 Rj=(S,p,er)∧jl (B.drop n) h.d fuel 0 Rj)∧
  ((er≠0∧r=([],0,er))∨(er=0∧lu h.l=true∧h.p=p∧h.q=S.length∧S.length≤1000000∧p≤1000000000∧n≤1000000000∧r=(oz h.l S,n+p,0))))
theorem blk4{W:World}{b:Nat}{x y z u:Value}{t:TypeId}(h:W.heap[b]? =some (.cells [x,y,z,u].toArray t (0,0))):W.cell? ⟨b,0,none⟩=some x∧W.cell? ⟨b,1,none⟩=some y∧W.cell? ⟨b,2,none⟩=some z∧W.cell? ⟨b,3,none⟩=some u:=
 ⟨by rw[cell_of_row W _ _ _ _ _ h];rfl,by rw[cell_of_row W _ _ _ _ _ h];rfl,by rw[cell_of_row W _ _ _ _ _ h];rfl,by rw[cell_of_row W _ _ _ _ _ h];rfl⟩
theorem lK.aac{w w':World}{n:Nat}(hb:Below w.heap.size w w'):lK w ([],0,n) (.returned (.tuple #[.slice none 0 0,.int .i64 0,.int .i64 (n:Nat)])) w':=⟨none,0,rfl,⟨Nat.le_refl _,by omega⟩,.nil,hb⟩
theorem MX(A:Option Addr)(B:List UInt8)(c mem:Nat)(w:World)(r:List UInt8×Nat×Nat)(hr:Qp B mem r)(hB:Bytes w A B)(hA: ∀a,A=some a→a.block<w.heap.size)(hc:B.length≤c)(hm:c≤9223372036854775807)(hl:B.length≤1000000)(hme:mem<18446744073709551616):
  Calls Tryz.prog 33 #[.slice A B.length c,.int .u64 (mem:Nat)] w (lK w r):=by
 have HG:=Lib.hid (Vf A B c w hB hc hm hl)
 have Fb:(B.length:Int)≤1000000:=by omega
 have Nj:(c:Int)≤9223372036854775807:=by omega
 have hci:(B.length:Int)≤(c:Int):=by omega
 have ajY:(mem:Int)<18446744073709551616:=by omega
 have HB:=Lib.hid (And.intro hB (And.intro hA (And.intro hc (And.intro hm hl))))
 clear hB hA hc hm hl hme
 rcases hr with⟨h,n,er,e1,e2,rfl⟩ | ⟨h,n,e1,hd,e2,rfl⟩ | ⟨h,n,S,p,er,fuel,e1,⟨d1,d2,d3,hn⟩,⟨f1,f2,f3⟩,hr⟩
 ·rw[e1]at HG
  obtain⟨hp,hq,hL,d⟩:=h
  obtain⟨ei,VF⟩: ∃x:Int,(er:Int)=x:=⟨_,rfl⟩
  have hne:(ei==0)=false:=by rw[beq_eq_false_iff_ne];omega
  have HEI:=Lib.hid VF
  clear e1 e2 VF Fb Nj hci ajY
  go_enter Tryz.func33,Tryz.ntmps33
  go_wp2_with fail
  refine HG.out.mono ?_
  rintro e w1 ⟨A1,c1,rfl,_,_,_,hb1⟩
  have HB1:=Lib.hid hb1
  clear hb1
  rw[HEI.out]
  go_wp2_with fail
  go_ret3
  rw[←HEI.out]
  exact lK.aac (HB1.out.trans ((dL _ _).mono HB1.out.size))
 ·rw[e1]at HG
  obtain⟨hp,hq,hL,d⟩:=h
  have hwd:IntKind.u64.wrap (d:Int)=(d:Int):=IntWalk.u64_in _ (by simp only at hd;omega)
  have hmd:(mem:Int)<(d:Int):=by simp only at e2;omega
  clear e1 e2 hd
  go_enter Tryz.func33,Tryz.ntmps33
  go_wp2_with fail
  refine HG.out.mono ?_
  rintro e w1 ⟨A1,c1,rfl,_,_,_,hb1⟩
  have HB1:=Lib.hid hb1
  clear hb1
  go_wp2_with fail
  go_ret3
  exact lK.aac (HB1.out.trans ((dL _ _).mono HB1.out.size))
 ·rw[e1]at HG
  obtain⟨hp,hq,hL,d⟩:=h
  simp only at d1 d2 d3 f2 f3 hr
  obtain⟨z,hz⟩: ∃z:Int,(d:Int)=z:=⟨_,rfl⟩
  have hwd:IntKind.u64.wrap z=z:=IntWalk.u64_in _ (by omega)
  have hwi:IntKind.i64.wrap z=z:=IntWalk.i64_in _ (by omega)
  have hzl:z<4294967296:=by omega
  have hz0:0≤z:=by omega
  obtain⟨me,hme⟩: ∃z:Int,(mem:Int)=z:=⟨_,rfl⟩
  have hmd:decide (me<z)=false:=decide_eq_false (by omega)
  rw[hme]
  have HG2:Hid (Calls Tryz.prog 65 #[.slice A B.length c] w fun e w'=> ∃A1 c1,e= .returned (.tuple #[.agg #[.int .i64 hp,.int .i64 hq,.slice A1 hL.length c1,.int .u32 z],.int .i64 (n:Nat),.int .i64 0])∧gJ w' A1 hL∧hL.length≤c1∧c1≤9223372036854775807∧Below w.heap.size w w'):=Lib.hid (by rw[←hz];exact HG.out)
  have HZ:=Lib.hid (And.intro hz hme)
  clear HG
  have hni:(n:Int)≤(B.length:Int):=by omega
  have hnc:(n:Int)≤(c:Int):=by omega
  obtain⟨m,hm⟩: ∃m,B.length-n=m:=⟨_,rfl⟩
  obtain⟨c2,hc2⟩: ∃m,c-n=m:=⟨_,rfl⟩
  have agj:(B.length:Int)-(n:Int)=(m:Int):=by omega
  have afW:(c:Int)-(n:Int)=(c2:Int):=by have:=HB.out.2.2.1;omega
  have HU:=Lib.hid (fun(W:World) (hb:Below w.heap.size w W)=>(show Calls Tryz.prog 66 #[.slice (if c=n then A else A.map fun x=>x.add n) m c2,.int .i64 (d:Nat)] W (lK W (S,p,er))from by
   have hl:(B.drop n).length=m:=by rw[List.length_drop];exact hm
   have hB:=HB.out
   have hA2: ∀a,(if c=n then A else A.map fun x=>x.add n)=some a→a.block<W.heap.size:=by
    intro a ha
    split at ha
    ·exact Nat.lt_of_lt_of_le (hB.2.1 a ha) hb.size
    ·cases hA:A with
     | none=>rw[hA]at ha;cases ha
     | some x=>
      rw[hA]at ha
      have e:x.add n=a:=by simpa using ha
      have:a.block=x.block:=by rw[←e];unfold Addr.add;split<;>rfl
      rw[this];exact Nat.lt_of_lt_of_le (hB.2.1 x hA) hb.size
   have h:=Qd (if c=n then A else A.map fun x=>x.add n) (B.drop n) c2 (d:Nat) W ((hB.1.below hb).cutFrom hn hB.2.2.1) hA2 (by omega) (by omega) (by omega) (by omega) (by omega) (fuel:=fuel) (by omega) f3
   rw[f2,hl]at h
   exact h))
  have HN:=Lib.hid (And.intro hn (And.intro hm hc2))
  clear e1 d1 d2 d3 f1 f2 f3 hn hm hc2 hz hme
  go_enter Tryz.func33,Tryz.ntmps33
  go_wp2_with fail
  refine HG2.out.mono ?_
  rintro e w1 ⟨A1,c1,rfl,hF1,ac2,hm1,hb1⟩
  have HB1:=Lib.hid hb1
  have H1:=Lib.hid (And.intro hF1 (And.intro ac2 hm1))
  clear hb1 hF1 ac2 hm1
  go_upto_region 6 with fail
  obtain⟨w2,hw2⟩: ∃W,w1.alloc (.cells #[.int .i64 hp,.int .i64 hq,.slice A1 hL.length c1,.int .u32 z] 51)=W:=⟨_,rfl⟩
  obtain⟨hrow2,hb2⟩:=gY (vs:=[.int .i64 hp,.int .i64 hq,.slice A1 hL.length c1,.int .u32 z]) hw2
  rw[hw2]
  have HC2:=Lib.hid (fun(W:World) (h:Below w2.heap.size w2 W)=>blk4 ((h.block _ (Array.getElem?_eq_some_iff.1 hrow2).1).trans hrow2))
  have HB2:=Lib.hid (HB1.out.trans (hb2.mono HB1.out.size))
  have HAG:Hid (∀(n:Nat) (W:World),n≤1000000000→Calls Tryz.prog 68 #[.int .i64 (n:Nat),.int .i64 (n:Nat)] W fun e w'=>e= .returned (.bool true)∧W=w'):=Lib.hid (fun n W hn=>by
   have h:=PG (n:Nat) n hn W
   rw[show(decide ((n:Int)<0)||(n:Int)==(n:Int))=true by simp]at h
   exact h)
  have HF2:=Lib.hid (H1.out.1.below hb2)
  have hdr:=aK w2
  obtain⟨A2,hA2⟩: ∃x,(if c=n then A else A.map fun x=>x.add n)=x:=⟨_,rfl⟩
  rw[hA2]at HU
  rw[HZ.out.1]at HU
  clear hw2 hrow2 hb2
  refine wp_region_held_drew (S:=fun W=>Below w2.heap.size w2 W) (by kernel_rfl) hdr (fun hS=> ?_)
  refine tq 0 hS ?_
  refine tq 1 hS ?_
  refine tk 2 (v:= .slice A2 m c2) ?aof hS ?_
  case aof=>
   intro w hSw
   go_simp;(try rw[hA2]);exact⟨HN.out.2.1,HN.out.2.2⟩
  simp only[Act.put,List.setIfInBounds_toArray,List.set_cons_zero,List.set_cons_succ]
  refine tq 3 hS ?_
  refine tp 4 rfl (fun w hSw=>by obtain⟨_,_,_,q⟩:=HC2.out w hSw;go_simp;all_goals(with_reducible rfl)) hS ?_
  refine tq 5 hS ?_
  refine tr 6 (fun K hK=> ?_)
  go_simp
  refine(HU.out _ (HB2.out.trans (hdr.mono HB2.out.size))).mono ?_
  rintro e w3 ⟨A3,c3,rfl,hc3,hB3,hb3⟩
  have g3:Below w2.heap.size w2 w3:=hdr.trans hb3
  have H3:=Lib.hid (And.intro hB3 (And.intro hc3 g3))
  clear hc3 hB3 hb3
  go_wp2_with fail
  refine hK.out _ _ g3 (fun _=> ?_)
  clear hK K
  refine tq 7 g3 ?_
  refine tq 8 g3 ?_
  refine tq 9 g3 ?_
  refine tq 10 g3 ?_
  refine tq 11 g3 ?_
  refine tq 12 g3 ?_
  refine tq 13 g3 ?_
  refine wpAnyH_done (by kernel_rfl) ?_ _
  clear hS hdr HU HG2
  have HB3:=Lib.hid (HB2.out.trans (g3.mono HB2.out.size))
  obtain⟨y0,y1,y2,_⟩:=HC2.out w3 g3
  have HG3:=Lib.hid g3
  clear g3
  rcases hr with⟨hne,rfl⟩ | ⟨rfl,hmay,rfl,rfl,hSl,hpl,hnl,rfl⟩
  ·obtain⟨ei,VF⟩: ∃x:Int,(er:Int)=x:=⟨_,rfl⟩
   have hneb:(ei==0)=false:=by rw[beq_eq_false_iff_ne];omega
   rw[VF]
   have HEI:=Lib.hid VF
   clear hne VF agj afW hni hnc Fb Nj hci ajY hmd hzl hz0 hwd hwi y0 y1 y2 hA2
   go_wp2_with fail
   go_ret3
   rw[←HEI.out]
   exact lK.aac HB3.out
  ·obtain⟨hall,h3⟩:=EN _ hmay
   have EU:=Lib.hid (O4 A1 hL c1 w3 (HF2.out.below HG3.out) (by omega) hall hmay A3 S c3 H3.out.1 hSl)
   obtain⟨q,hq⟩: ∃q,n+p=q:=⟨_,rfl⟩
   have hsum:(n:Int)+(p:Int)=(q:Int):=by omega
   have hqb:(q:Int)≤2000000000:=by omega
   have HQ:=Lib.hid (And.intro hq (And.intro hSl hpl))
   clear hmay hall h3 hSl hpl hnl hq
   go_wp2_with fail
   refine EU.out.mono ?_
   rintro e w4 ⟨v4,rfl,fE,hb4⟩
   obtain⟨A4,c4,rfl,hc4,hm4,hB4⟩:=fE.read
   have H4:=Lib.hid (And.intro hB4 (And.intro hc4 (And.intro hm4 (HB3.out.trans (hb4.mono HB3.out.size)))))
   have hl4:(oz hL S).length=S.length:=yg _ _
   obtain⟨y0,y1,_,_⟩:=HC2.out w4 (HG3.out.trans (hb4.mono HG3.out.size))
   have CJ:=Lib.hid hl4
   rw[hl4]
   clear fE hb4 hc4 hm4 hB4 hl4 y2
   go_wp2_with fail
   refine(HAG.out p _ HQ.out.2.2).mono ?_
   rintro e w5 ⟨rfl,rfl⟩
   go_wp2_with fail
   refine(HAG.out S.length _ (by have:=HQ.out.2.1;omega)).mono ?_
   rintro e w6 ⟨rfl,rfl⟩
   go_wp2_with fail
   go_ret3
   exact⟨A4,c4,by simp only;rw[CJ.out,HQ.out.1];rfl,⟨H4.out.2.1,H4.out.2.2.1⟩,H4.out.1,H4.out.2.2.2⟩
def agk(w:World)(L:List UInt8)(r:Nat×Nat)(e:Ending)(w':World):Prop:= ∃g c,e= .returned (.tuple #[.slice (some ⟨g,0,none⟩) L.length c,agf r,.int .i64 0])∧L.length≤c∧c≤9223372036854775807∧(w.heap.size≤g∧g<w'.heap.size)∧jY w' g L∧Below w.heap.size w w'
theorem ad6{w W:World}{vs us:List Value}{t s:TypeId}(h:(w.alloc (.cells vs.toArray t)).alloc (.cells us.toArray s)=W):
  W.heap[w.heap.size]? =some (.cells vs.toArray t (0,0))∧W.heap[w.heap.size+1]? =some (.cells us.toArray s (0,0))∧Below w.heap.size w W∧W.heap.size=w.heap.size+2:=by
 subst h
 have hb:Below (w.alloc (.cells vs.toArray t)).heap.size (w.alloc (.cells vs.toArray t)) ((w.alloc (.cells vs.toArray t)).alloc (.cells us.toArray s)):=(Below.refl _ _).alloc (Nat.le_refl _) _
 refine⟨(hb.block _ (by simp)).trans (heap_alloc_new w _),?_,((Below.refl _ _).alloc (Nat.le_refl _) _).alloc (by simp) _,by simp⟩
 have:=heap_alloc_new (w.alloc (.cells vs.toArray t)) (.cells us.toArray s)
 simpa using this
theorem lV{W:World}{b:Nat}{x y:Value}{t:TypeId}(h:W.heap[b]? =some (.cells [x,y].toArray t (0,0))):W.cell? ⟨b,0,none⟩=some x∧W.cell? ⟨b,1,none⟩=some y∧ ∀i,W.frozen? ⟨b,i,none⟩=false:=
 ⟨by rw[cell_of_row W _ _ _ _ _ h];rfl,by rw[cell_of_row W _ _ _ _ _ h];rfl,fun _=>frozen_of_row _ _ _ _ _ h⟩
def SS(R X N:Nat)(W:World):Prop:=R<W.heap.size∧W.cell? ⟨R,0,none⟩=some (.int .i64 (X:Nat))∧W.cell? ⟨R,1,none⟩=some (.int .i64 (N:Nat))
theorem SS.below{R X N:Nat}{W W':World}(h:SS R X N W)(hb:Below W.heap.size W W'):SS R X N W':=⟨Nat.lt_of_lt_of_le h.1 hb.size,(hb.cell (p:=⟨R,0,none⟩) h.1).trans h.2.1,(hb.cell (p:=⟨R,1,none⟩) h.1).trans h.2.2⟩
theorem SS.set{R X N b i:Nat}{W:World}{u:Value}(h:SS R X N W)(hb:b≠R):SS R X N (W.setCell ⟨b,i,none⟩ u):=by
 have e:(W.setCell ⟨b,i,none⟩ u).heap[R]? =W.heap[R]? :=ah _ _ _ _ (fun e=>hb e.symm)
 exact⟨by simpa using h.1,(World.cell?_of_block (a:=⟨R,0,none⟩) e).trans h.2.1,(World.cell?_of_block (a:=⟨R,1,none⟩) e).trans h.2.2⟩
theorem Op.aad(o:Op)(D:List UInt8):o.lM D++List.replicate (aY (o.lM D).length) 0++tZ o.check D=o.blk D:=by unfold Op.blk;rw[List.append_assoc]
theorem jY.set{w:World}{g b i:Nat}{u:Value}{L:List UInt8}(h:jY w g L)(hb:b≠g):jY (w.setCell ⟨b,i,none⟩ u) g L:=fun j hj=>by
 have e:(w.setCell ⟨b,i,none⟩ u).heap[g]? =w.heap[g]? :=ah _ _ _ _ (fun e=>hb e.symm)
 obtain⟨h1,h2⟩:=h j hj
 refine⟨(World.cell?_of_block (a:=⟨g,j,none⟩) e).trans h1,?_⟩
 rw[←h2];unfold World.frozen?;simp only[e]
theorem EP(o:Op)(A:Option Addr)(D:List UInt8)(c:Nat)(w:World)(hf:o.fine=true)(hO:L6 w o)(hfo: ∀f∈o.l,f.ok)(hT:Tabs w)(hB:Bytes w A D)(hc:D.length≤c)(hm:c≤9223372036854775807)(hl:D.length≤100000):
  Calls Tryz.prog 6 #[.slice A D.length c,o.v] w (agk w (o.blk D) (o.rc D)):=by
 have hok:=Op.Ok.of hf
 obtain⟨hall,h3⟩:=EN _ hok.may
 obtain⟨W,hW⟩: ∃W,(w.alloc (.cells #[.int .i64 o.lc,.int .i64 o.lp,.int .i64 o.pb,.int .i64 o.nice,.int .i64 o.chunk,.int .i64 o.block,.int .i64 o.check,o.ch,.int .u32 (o.dict:Nat)] 26)).alloc (.cells #[.int .i64 0,.int .i64 0] 29)=W:=⟨_,rfl⟩
 obtain⟨hrow,hrec,hbW,hzW⟩:=ad6 (vs:=qB o.lc o.lp o.pb o.nice o.chunk o.block o.check o.ch o.dict) (us:=[.int .i64 0,.int .i64 0]) hW
 have HC:=Lib.hid (fun(W':World) (h:Below W.heap.size W W')=>oH (o:=o) ((h.block _ (Array.getElem?_eq_some_iff.1 hrow).1).trans hrow))
 have HRW:=Lib.hid (fun(W':World) (h:Below W.heap.size W W')=>(h.block _ (Array.getElem?_eq_some_iff.1 hrec).1).trans hrec)
 have HRC:=Lib.hid (fun(W':World) (h:Below W.heap.size W W')=>lV ((h.block _ (Array.getElem?_eq_some_iff.1 hrec).1).trans hrec))
 obtain⟨k0,k1,k2,k3,k4,k5,k6,k7,k8⟩:=HC.out W (Below.refl _ _)
 have Fh:=Lib.hid (PI o W (hO.below hbW))
 have HSE:=Lib.hid (fun(W':World) (h:Below W.heap.size W W')=>O1 o.A o.l o.c W' ((hO.Pv.below hbW).below h) hO.few hall hok.may A D c ((hB.below hbW).below h) (by omega))
 have aog:=Lib.hid (fun(W':World) (h:Below W.heap.size W W')=>Jd o.check A D c W' ((hT.below hbW).below h) ((hB.below hbW).below h) hc hm (by omega))
 have HPA:=Lib.hid (fun(A1:Option Addr) (c1:Nat) (W':World) (hb:Bytes W' A1 (dW o.l D)) (hA: ∀a,A1=some a→a.block<W'.heap.size) (hc1:D.length≤c1)=>by
  have h:=TM {o.k (dW o.l D)with A:=A1,cD:=c1} o.v W' (hok.pko _ _ _) hb hA (by show(dW o.l D).length≤c1;rw[dR];exact hc1) (by show(dW o.l D).length≤100000;rw[dR];exact hl)
  rw[ac1]at h
  exact(show Calls Tryz.prog 14 #[.slice A1 (dW o.l D).length c1,o.v] W' (DN W' (o.packed D))from h))
 have Nc:=Lib.hid (o.nT hok D)
 have HHD:Hid (∀W':World,Below W.heap.size W W'→Calls Tryz.prog 15 #[.agg #[.int .i64 ((o.packed D).length:Nat),.int .i64 (D.length:Nat),.slice o.A o.l.length o.c,.int .u32 (aJ (aV o.dict):Nat)]] W' (DN W' (gB (o.head D)))):=Lib.hid (fun W' h=>by
  refine(show Calls Tryz.prog 15 #[.agg #[.int .i64 ((o.packed D).length:Nat),.int .i64 (D.length:Nat),.slice o.A o.l.length o.c,.int .u32 (aJ (aV o.dict):Nat)]] W' (G8 W' (o.head D))from UH (o.head D) (o.iZ hok D hl).1 o.A o.c W' ((hO.Pv.below hbW).below h) hfo (by show o.l.length≤20;omega)).mono ?_
  rintro e w' (⟨_,v,rfl,h1,h2⟩ | ⟨h,_⟩)
  ·exact⟨v,rfl,h1,h2⟩
  ·rw[(o.iZ hok D hl).2]at h;cases h)
 have HHL:=Lib.hid (o.EO hok D hl hfo)
 have HCO:=Lib.hid (fun(W':World)=>yx o.dict hO.dict W')
 have HDI:Hid (∀W':World,Calls Tryz.prog 16 #[.int .i64 (aV o.dict:Nat)] W' fun e w'=>e= .returned (.int .u32 (aJ (aV o.dict):Nat))∧W'=w'):=Lib.hid (fun W'=>by
  have h:=Zb (aV o.dict:Nat) W'
  rw[if_neg (by omega),Int.toNat_natCast]at h
  exact h)
 have HW:=Lib.hid hW
 have fV:=Lib.hid hbW
 have HZ:=Lib.hid hzW
 have HD:=Lib.hid hl
 have hDi:(D.length:Int)≤100000:=by omega
 have hlc:o.l.length≤3:=h3
 rw[hf]at Fh
 clear hrow hrec hW hbW hzW hO hok hall hT hB hf h3
 go_enter Tryz.func6,Tryz.ntmps6
 go_upto_region 1 with fail
 rw[HW.out]
 clear HW
 go_wp2_with fail
 refine Fh.out.mono ?_
 rintro e w1 ⟨rfl,hb1⟩
 have HB1:=Lib.hid hb1
 clear hb1 k0 k1 k2 k3 k4 k5 k6 k7 k8
 obtain⟨k0,k1,k2,k3,k4,k5,k6,k7,k8⟩:=HC.out w1 HB1.out
 go_wp2_with fail
 refine(HSE.out w1 HB1.out).mono ?_
 rintro e w2 ⟨v2,rfl,ho2,hb2⟩
 have HB2:=Lib.hid (HB1.out.trans (hb2.mono HB1.out.size))
 obtain⟨A2,c2,rfl,hc2,hm2,hB2⟩:=ho2.read
 have hA2: ∀a,A2=some a→a.block<w2.heap.size:=fun a ha=>(ho2.aF a.block (by rw[ha];rfl)).2
 have hP:=HPA.out A2 c2 w2 hB2 hA2 (by rw[dR]at hc2;exact hc2)
 have hsl:(dW o.l D).length=D.length:=dR _ _
 have HP:=Lib.hid hP
 clear hP hb2 ho2 hc2 hm2 hB2 hA2 k0 k1 k2 k3 k4 k5 k6 k7 k8
 obtain⟨k0,k1,k2,k3,k4,k5,k6,k7,k8⟩:=HC.out w2 HB2.out
 rw[hsl]
 rw[hsl]at HP
 clear hsl
 go_wp2_with fail
 refine HP.out.mono ?_
 rintro e w3 ⟨v3,rfl,ho3,hb3⟩
 have HB3:=Lib.hid (HB2.out.trans (hb3.mono HB2.out.size))
 obtain⟨A3,c3,rfl,hc3,hm3,hB3⟩:=ho3.read
 have H3:=Lib.hid (And.intro hB3 (And.intro hc3 hm3))
 clear hb3 HP ho3 hc3 hm3 hB3 k0 k1 k2 k3 k4 k5 k6 k7 k8
 obtain⟨k0,k1,k2,k3,k4,k5,k6,k7,k8⟩:=HC.out w3 HB3.out
 have HQ:Hid (∀W':World,Below w3.heap.size w3 W'→W'.cell? ⟨w.heap.size,7,none⟩=some (.slice o.A o.l.length o.c)∧W'.cell? ⟨w.heap.size,8,none⟩=some (.int .u32 (o.dict:Nat))):=Lib.hid (fun W' h=>by
  obtain⟨_,_,_,_,_,_,_,q7,q8⟩:=HC.out W' (HB3.out.trans (h.mono HB3.out.size))
  exact⟨q7,q8⟩)
 have hdr:=aK w3
 obtain⟨PL,hPL⟩: ∃n,(o.packed D).length=n:=⟨_,rfl⟩
 have aoj:(PL:Int)≤400001:=by have:=Nc.out;have:=HD.out;omega
 rw[hPL]at HHD ⊢
 have aok:=Lib.hid hPL
 clear hPL k0 k1 k2 k3 k4 k5 k6 k7 k8
 go_upto_region 9 with fail
 refine wp_region_held_drew (S:=fun W=>Below w3.heap.size w3 W) (by kernel_rfl) hdr (fun hS=> ?_)
 refine tq 0 hS ?_
 refine tq 1 hS ?_
 refine tq 2 hS ?_
 refine tq 3 hS ?_
 refine tq 4 hS ?_
 refine tp 5 rfl (fun w hSw=>by have q:=(HQ.out w hSw).1;go_simp;all_goals(with_reducible rfl)) hS ?_
 refine tq 6 hS ?_
 refine tp 7 rfl (fun w hSw=>by have q:=(HQ.out w hSw).2;go_simp;all_goals(with_reducible rfl)) hS ?_
 refine tr 8 (fun K hK=> ?_)
 go_simp
 refine(HCO.out _).mono ?_
 rintro e x8 ⟨rfl,rfl⟩
 go_wp2_with fail
 refine hK.out _ _ hdr (fun _=> ?_)
 clear hK K
 refine tr 9 (fun K hK=> ?_)
 go_simp
 refine(HDI.out _).mono ?_
 rintro e x9 ⟨rfl,rfl⟩
 go_wp2_with fail
 refine hK.out _ _ hdr (fun _=> ?_)
 clear hK K
 refine tq 10 hdr ?_
 refine tr 11 (fun K hK=> ?_)
 go_simp
 refine(HHD.out _ (HB3.out.trans (hdr.mono HB3.out.size))).mono ?_
 rintro e x11 ⟨v4,rfl,fE,hb4⟩
 have g11:Below w3.heap.size w3 x11:=hdr.trans hb4
 have H4:=Lib.hid (And.intro (show Own w3.heap.size x11 v4 (gB (o.head D))from fE) g11)
 clear fE hb4
 go_wp2_with fail
 refine hK.out _ _ g11 (fun _=> ?_)
 clear hK K
 refine tq 12 g11 ?_
 refine tq 13 g11 ?_
 refine tq 14 g11 ?_
 refine tq 15 g11 ?_
 refine tq 16 g11 ?_
 refine wpAnyH_done (by kernel_rfl) ?_ _
 clear hS hdr g11 HQ HHD
 have HB4:=Lib.hid (HB3.out.trans (H4.out.2.mono HB3.out.size))
 go_upto_region 13 with(at_builtin;refine ay rfl (.tmp 58) (.tmp 59) rfl w3.heap.size x11 v4 (gB (o.head D)) rfl H4.out.1 A3 (o.packed D) c3 (by rw[aok.out];rfl) (H3.out.1.below H4.out.2) (by have:=HHL.out;have:=Nc.out;have:=HD.out;omega) H4.out.2.size ?_;intro v5 w5 qj hg5;have H5:=Lib.hid (And.intro qj (below_grown H4.out.2 hg5 H4.out.2.size (fun g e=>(H4.out.1.aF g e).1)));clear qj hg5)
 obtain⟨A5,c5,rfl,hc5,hm5,PE⟩:=H5.out.1.read
 have zk:=Lib.hid (HB3.out.trans (H5.out.2.mono HB3.out.size))
 have H5b:=Lib.hid (And.intro PE (And.intro hc5 hm5))
 obtain⟨U,hU⟩: ∃n,(gB (o.head D)++o.packed D).length=n:=⟨_,rfl⟩
 have HU:=Lib.hid (show(o.lM D).length=U from hU)
 have hUi:(U:Int)≤401000:=by have:=HHL.out;have:=Nc.out;have:=HD.out;rw[List.length_append]at hU;omega
 rw[hU]
 clear hU PE hc5 hm5
 obtain⟨k0,k1,k2,k3,k4,k5,k6,k7,k8⟩:=HC.out w5 zk.out
 go_wp2_with fail
 refine(aog.out w5 zk.out).mono ?_
 rintro e w6 ⟨A6,c6,rfl,hc6,hm6,Fg,hb6⟩
 have Gv:=Lib.hid (zk.out.trans (hb6.mono zk.out.size))
 have H56:=Lib.hid hb6
 have H6:=Lib.hid (And.intro Fg (And.intro hc6 hm6))
 have hsz:(tZ o.check D).length=dS o.check:=jQ _ _
 have hsz2:dS o.check≤32:=by unfold dS;repeat (first | omega | split)
 rw[hsz]
 obtain⟨Z,hZ⟩: ∃n,dS o.check=n:=⟨_,rfl⟩
 rw[hZ]at hsz hsz2 ⊢
 have HZZ:=Lib.hid (And.intro hZ hsz)
 obtain⟨X,hX⟩: ∃n,U+Z=n:=⟨_,rfl⟩
 have hsum:(U:Int)+(Z:Int)=(X:Int):=by omega
 have hXi:(X:Int)≤402000:=by omega
 have HX:=Lib.hid hX
 clear hX
 clear hb6 hc6 hm6 Fg hsz hZ k0 k1 k2 k3 k4 k5 k6 k7 k8
 go_upto_region 15 with fail
 obtain⟨w7,hw7⟩: ∃W',w6.alloc (.cells #[.int .i64 (X:Nat),.int .i64 (D.length:Nat)] 29)=W':=⟨_,rfl⟩
 obtain⟨Rz,hb7⟩:=gY (vs:=[.int .i64 (X:Nat),.int .i64 (D.length:Nat)]) hw7
 rw[hw7]
 have hS7:SS w6.heap.size X D.length w7:=⟨(Array.getElem?_eq_some_iff.1 Rz).1,(lV Rz).1,(lV Rz).2.1⟩
 have vJ:=Lib.hid (Gv.out.trans (hb7.mono Gv.out.size))
 have aj1:=Lib.hid hb7
 have HUN:=Lib.hid (show U≤1000000000 by omega)
 have Fa:=Lib.hid (show w.heap.size+1<W.heap.size by have:=HZ.out;omega)
 have Jv:=Lib.hid (show w.heap.size+1≠w6.heap.size by have:=Fa.out;have:=Gv.out.size;omega)
 have hdr:=aK w7
 have HS7:=Lib.hid hS7
 obtain⟨z,hz⟩: ∃n,aY U=n:=⟨_,rfl⟩
 have HZ3:=Lib.hid (show z≤3 by rw[←hz];unfold aY;omega)
 have hzr:=fun w=>Ap U HUN.out w
 rw[hz]at hzr
 have HZR:=Lib.hid hzr
 have HJ:=Lib.hid (fun(g8:Nat) (W8 W9:World) (h8:Below w7.heap.size w7 W8) (ho:Own w7.heap.size W8 (.slice (some ⟨g8,0,none⟩) z z) (List.replicate z 0)) (h9:W8.alloc (.cells #[.slice A5 U c5,.slice (some ⟨g8,0,none⟩) z z,.slice A6 Z c6] 22)=W9)=>(show Calls Tryz.prog 19 #[.slice (some ⟨W8.heap.size,0,none⟩) 3 3,.slice none 0 0] W9 (G9 W9 (o.blk D))from by
  obtain⟨r9,b9⟩:=gY (vs:=[.slice A5 U c5,.slice (some ⟨g8,0,none⟩) z z,.slice A6 Z c6]) h9
  have h79:Below w7.heap.size w7 W9:=h8.trans (b9.mono h8.size)
  have h69:=aj1.out.trans (h79.mono aj1.out.size)
  have h59:=H56.out.trans (h69.mono H56.out.size)
  have hl:=o.aad D
  have hbl:(o.blk D).length=U+z+Z:=by rw[←hl,List.length_append,List.length_append,List.length_replicate,HU.out,hz,HZZ.out.2]
  refine aje (l0:=o.lM D) (l1:=List.replicate z 0) (l2:=tZ o.check D) (c0:=c5) (c1:=z) (c2:=c6) W9 (H5b.out.1.below h59) ((oI ho).below b9) (H6.out.1.below h69) ?_ ?_ ?_ (o.blk D) (by rw[←hl,HU.out,hz]) (by rw[hbl];have:=HZ3.out;omega) (by rw[hbl];have:=HHL.out;have:=Nc.out;have:=HU.out;unfold Op.lM at this;rw[List.length_append]at this;omega)
  ·rw[HU.out,cell_of_row W9 _ _ _ _ _ r9];rfl
  ·rw[List.length_replicate,cell_of_row W9 _ _ _ _ _ r9];rfl
  ·rw[HZZ.out.2,cell_of_row W9 _ _ _ _ _ r9];rfl))
 have HBL:Hid ((o.blk D).length=(o.blk D).length):=Lib.hid rfl
 clear Rz hw7 hb7 hz hzr hS7 hUi hXi hsum hsz2 aoj hDi
 refine wp_region_held_drew (S:=SS w6.heap.size X D.length) (by kernel_rfl) (HS7.out.below hdr) (fun hS=> ?_)
 refine tq 0 hS ?_
 refine tq 1 hS ?_
 refine tq 2 hS ?_
 refine tq 5 hS ?_
 refine tp 8 rfl (fun w hSw=>by obtain⟨_,q0,q1⟩:=hSw;go_simp;all_goals(with_reducible rfl)) hS ?_
 refine tr 3 (fun K hK=> ?_)
 go_simp
 refine(HZR.out _).mono ?_
 rintro e x3 ⟨rfl,rfl⟩
 go_wp2_with fail
 refine hK.out _ _ (HS7.out.below hdr) (fun _=> ?_)
 clear hK K
 refine tr 4 (fun K hK=> ?_)
 refine jF rfl (.tmp 76) (.tmp 76) rfl w7.heap.size z w7.drew rfl rfl (by have:=HZ3.out;omega) (Nat.le_refl _) ?_
 intro w8 Jw hg8
 have g8:Below w7.heap.size w7 w8:=hdr.trans (below_grown (Below.refl _ _) hg8 (Nat.le_refl _) (fun g e=>by cases e))
 have H8:=Lib.hid (And.intro Jw g8)
 clear Jw hg8
 simp only[Act.put,List.setIfInBounds_toArray,List.set_cons_zero,List.set_cons_succ]
 refine hK.out _ _ (HS7.out.below g8) (fun _=> ?_)
 clear hK K
 refine tr 6 (fun K hK=> ?_)
 go_simp
 obtain⟨w9,FC⟩: ∃W',w8.alloc (.cells #[.slice A5 U c5,.slice (some ⟨w7.heap.size,0,none⟩) z z,.slice A6 Z c6] 22)=W':=⟨_,rfl⟩
 rw[FC]
 have HJ9:=Lib.hid (HJ.out _ _ _ H8.out.2 H8.out.1 FC)
 have g9:Below w7.heap.size w7 w9:=g8.trans ((gY (vs:=[.slice A5 U c5,.slice (some ⟨w7.heap.size,0,none⟩) z z,.slice A6 Z c6]) FC).2.mono g8.size)
 clear FC
 refine hK.out _ _ (HS7.out.below g9) (fun _=> ?_)
 clear hK K
 refine tr 7 (fun K hK=> ?_)
 go_simp
 refine HJ9.out.mono ?_
 rintro e w10 ⟨g,cap,rfl,y1,y2,y3,y4,y5,y6⟩
 have g10:Below w7.heap.size w7 w10:=g9.trans (y6.mono g9.size)
 have H10:=Lib.hid (And.intro y1 (And.intro y2 (And.intro (Nat.le_trans g9.size y3) (And.intro y4 y5))))
 have IV:=vJ.out.trans (g10.mono vJ.out.size)
 have oN:=Lib.hid IV
 have ac3:=Lib.hid (HS7.out.below g10)
 obtain⟨x0,x1,xf⟩:=HRC.out w10 IV
 have xf0:=xf 0
 have xf1:=xf 1
 clear y1 y2 y3 y4 y5 y6 IV xf
 go_wp2_with fail
 refine hK.out _ _ ac3.out (fun _=> ?_)
 clear hK K
 refine tq 9 ac3.out ?_
 refine tr 10 (fun K hK=> ?_)
 go_simp
 refine hK.out _ _ ((ac3.out.set Jv.out).set Jv.out) (fun _=> ?_)
 clear hK K
 refine tq 11 ((ac3.out.set Jv.out).set Jv.out) ?_
 refine wpAnyH_done (by kernel_rfl) ?_ _
 clear x0 x1 xf0 xf1 hS hdr g8 g9 g10
 obtain⟨e0,e1,_⟩:=lV (heap_set (heap_set (HRW.out w10 oN.out) 0 (.int .i64 (X:Nat))) 1 (.int .i64 (D.length:Nat)))
 have HRV:=Lib.hid (show agf (o.rc D)= .agg #[.int .i64 (X:Nat),.int .i64 (D.length:Nat)] by rw[←HX.out,←HU.out,←HZZ.out.1];rfl)
 have Nb:w.heap.size+1≠g:=by have h1:=H10.out.2.2.1;have h2:=Fa.out;have h3:=vJ.out.size;omega
 have HG:=Lib.hid (show w.heap.size≤g∧g<((w10.setCell ⟨w.heap.size+1,0,none⟩ (.int .i64 (X:Nat))).setCell ⟨w.heap.size+1,1,none⟩ (.int .i64 (D.length:Nat))).heap.size from⟨by have h1:=H10.out.2.2.1;have h2:=Fa.out;have h3:=vJ.out.size;omega,by simpa using H10.out.2.2.2.1⟩)
 have NI:=Lib.hid ((H10.out.2.2.2.2.set (i:=0) (u:= .int .i64 (X:Nat)) Nb).set (i:=1) (u:= .int .i64 (D.length:Nat)) Nb)
 have HBF:=Lib.hid (Below.setCell (p:=⟨w.heap.size+1,1,none⟩) (Below.setCell (p:=⟨w.heap.size+1,0,none⟩) (fV.out.trans (oN.out.mono fV.out.size)) (by simp) (.int .i64 (X:Nat))) (by simp) (.int .i64 (D.length:Nat)))
 clear Nb
 go_wp2_with fail
 exact bodyPost_ret (v:= .tuple #[.slice (some ⟨g,0,none⟩) (o.blk D).length cap,.agg #[.int .i64 (X:Nat),.int .i64 (D.length:Nat)],.int .i64 0]) (by simp[results,Tryz.results6,go_sem,e0,e1]) rfl ⟨g,cap,by rw[HRV.out],H10.out.1,H10.out.2.1,HG.out,NI.out,HBF.out⟩
end Go.Proofs.YtgfpocdiojifoaaGreatDoor
