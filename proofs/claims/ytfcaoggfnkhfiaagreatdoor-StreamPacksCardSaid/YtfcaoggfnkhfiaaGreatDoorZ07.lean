import Derived.Test.YtfcaoggfnkhfiaaGreatDoorZ06
import Derived.Deep.RegionHeld3
import Derived.Deep.DeepCutAuto
import Derived.Laws.CopyOwn
import Derived.Deep.RegionLaw
import Derived.Deep.CutBlock
import Derived.Maps.AppendAt
import Derived.Test.YtfcaoggfnkhfiaaGreatDoorZ02
namespace Go.Proofs.YtfcaoggfnkhfiaaGreatDoor
set_option maxRecDepth 100000
set_option maxHeartbeats 8000000
open Go.RowKit Go.Proofs.Tryz
variable{dict most nice:Int}{D d:An}{B F c k l lm mp p place tt:Nat}{g:Nat->Nat}{A:As}{r:R4}{t0 t1 t2 t3:TypeId}{n0 n1 n2 n3 r0 r1 r2 r3 s0 s1 s2 s3 s4 z0 z1 z2 z3:Value}{W w:Lo}
section
open Go.RowKit Go.Maps
theorem Gs(A:As)(l:An)(c n:Nat)(w:Lo)(hB:Bytes w A l)(hc:l.length<=c)(hl:l.length<=100000)(hn:n=l.length-3):
  Calls prog 104 #[.slice A l.length c] w λe w'=>e= .returned (.slice (some ⟨w.heap.size+1,0,none⟩) n n)/\w'.heap[w.heap.size+1]? =some (.cells (jF l n).toArray 21 (0,0))/\Below w.heap.size w w':=by
 have oj:(l.length:Int)<=c:=aa;have n9:(l.length:Int)<=100000:=aa;have hmx:max ((l.length:Int)-3) 0=(n:Int):=aa;have hn6:n<=1000000:=aa;have qV:(n:Int)<=100000:=aa;have gx:=ae hB;have HN:=ae hn;have Iz: ∀w:Lo,(Instr.makeMap 211 none).run prog w= .ok (.map (some w.heap.size)) (w.alloc (.map #[] 0)):=λw=>run_makeMap _ w;clear hB hn hl hc;go_enter func104,ntmps104;go_wp2_with (at_make;refine zC rfl (.tmp 13) (.tmp 13) rfl n (w.alloc (.map #[] 0)) rfl rfl hn6 ?_;intro w1 aY hg)
 have aI:Below w.heap.size w w1:=am (az) hg ah (λg e=>eK);have Gq:(w.alloc (.map #[] 0)).heap.size=w.heap.size+1:=ah;have HMP:Hid (iR w1 w.heap.size l 0):=ae ((iR.made w l).aU (hg.block _ (by rw[Gq];omega) ah));rw[Gq]at aY;have qi:=ae aY;have bF:=ae aI;clear aY hg aI Gq;go_loopw [17] (λi wr=> ∃k:Nat,k<=n/\i= .int .i64 k/\Hid (wr.heap[w.heap.size+1]? =some (.cells (jF l k++List.replicate (n-k) (Value.int .i32 0)).toArray 21 (0,0)))/\Hid (iR wr w.heap.size l k)/\Hid (Below w.heap.size w wr)) (λi _=>n-(intOf i).toNat);·exact⟨0,aa,rfl,ae (by rw[Nat.sub_zero];exact qi.out),HMP,bF⟩
 ·
  obtain⟨k,hk,rfl,HR,HL,HB⟩:=hrel;by_cases tk:k<n
  ·have xO:(k:Int)<n:=(by omega);have oR:(k:Int)+3<(l.length:Int):=av HN.out;obtain⟨b,off,rfl,eX,cZ⟩:=(gx.below HB.out).addr aa;have uX:=cZ k aa;have ks:=cZ (k+1) aa;have fK:=cZ (k+2) aa;have tN:=cZ (k+3) aa;have e0:=dQ (d:=l) (i:=k) aa;have e1:=dQ (d:=l) (i:=k+1) aa;have e2:=dQ (d:=l) (i:=k+2) aa;have e3:=dQ (d:=l) (i:=k+3) aa;generalize l[k]'aa=z0 at*;generalize l[k+1]'aa=z1 at*;generalize l[k+2]'aa=z2 at*;generalize l[k+3]'aa=z3 at*;have HFO:Hid (four l k=(z0,z1,z2,z3)):=ae (by unfold four;rw[e0,e1,e2,e3]);obtain⟨y1,C_⟩: ∃y:Nat,k+1=y:=⟨_,rfl⟩
   obtain⟨y2,Zm⟩: ∃y:Nat,k+2=y:=⟨_,rfl⟩
   obtain⟨y3,hy3⟩: ∃y:Nat,k+3=y:=⟨_,rfl⟩
   rw[C_]at ks;rw[Zm]at fK;rw[hy3]at tN;have k1:(k:Int)+1=(y1:Int):=aa;have k2:(k:Int)+2=(y2:Int):=aa;have k3:(k:Int)+3=(y3:Int):=aa;have l1:(y1:Int)<l.length:=aa;have l2:(y2:Int)<l.length:=aa;have l3:(y3:Int)<l.length:=aa;have l0:(k:Int)<l.length:=aa;have HC:=ae (fun(wx:Lo) (h:wx.heap[b]? =wr.heap[b]?)=>(show wx.cell? ⟨b,off+k,none⟩=some (.int .u8 z0.toNat)/\wx.cell? ⟨b,off+y1,none⟩=some (.int .u8 z1.toNat)/\wx.cell? ⟨b,off+y2,none⟩=some (.int .u8 z2.toNat)/\wx.cell? ⟨b,off+y3,none⟩=some (.int .u8 z3.toNat)from by
    refine⟨?_,?_,?_,?_⟩;·rw[<-uX];unfold World.cell?;rw[h]
    ·rw[<-ks];unfold World.cell?;rw[h]
    ·rw[<-fK];unfold World.cell?;rw[h]
    ·rw[<-tN];unfold World.cell?;rw[h]))
   have v1:IntKind.i64.wrap (y1:Int)=y1:=em _ aa;have v2:IntKind.i64.wrap (y2:Int)=y2:=em _ aa;have v3:IntKind.i64.wrap (y3:Int)=y3:=em _ aa;clear cZ e0 e1 e2 e3 C_ Zm hy3 oR uX ks fK tN;go_wp2_with fail;refine wp_region_held_drew (S:=λw2=>w2.heap[b]? =wr.drew.heap[b]?) ak rfl (λhS=> ?_);refine cC 0 HC.out hS (h:=cC 1 HC.out hS (h:=cC 2 HC.out hS (h:=cC 3 HC.out hS (h:=cC 4 HC.out hS (h:=cC 5 HC.out hS (h:=cC 6 HC.out hS (h:=cC 7 HC.out hS (h:=cC 8 HC.out hS (h:=cC 9 HC.out hS (h:=cC 10 HC.out hS (h:=cC 11 HC.out hS (h:= ?_))))))))))));refine cC 12 HC.out hS (h:=cC 13 HC.out hS (h:=cC 14 HC.out hS (h:=cC 15 HC.out hS (h:=cC 16 HC.out hS (h:=cC 17 HC.out hS (h:=cC 18 HC.out hS (h:=cC 19 HC.out hS (h:= ?_))))))));refine aO 20 (λK hK=> ?_);go_simp;refine hK _ _ (ee _ _ _ eX) (λ_=> ?_);clear hK K;refine aO 21 (λK hK=> ?_);go_simp;refine hK _ _ (ee _ _ _ eX) (λ_=> ?_);clear hK K;refine wpAnyH_done ak ?_ _;have⟨W2,gH⟩:=ex ((wr.alloc (.cells #[.int .u8 z0.toNat,.int .u8 z1.toNat,.int .u8 z2.toNat,.int .u8 z3.toNat] 212)).drew);rw[gH];have aK:Below wr.heap.size wr W2:=(by rw[<-gH];have h:=(aP wr.heap.size wr).alloc (aF _) (.cells #[.int .u8 z0.toNat,.int .u8 z1.toNat,.int .u8 z2.toNat,.int .u8 z3.toNat] 212);exact⟨h.os,h.tape,h.output,h.size,h.block⟩);have yx:W2.heap[wr.heap.size]? =some (.cells #[.int .u8 z0.toNat,.int .u8 z1.toNat,.int .u8 z2.toNat,.int .u8 z3.toNat] 212 (0,0)):=(by rw[<-gH];exact bz _ _);have tB:w.heap.size+1<wr.heap.size:=(bU HR.out)
   have nR:=(aK.block _ tB).trans HR.out;have zu:iR W2 w.heap.size l k:=HL.aU (aK.block _ aa);have U3:Below w.heap.size w W2:=HB.trans (aK.mono aa);clear gH aK hS;have c1:W2.cell? ⟨w.heap.size+1,k,none⟩=some (.int .i32 0):=(by rw[aC W2 _ _ _ _ _ nR,List.getElem?_toArray,lH (by simp[jF]),show(jF l k).length=k from by simp[jF],lJ,List.getElem?_replicate,ax aa]);have f1:W2.frozen? ⟨w.heap.size+1,k,none⟩=false:=(by simp[World.frozen?,nR]);have⟨W3,jE⟩:=ex (W2.setCell ⟨w.heap.size+1,k,none⟩ (.int .i32 (-1)));have xM:=heap_set nR k (.int .i32 (-1));have ZE:=(show W3.heap[wr.heap.size]? =W2.heap[wr.heap.size]? from by rw[<-jE,af _ _ _ _ aH]).trans yx;have tJ:iR W3 w.heap.size l k:=zu.aU (by rw[<-jE,af _ _ _ _ ah]);have ajt:Below w.heap.size w W3:=(by rw[<-jE];exact cN (p:=⟨w.heap.size+1,k,none⟩) U3 ah _);rw[jE]at xM;have zz:=ae jE;have qy:=ae nR;obtain⟨cc,Zn,xU⟩:=tJ.look (z0,z1,z2,z3);have HCC:=ae xU;have x0:W3.cell? ⟨wr.heap.size,0,none⟩=some (.int .u8 z0.toNat):=FE;have x1:W3.cell? ⟨wr.heap.size,1,none⟩=some (.int .u8 z1.toNat):=FE;have x2:W3.cell? ⟨wr.heap.size,2,none⟩=some (.int .u8 z2.toNat):=FE;have x3:W3.cell? ⟨wr.heap.size,3,none⟩=some (.int .u8 z3.toNat):=FE;simp only[BR,tL]at Zn;have Lj:=ae xM;have HL3:=ae tJ;have ft:=ae ajt;clear jE nR zu U3 yx xU xM tJ ajt;go_upto_region 8 with fail;rw[zz.out];have ajr:IntKind.i32.wrap (k:Int)=k:=by have e1:IntKind.i32.min= -2147483648:=rfl;have e2:IntKind.i32.max=2147483647:=rfl;first|exact IntWalk.i32_in _ aa|(unfold IntKind.wrap;simp;omega)
   have dq:w.heap.size+1<W3.heap.size:=(bU Lj.out)
   have hmb:w.heap.size<W3.heap.size:=aa;cases hs:seen l (z0,z1,z2,z3) k with
   | true=>
    rw[hs]at Zn;have xl:=ae (HCC hs);have c3:W3.cell? ⟨w.heap.size+1,k,none⟩=some (.int .i32 (-1)):=(by rw[aC W3 _ _ _ _ _ Lj.out,List.getElem?_toArray,List.getElem?_set_self (by rw[aG,xR,iH];omega)]);have f3:W3.frozen? ⟨w.heap.size+1,k,none⟩=false:=(by simp[World.frozen?,Lj.out]);have⟨W4,lP⟩:=ex (W3.setCell ⟨w.heap.size+1,k,none⟩ (.int .i32 cc));have ahy:=(show W4.heap[wr.heap.size]? =W3.heap[wr.heap.size]? from by rw[<-lP,af _ _ _ _ aH]).trans ZE;have y0:W4.cell? ⟨wr.heap.size,0,none⟩=some (.int .u8 z0.toNat):=FF;have y1':W4.cell? ⟨wr.heap.size,1,none⟩=some (.int .u8 z1.toNat):=FF;have y2':W4.cell? ⟨wr.heap.size,2,none⟩=some (.int .u8 z2.toNat):=FF;have y3':W4.cell? ⟨wr.heap.size,3,none⟩=some (.int .u8 z3.toNat):=FF;have zE:Hid (W4.heap[w.heap.size+1]? =some (.cells (jF l (k+1)++List.replicate (n-(k+1)) (Value.int .i32 0)).toArray 21 (0,0))):=ae (by
     have h:=heap_set Lj.out k (.int .i32 cc);rw[lP,List.set_set,Ex l n k tk cc (by rw[HFO.out];exact xl.out)]at h;exact h)
    have ZK:Hid (iR W4 w.heap.size l k):=ae (HL3.aU (by rw[<-lP,af _ _ _ _ ah]));have cW:Hid (Below w.heap.size w W4):=ae (by rw[<-lP];exact cN (p:=⟨w.heap.size+1,k,none⟩) ft.out ah _);have Mj:=ae lP;clear lP ZE ahy hs dq hmb;go_upto_region 11 with fail;rw[Mj.out];obtain⟨w5,hmu,Jz,ht5⟩:=ZK.put aa;rw[HFO.out]at hmu;simp only[BR,tL]at hmu;have ig:=ht5.grown;have ad5:Hid (w5.heap[w.heap.size+1]? =some (.cells (jF l (k+1)++List.replicate (n-(k+1)) (Value.int .i32 0)).toArray 21 (0,0))):=ae ((ig.block _ (bU zE.out) ah).trans zE.out);have pX:Hid (Below w.heap.size w w5):=ae (am cW.out ig cW.size (λg e=>xu));have HL5:=ae Jz;clear Jz ht5 ig;go_wp2_with fail;exact⟨⟨k+1,aa,aA,ad5,HL5,pX⟩,fP⟩
   | false=>
    rw[hs]at Zn;have ue:Hid (-1=cU l (four l k) k):=ae (by
     have h1: ¬0<=cU l (z0,z1,z2,z3) k:=(by simpa [seen]using hs);rw[HFO.out];rcases kT l (z0,z1,z2,z3) k with h|h<;>omega)
    have zE:Hid (W3.heap[w.heap.size+1]? =some (.cells (jF l (k+1)++List.replicate (n-(k+1)) (Value.int .i32 0)).toArray 21 (0,0))):=ae (by
     rw[<-Ex l n k tk (-1) ue.out];exact Lj.out)
    have ZK:=HL3;have cW:=ft;clear ZE hs dq hmb;obtain⟨w5,hmu,Jz,ht5⟩:=ZK.put aa;rw[HFO.out]at hmu;simp only[BR,tL]at hmu;have ig:=ht5.grown;have ad5:Hid (w5.heap[w.heap.size+1]? =some (.cells (jF l (k+1)++List.replicate (n-(k+1)) (Value.int .i32 0)).toArray 21 (0,0))):=ae ((ig.block _ (bU zE.out) ah).trans zE.out);have pX:Hid (Below w.heap.size w w5):=ae (am cW.out ig cW.size (λg e=>xu));have HL5:=ae Jz;clear Jz ht5 ig;go_wp2_with fail;exact⟨⟨k+1,aa,aA,ad5,HL5,pX⟩,fP⟩
  ·obtain rfl:k=n:=(by omega);rw[lJ,List.replicate_zero,iV]at HR;clear qi bF;go_wp2;go_ret;exact⟨rfl,HR.out,HB.out⟩
end
section
open Go.RowKit Go.Maps
structure ry(w:Lo)(F:Nat)(A:As)(c:Nat)(d:An)(dict nice:Int)(mp B:Nat):Prop where
 at_:dV w F A c d dict nice mp (.slice (some ⟨B,0,none⟩) (d.length-3) (d.length-3))
 VP:dA w mp d (d.length-1)
 VQ:w.heap[B]? =some (.cells (jF d (d.length-3)).toArray 21 (0,0))
theorem ry.below{w w':Lo}{F:Nat}{A:As}{c:Nat}{d:An}{dict nice:Int}{mp B:Nat}(h:ry w F A c d dict nice mp B)(hb:Below w.heap.size w w'):ry w' F A c d dict nice mp B:=
 ⟨h.at_.below hb,h.VP.below hb,(hb.block _ (bU h.VQ)).trans h.VQ⟩
def VR(d:An)(dict nice:Int)(w:Lo)(e:Ending)(w':Lo):Prop:= ∃(Fp:Nat) (A:As) (c mp B:Nat),e= .returned (.tuple #[PF Fp,.int .i64 0])/\ry w' Fp A c d dict nice mp B/\Below w.heap.size w w'
theorem F_(A:As)(d:An)(c:Nat)(dict nice:Int)(w:Lo)(hB:Bytes w A d)(hc:d.length<=c)(hl:d.length<=100000)(h1: ¬dict<1)(h2: ¬nice<2)(h3: ¬273<nice):
  Calls prog 70 #[.slice A d.length c,.int .i64 dict,.int .i64 nice] w (VR d dict nice w):=by
 have oj:(d.length:Int)<=c:=aa;have n9:(d.length:Int)<=100000:=aa;have LQ:=ae (Q9 A d c w hB hc hl);have HL:=ae hl;clear hB hc hl;go_enter func70,ntmps70;go_wp2_with fail;refine LQ.mono ?_;rintro e w1 ⟨v,rfl,aL,aI⟩;obtain⟨A',c',rfl,VS,oT,hB'⟩:=aL.read;have bF:=ae aI;have gx:=ae hB';have HC':=ae VS;have⟨W2,gH⟩:=ex (w1.alloc (.cells #[.slice A' d.length c',.int .i64 dict,.int .i64 nice,.map none,.slice none 0 0] 141));have kp:W2.heap[w1.heap.size]? =some (.cells [.slice A' d.length c',.int .i64 dict,.int .i64 nice,.map none,.slice none 0 0].toArray 141 (0,0)):=xv;have aK:aq w1 W2:=tZ;have ayY:(d.length:Int)<=c':=aa;have My:=ae (B9 A' d c' (d.length-1) W2 (hB'.below aK) VS HL.out rfl);have rf:=ae gH;have JA:=ae kp;have dG:=ae aK;have f20:W2.cell? ⟨w1.heap.size,0,none⟩=some (.slice A' d.length c'):=mo;clear aL aI hB' VS oT gH kp aK;go_wp2_with fail;rw[rf.out];have mr:Hid (w1.heap.size<W2.heap.size):=ae (bU JA.out);clear f20;refine My.mono ?_;rintro e W3 ⟨rfl,Ho,bm⟩;have kr:=(bm.block _ mr.out).trans JA.out;have f30:W3.frozen? ⟨w1.heap.size,3,none⟩=false:=aS _ _ _ _ _ kr;have⟨W4,lP⟩:=ex (W3.setCell ⟨w1.heap.size,3,none⟩ (.map (some W2.heap.size)));have qO:=heap_set kr 3 (.map (some W2.heap.size));rw[lP]at qO;have ad6:dA W4 W2.heap.size d (d.length-1):=by rw[<-lP];exact Ho.set _ _ mr.out
 have bc:aq w1 W4:=by rw[<-lP];exact(dG.trans (bm.mono (Nat.le_of_lt mr.out))).setCell (p:=⟨w1.heap.size,3,none⟩) (aF _) _
 have f40:W4.cell? ⟨w1.heap.size,0,none⟩=some (.slice A' d.length c'):=by rw[aC W4 _ _ _ _ _ qO];rfl
 have f3d:W3.cell? ⟨w1.heap.size,3,none⟩=some (.map none):=by rw[aC W3 _ _ _ _ _ kr];rfl
 have f3c:W3.cell? ⟨w1.heap.size,0,none⟩=some (.slice A' d.length c'):=by rw[aC W3 _ _ _ _ _ kr];rfl
 have HSF:=ae (Gs A' d c' (d.length-3) W4 (gx.below bc) HC'.out HL.out rfl);have Mj:=ae lP;have PK:=ae qO;have fJ:=ae bc;have aqd:=ae ad6;have h24:Hid (W2.heap.size<W4.heap.size):=ae ad6.lt;clear lP qO bc ad6 kr Ho bm;go_wp2_with fail;rw[Mj.out];refine HSF.mono ?_;rintro e W5 ⟨rfl,Hr,eS⟩;have ajw:w1.heap.size<W4.heap.size:=(bU PK.out)
 have vb:=(eS.block _ ajw).trans PK.out;have f50:W5.frozen? ⟨w1.heap.size,4,none⟩=false:=aS _ _ _ _ _ vb;have f5d:W5.cell? ⟨w1.heap.size,4,none⟩=some (.slice none 0 0):=by rw[aC W5 _ _ _ _ _ vb];rfl
 have⟨W6,Ra⟩:=ex (W5.setCell ⟨w1.heap.size,4,none⟩ (.slice (some ⟨W4.heap.size+1,0,none⟩) (d.length-3:Nat) (d.length-3:Nat)));have VT:=heap_set vb 4 (.slice (some ⟨W4.heap.size+1,0,none⟩) (d.length-3:Nat) (d.length-3:Nat));rw[Ra]at VT;have oq:aq w1 W6:=by rw[<-Ra];exact(fJ.trans (eS.mono (Nat.le_of_lt ajw))).setCell (p:=⟨w1.heap.size,4,none⟩) (aF _) _
 have hR:ry W6 w1.heap.size A' c' d dict nice W2.heap.size (W4.heap.size+1):=by
  refine⟨⟨VT,gx.below oq,HC'.out,HL.out⟩,?_,?_⟩;·rw[<-Ra];exact(aqd.below eS).set _ _ mr.out
  ·rw[<-Ra];exact(af _ _ _ _ (by show W4.heap.size+1≠w1.heap.size;omega)).trans Hr
 have HR:=ae hR;have VU:=ae Ra;have ul:Hid (aq w W6):=ae (aQ bF.out oq);clear Ra VT oq hR vb Hr eS;go_wp2_with fail;rw[VU.out];go_ret2;exact⟨_,_,_,_,_,rfl,HR.out,ul.out⟩
end
def nx(d:An)(dict nice place most:Int):Nat×Nat:=if 0<=place/\place<(d.length:Int)then iQ d dict nice place.toNat most else(0,0)
def VV(r:Nat×Nat)(w:Lo)(e:Ending)(w':Lo):Prop:=e= .returned (.tuple #[.int .i64 r.1,.int .i64 r.2])/\Below w.heap.size w w'
theorem ajx(hR:ry w F A c d dict nice mp B)(h4:4<=lm)(hl:place+lm<=d.length){b1 b2:Nat}(hb:Below w.heap.size w W)(ks:br b1 W (PF F))(fK:br b2 W (.int .i64 place)):
  Calls prog 229 #[PF F,.int .i64 place,.int .i64 lm,.func (.func 252) #[] #[PF b1,PF b2]] W (BZ d place lm dict (chain d (four d place) place) W):=by
 have hW:=hR.below hb
 exact yD F A c d dict nice mp _ place lm _ _ _ W hW.at_ hl aa (λx hx=>(mg.1 hx).1) (rt _ _ _) (enters_of func252 ak rfl)
  (VJ Fence.wide 3 trivial rfl ar F A c d dict nice mp B (d.length-3) b1 b2 place W hW.at_ hW.VQ ks fK aa aa)
theorem ab6(hR:ry w F A c d dict nice mp B)(h2:2<=lm)(hl:place+lm<=d.length){e:Ending}{W0:Lo}(hb:Below w.heap.size w W0)
  (hP:Jy (places d (d.getD place 0) (d.getD (place+1) 0) (d.length-1)) place W0 e W):
  ∃(b1 b2:Nat) (L2:List Nat),e= .returned (.func (.func 254) #[] #[PF b1,PF b2])/\Below w.heap.size w W/\(∀z,z∈L2↔z<place/\d.getD z 0=d.getD place 0/\d.getD (z+1) 0=d.getD (place+1) 0)/\
   Calls prog 229 #[PF F,.int .i64 place,.int .i64 lm,.func (.func 254) #[] #[PF b1,PF b2]] W (BZ d place lm dict L2 W):=by
 obtain⟨b1,b2,A2,c2,h,rfl,ks,fK,Zb,ei,hh,yr,Ll,aK⟩:=hP;obtain⟨hm,hf⟩:=Q5 (place:=place) rfl rfl aa hh yr Ll;have bZ:aq w W:=aQ hb aK;have hW:=hR.below bZ;have hlen:=uk d (d.getD place 0) (d.getD (place+1) 0) (d.length-1);have VW:=hR.at_.small;refine⟨b1,b2,_,rfl,bZ,hm,?_⟩
 exact yD F A c d dict nice mp _ place lm _ _ _ W hW.at_ hl aa (λx hx=>((hm x).1 hx).1) hf (enters_of func254 ak rfl)
  (VK Fence.wide 3 trivial rfl ar A2 c2 _ b1 b2 h W Zb ei aa (λx hx=>by have:=(pu.1 hx).1;omega) ks fK hh)
theorem VX(F:Nat)(A:As)(c:Nat)(d:An)(dict nice:Int)(mp B:Nat)(place most:Int)(w:Lo)(hR:ry w F A c d dict nice mp B):
  Calls prog 191 #[PF F,.int .i64 place,.int .i64 most] w (VV (nx d dict nice place most) w):=by
 have HH:=ae (PH F A c d dict nice mp _ place w hR.at_);have n9:(d.length:Int)<=100000:=av hR.at_.small;unfold nx;by_cases h1:0<=place/\place<(d.length:Int);case neg=>
  have hh:hasB d place=false:=by
   unfold hasB;cases h:(decide (0<=place)&&decide (place<(d.length:Int)))with
   | false=>rfl
   | true=>simp at h;exact absurd h h1
  rw[hh]at HH;rw[au h1];clear h1 hh hR;go_enter func191,ntmps191;go_wp2_with fail;refine HH.mono ?_;rintro e w1 ⟨rfl,rfl⟩;go_wp2;go_ret2;exact⟨rfl,aP _ _⟩
 have hh:hasB d place=true:=by unfold hasB;simp[h1.1,h1.2]
 rw[hh]at HH;rw[ax h1];obtain⟨p,rfl⟩: ∃p:Nat,place=(p:Int):=⟨place.toNat,aa⟩
 simp only[Int.toNat_natCast];have ud:(p:Int)<=100000:=aa;have t8:(p:Int)<d.length:=h1.2;have⟨X,hX⟩:=ex ((d.length:Int)-(p:Int):Int);have⟨M,hM⟩:=ex (min (min nice most) X:Int);have⟨R,hRd⟩:=ex (iQ d dict nice p most);rw[hRd];have H7:Hid (R=if(dk (vN d p M.toNat) (depth p dict)).1<2 then(0,0)else dk (vN d p M.toNat) (depth p dict)):=ae (by
  rw[<-hRd];unfold iQ;have e:tj d p (min nice most)=M.toNat:=by unfold tj;rw[hX,hM]
  rw[e];rfl)
 obtain⟨f0,_,f2,_,_⟩:=hR.at_.cells;have hM0:M<=(d.length:Int)-(p:Int):=aa;have HR:=ae hR;have hXw:IntKind.i64.wrap X=X:=em _ aa;have oo:(M=nice/\ ¬most<nice/\ ¬X<nice)\/(M=most/\most<nice/\ ¬X<most)\/(M=X/\most<nice/\X<most)\/(M=X/\ ¬most<nice/\X<nice):=aa;have HMX:Hid (M<=(d.length:Int)-(p:Int)):=ae hM0;clear h1 hh hR hM hM0 hRd;by_cases pW:M<2
 ·have hz:Hid ((dk (vN d p M.toNat) (depth p dict)).1<2):=ae (by
   rcases(kD (vN d p M.toNat) (depth p dict)).at_ with⟨e,_⟩|⟨_,_,e,_⟩
   ·omega
   ·have h1:=jZ d p (p-(dk (vN d p M.toNat) (depth p dict)).2) M.toNat;have e2:bG d p (p-(dk (vN d p M.toNat) (depth p dict)).2) M.toNat=(dk (vN d p M.toNat) (depth p dict)).1:=e;omega)
  have HRZ:Hid (R=(0,0)):=ae (by rw[H7.out,ax hz.out]);clear H7 hz;have b2:decide (M<2)=true:=iz pW;rcases oo with⟨rfl,a1,a2⟩|⟨rfl,a1,a2⟩|⟨rfl,a1,a2⟩|⟨rfl,a1,a2⟩
  all_goals
   go_enter func191,ntmps191;go_wp2_with fail;refine HH.mono ?_;rintro e w1 ⟨rfl,rfl⟩;go_wp2;go_quiet (fail);go_wp2;go_ret2;rw[HRZ.out];exact⟨rfl,below_drewN (aP _ _) _⟩
 ·obtain⟨lm,rfl⟩: ∃lm:Nat,M=(lm:Int):=⟨M.toNat,aa⟩
  simp only[Int.toNat_natCast]at H7;have b2:decide ((lm:Int)<2)=false:=du pW;have hlm:Hid (2<=lm/\p+lm<=d.length):=ae (av HMX.out);have TS:Hid (p+1<d.length):=ae (av hlm.out);by_cases Ma:4<=lm
  ·have b4:decide (4<=(lm:Int))=true:=iz aa;have b4':4<=(lm:Int):=aa;have H4:=ae Ma;clear pW Ma;rcases oo with⟨rfl,a1,a2⟩|⟨rfl,a1,a2⟩|⟨rfl,a1,a2⟩|⟨rfl,a1,a2⟩
   all_goals
    go_enter func191,ntmps191;go_wp2_with fail;refine HH.mono ?_;rintro e w1 ⟨rfl,rfl⟩;go_wp2;go_quiet (fail);go_wp2_with fail;refine(BU F p _).mono ?_;rintro e w1 ⟨b1,b2,rfl,ks,fK,_,_,aI⟩;have ja:=(below_drewN (aP w.heap.size w) _).trans aI;have bF:=ae ja;have HL4:=ae (ajx HR.out H4.out hlm.2 ja ks fK);clear ks fK aI ja;go_wp2_with fail;refine HL4.mono ?_;rintro e w2 ⟨n,k,rfl,yG,aK⟩;have ug:=ae yG;have dG:=ae (aQ bF.out aK);clear yG aK;by_cases hn4:4<=n
    ·have qq:Hid ((if(dk (vN d p lm) (depth p dict)).1<2 then(0,0)else dk (vN d p lm) (depth p dict))=(n,k)):=ae (by
      have e:=Q3 ug.out hn4;rw[<-e,au (by show ¬n<2;omega)])
     have b5:decide (4<=(n:Int))=true:=iz aa;have b5':4<=(n:Int):=aa;clear hn4;go_wp2;go_ret2;rw[H7.out,qq.out];exact⟨rfl,dG.out⟩
    ·have HNF:=ae (B_ ug.out aa);have b5:decide (4<=(n:Int))=false:=du aa;have b5': ¬4<=(n:Int):=aa;clear hn4;go_wp2_with fail;refine(rx F A c d dict _ mp _ p _ (HR.below dG.out).at_ (HR.below dG.out).VP TS.out).mono ?_;rintro e w3 VY;obtain⟨c1,c2,L2,rfl,bm,um,JB⟩:=ab6 (lm:=3) HR.out ar (by have:=hlm.out;have:=H4.out;omega) dG.out VY;have ft:=ae bm;have HME:=ae um;have HLO:=ae JB;clear VY bm um JB;go_wp2_with fail;refine HLO.mono ?_;rintro e w4 ⟨n2,k2,rfl,Ca,bc⟩;have fJ:Hid (aq w w4):=ae (aQ ft.out bc);have qq:=ae (EA HME.out ar (av H4.out) HNF.out Ca);clear Ca bc;go_wp2;go_ret2;rw[H7.out,<-qq.out];exact⟨rfl,fJ.out⟩
  ·have b4:decide (4<=(lm:Int))=false:=du aa;have b4': ¬4<=(lm:Int):=aa;clear pW Ma;rcases oo with⟨rfl,a1,a2⟩|⟨rfl,a1,a2⟩|⟨rfl,a1,a2⟩|⟨rfl,a1,a2⟩
   all_goals
    go_enter func191,ntmps191;go_wp2_with fail;refine HH.mono ?_;rintro e w1 ⟨rfl,rfl⟩;go_wp2;go_quiet (fail);go_wp2_with fail;have HBQ: ∀m,Hid (aq w (w.drewN m)):=λm=>ae (below_drewN (aP _ _) m);refine(rx F A c d dict _ mp _ p _ (HR.below (HBQ _).out).at_ (HR.below (HBQ _).out).VP TS.out).mono ?_;rintro e w3 VY;obtain⟨c1,c2,L2,rfl,bm,um,JB⟩:=ab6 (lm:=lm) HR.out hlm.1 hlm.2 (HBQ _).out VY;have ft:=ae bm;have HME:=ae um;have HLO:=ae JB;clear VY bm um JB;go_wp2_with fail;refine HLO.mono ?_;rintro e w4 ⟨n2,k2,rfl,Ca,bc⟩;have fJ:Hid (aq w w4):=ae (aQ ft.out bc);have qq:=ae (EA HME.out hlm.1 (aF _) (λj _ _=>jZ _ _ _ _) Ca);clear Ca bc;go_wp2;go_ret2;rw[H7.out,<-qq.out];exact⟨rfl,fJ.out⟩
def kF(a b c d:Int)(w:Lo)(e:Ending)(w':Lo):Prop:=e= .returned (LV a b c d)/\Below w.heap.size w w'
theorem Rb(a b c d:Int)(VZ:UInt8)(l dd r:Int)(w:Lo):Calls prog 193 #[LV a b c d,mq 0 VZ l dd r] w (kF a b c d w):=by go_enter func193,ntmps193;go_wp2_with fail;refine bA (v:=LV a b c d) (by simp[results,results193,go_sem]) rfl ⟨rfl,?_⟩;exact((az).alloc ah _).alloc aH _
theorem yH
  (hW:(((w.alloc (.cells #[r0,r1,r2,r3] t0)).alloc (.cells #[s0,s1,s2,s3,s4] t1)).alloc (.cells #[z0,z1,z2,z3] t2)).alloc (.cells #[n0,n1,n2,n3] t3)=W):
  Below w.heap.size w W/\W.heap[w.heap.size]? =some (.cells [r0,r1,r2,r3].toArray t0 (0,0))/\W.heap[w.heap.size+1+1]? =some (.cells [z0,z1,z2,z3].toArray t2 (0,0))/\W.heap[w.heap.size+1+1+1]? =some (.cells [n0,n1,n2,n3].toArray t3 (0,0)):=by
 subst hW;have mk: ∀(W:Lo) (o:Obj) (b:Nat),b=W.heap.size->(W.alloc o).heap[b]? =some o:=λW o b e=>FG;have up: ∀(W:Lo) (o o':Obj) (b:Nat),W.heap[b]? =some o'->(W.alloc o).heap[b]? =some o':=λW o o' b h=>(ee _ _ _ (bU h)).trans h;refine⟨((((az).alloc ah _).alloc aH _).alloc aH _),up _ _ _ _ (up _ _ _ _ (up _ _ _ _ (mk _ _ _ rfl))),up _ _ _ _ (mk _ _ _ ah),mk _ _ _ ah⟩
theorem lZ{m:Nat}
  (hW:((((w.alloc (.cells #[r0,r1,r2,r3] t0)).alloc (.cells #[s0,s1,s2,s3,s4] t1)).alloc (.cells #[z0,z1,z2,z3] t2)).drewN m).alloc (.cells #[n0,n1,n2,n3] t3)=W):
  Below w.heap.size w W/\W.heap[w.heap.size]? =some (.cells [r0,r1,r2,r3].toArray t0 (0,0))/\W.heap[w.heap.size+1+1]? =some (.cells [z0,z1,z2,z3].toArray t2 (0,0))/\W.heap[w.heap.size+1+1+1]? =some (.cells [n0,n1,n2,n3].toArray t3 (0,0)):=by
 obtain⟨h1,h2,h3,h4⟩:=yH (rfl:(((w.alloc (.cells #[r0,r1,r2,r3] t0)).alloc (.cells #[s0,s1,s2,s3,s4] t1)).alloc (.cells #[z0,z1,z2,z3] t2)).alloc (.cells #[n0,n1,n2,n3] t3)=_);subst hW;exact⟨⟨h1.os,h1.tape,h1.output,h1.size,h1.block⟩,h2,h3,h4⟩
theorem JC(a b c d:Int)(VZ:UInt8)(l dd r:Int)(w:Lo):Calls prog 193 #[LV a b c d,mq 1 VZ l dd r] w (kF dd a b c w):=by
 go_enter func193,ntmps193;go_wp2_with fail;generalize hW:(((w.alloc _).alloc _).alloc _).alloc _=W;obtain⟨hB,h0,h2,h3⟩:=yH hW;obtain⟨W0,zy⟩: ∃g,w.heap.size=g:=⟨_,rfl⟩
 have⟨g,hg⟩:=ex (W0+1+1+1);obtain⟨g2,gB⟩: ∃g,W0+1+1=g:=⟨_,rfl⟩
 rw[zy]at hB h0 h2 h3 ⊢;rw[hg]at h3 ⊢;rw[gB]at h2 ⊢;have Cb:g2<g/\W0<=g/\W0<=g2:=aa;have Ap:Hid (g2<g/\W0<=g/\W0<=g2):=ae Cb;have HB:=ae hB;have H2:=ae h2;have EB:=ae zy;clear hg gB hW Cb h2 hB zy;have q1: ∀w,(Instr.sliceAt 152 (.pointer (some ⟨g,0,none⟩)) (some (.int .i64 1)) (some (.int .i64 4)) none).run prog w= .ok (.slice (some ⟨g,1,none⟩) 3 3) w:=λw=>Bc g 3 ar w;have q2: ∀w,(Instr.sliceAt 152 (.pointer (some ⟨W0,0,none⟩)) none (some (.int .i64 3)) none).run prog w= .ok (.slice (some ⟨W0,0,none⟩) 3 4) w:=λw=>Ip W0 3 ar w;have yu:W.drew.heap[g]? =some (.cells ([Value.int .i64 a,Value.int .i64 b,Value.int .i64 c,Value.int .i64 d]).toArray 152 (0,0)):=h3;have iO:=ob (cs:=[Value.int .i64 a,Value.int .i64 b,Value.int .i64 c]) h0 (by intro j hj;match j,hj with|0,_|1,_|2,_=>rfl);have ub:IntKind.i64.wrap 4=4:=ar;clear h3 h0;go_region_law (refine step_copy_splice rfl (.tmp 26) (.tmp 28) 172 172 rfl 3 underlying172 ak _ _ _ _ _ _ rfl rfl g 1 _ _ yu ([Value.int .i64 a,Value.int .i64 b,Value.int .i64 c]) rfl (λ_=>⟨rfl,_,rfl,iO⟩) ah Ly g W.drew (aP _ _) (aF _) ?_;intro w4 dq bc);have aY:w4.heap[g]? =some (.cells ([Value.int .i64 a,Value.int .i64 a,Value.int .i64 b,Value.int .i64 c]).toArray 152 (0,0)):=dq.out;have hz:w4.heap[g2]? =some (.cells ([Value.int .i64 0,Value.int .i64 0,Value.int .i64 0,Value.int .i64 0]).toArray 152 (0,0)):=(bc.block g2 Ap.1).trans H2.out;have ja:Below W0 w w4:=(show Below W0 w W.drew from⟨HB.os,HB.tape,HB.output,HB.size,HB.block⟩).trans (bc.mono Ap.2.1);have cW:=ae ja;have qi:=ae aY;have HZ:=ae hz;have k0:w4.cell? ⟨g,0,none⟩=some (.int .i64 a):=AX;have fz0:w4.frozen? ⟨g,0,none⟩=false:=aS _ _ _ _ _ aY;clear q1 q2 yu iO ub bc dq ja hz aY;have G_:g≠g2/\g2≠g:=av Ap.out;obtain⟨n1,n2⟩:=G_;have k1:w4.cell? ⟨g,1,none⟩=some (.int .i64 a):=jt;have k2:w4.cell? ⟨g,2,none⟩=some (.int .i64 b):=jt;have k3:w4.cell? ⟨g,3,none⟩=some (.int .i64 c):=jt;have z0:w4.cell? ⟨g2,0,none⟩=some (.int .i64 0):=fQ;have f0:w4.frozen? ⟨g2,0,none⟩=false:=aS _ _ _ _ _ HZ.out;have z1:w4.cell? ⟨g2,1,none⟩=some (.int .i64 0):=fQ;have f1:w4.frozen? ⟨g2,1,none⟩=false:=aS _ _ _ _ _ HZ.out;have z2:w4.cell? ⟨g2,2,none⟩=some (.int .i64 0):=fQ;have f2:w4.frozen? ⟨g2,2,none⟩=false:=aS _ _ _ _ _ HZ.out;have z3:w4.cell? ⟨g2,3,none⟩=some (.int .i64 0):=fQ;have f3:w4.frozen? ⟨g2,3,none⟩=false:=aS _ _ _ _ _ HZ.out;go_wp2_with fail;refine bA (v:=LV dd a b c) AY rfl ⟨rfl,?_⟩;have hg:=Ap.out;rw[EB.out];refine cN ?_ hg.2.2 _;refine cN ?_ hg.2.2 _;refine cN ?_ hg.2.2 _;refine cN ?_ hg.2.2 _;exact cN cW.out hg.2.1 _
theorem MQ(a b c d:Int)(VZ:UInt8)(l dd:Int)(w:Lo):Calls prog 193 #[LV a b c d,mq 2 VZ l dd 0] w (kF a b c d w):=by
 go_enter func193,ntmps193;go_wp2;go_quiet (fail);go_wp2_with fail;generalize hW:((((w.alloc _).alloc _).alloc _).drewN _).alloc _=W;obtain⟨hB,h0,h2,h3⟩:=lZ hW;obtain⟨W0,zy⟩: ∃g,w.heap.size=g:=⟨_,rfl⟩
 have⟨g,hg⟩:=ex (W0+1+1+1);obtain⟨g2,gB⟩: ∃g,W0+1+1=g:=⟨_,rfl⟩
 rw[zy]at hB h0 h2 h3 ⊢;rw[hg]at h3 ⊢;rw[gB]at h2 ⊢;have Cb:g2<g/\W0<=g/\W0<=g2:=aa;have Ap:Hid (g2<g/\W0<=g/\W0<=g2):=ae Cb;have HB:=ae hB;have H2:=ae h2;have EB:=ae zy;clear hg gB hW Cb h2 hB zy;have q1: ∀w,(Instr.sliceAt 152 (.pointer (some ⟨g,0,none⟩)) (some (.int .i64 1)) (some (.int .i64 1)) none).run prog w= .ok (.slice (some ⟨g,1,none⟩) 0 3) w:=λw=>Bc g 0 ar w;have q2: ∀w,(Instr.sliceAt 152 (.pointer (some ⟨W0,0,none⟩)) none (some (.int .i64 0)) none).run prog w= .ok (.slice (some ⟨W0,0,none⟩) 0 4) w:=λw=>Ip W0 0 ar w;have yu:W.drew.heap[g]? =some (.cells ([Value.int .i64 a,Value.int .i64 b,Value.int .i64 c,Value.int .i64 d]).toArray 152 (0,0)):=h3;have iO:=ob (cs:=[]) h0 ah;have ub:IntKind.i64.wrap 1=1:=ar;clear h3 h0;go_region_law (refine step_copy_splice rfl (.tmp 26) (.tmp 28) 172 172 rfl 3 underlying172 ak _ _ _ _ _ _ rfl rfl g 1 _ _ yu ([]) rfl (λ_=>⟨rfl,_,rfl,iO⟩) ah ah g W.drew (aP _ _) (aF _) ?_;intro w4 dq bc);have aY:w4.heap[g]? =some (.cells ([Value.int .i64 a,Value.int .i64 b,Value.int .i64 c,Value.int .i64 d]).toArray 152 (0,0)):=dq.out;have hz:w4.heap[g2]? =some (.cells ([Value.int .i64 0,Value.int .i64 0,Value.int .i64 0,Value.int .i64 0]).toArray 152 (0,0)):=(bc.block g2 Ap.1).trans H2.out;have ja:Below W0 w w4:=(show Below W0 w W.drew from⟨HB.os,HB.tape,HB.output,HB.size,HB.block⟩).trans (bc.mono Ap.2.1);have cW:=ae ja;have qi:=ae aY;have HZ:=ae hz;have k0:w4.cell? ⟨g,0,none⟩=some (.int .i64 a):=AX;have fz0:w4.frozen? ⟨g,0,none⟩=false:=aS _ _ _ _ _ aY;clear q1 q2 yu iO ub bc dq ja hz aY;have G_:g≠g2/\g2≠g:=av Ap.out;obtain⟨n1,n2⟩:=G_;have k1:w4.cell? ⟨g,1,none⟩=some (.int .i64 b):=jt;have k2:w4.cell? ⟨g,2,none⟩=some (.int .i64 c):=jt;have k3:w4.cell? ⟨g,3,none⟩=some (.int .i64 d):=jt;have z0:w4.cell? ⟨g2,0,none⟩=some (.int .i64 0):=fQ;have f0:w4.frozen? ⟨g2,0,none⟩=false:=aS _ _ _ _ _ HZ.out;have z1:w4.cell? ⟨g2,1,none⟩=some (.int .i64 0):=fQ;have f1:w4.frozen? ⟨g2,1,none⟩=false:=aS _ _ _ _ _ HZ.out;have z2:w4.cell? ⟨g2,2,none⟩=some (.int .i64 0):=fQ;have f2:w4.frozen? ⟨g2,2,none⟩=false:=aS _ _ _ _ _ HZ.out;have z3:w4.cell? ⟨g2,3,none⟩=some (.int .i64 0):=fQ;have f3:w4.frozen? ⟨g2,3,none⟩=false:=aS _ _ _ _ _ HZ.out;go_wp2_with fail;refine bA (v:=LV a b c d) AY rfl ⟨rfl,?_⟩;have hg:=Ap.out;rw[EB.out];refine cN ?_ hg.2.2 _;refine cN ?_ hg.2.2 _;refine cN ?_ hg.2.2 _;refine cN ?_ hg.2.2 _;exact cN cW.out hg.2.1 _
theorem MR(a b c d:Int)(VZ:UInt8)(l dd:Int)(w:Lo):Calls prog 193 #[LV a b c d,mq 2 VZ l dd 1] w (kF b a c d w):=by
 go_enter func193,ntmps193;go_wp2;go_quiet (fail);go_wp2_with fail;generalize hW:((((w.alloc _).alloc _).alloc _).drewN _).alloc _=W;obtain⟨hB,h0,h2,h3⟩:=lZ hW;obtain⟨W0,zy⟩: ∃g,w.heap.size=g:=⟨_,rfl⟩
 have⟨g,hg⟩:=ex (W0+1+1+1);obtain⟨g2,gB⟩: ∃g,W0+1+1=g:=⟨_,rfl⟩
 rw[zy]at hB h0 h2 h3 ⊢;rw[hg]at h3 ⊢;rw[gB]at h2 ⊢;have Cb:g2<g/\W0<=g/\W0<=g2:=aa;have Ap:Hid (g2<g/\W0<=g/\W0<=g2):=ae Cb;have HB:=ae hB;have H2:=ae h2;have EB:=ae zy;clear hg gB hW Cb h2 hB zy;have q1: ∀w,(Instr.sliceAt 152 (.pointer (some ⟨g,0,none⟩)) (some (.int .i64 1)) (some (.int .i64 2)) none).run prog w= .ok (.slice (some ⟨g,1,none⟩) 1 3) w:=λw=>Bc g 1 ar w;have q2: ∀w,(Instr.sliceAt 152 (.pointer (some ⟨W0,0,none⟩)) none (some (.int .i64 1)) none).run prog w= .ok (.slice (some ⟨W0,0,none⟩) 1 4) w:=λw=>Ip W0 1 ar w;have yu:W.drew.heap[g]? =some (.cells ([Value.int .i64 a,Value.int .i64 b,Value.int .i64 c,Value.int .i64 d]).toArray 152 (0,0)):=h3;have iO:=ob (cs:=[Value.int .i64 a]) h0 (by intro j hj;match j,hj with|0,_=>rfl);have ub:IntKind.i64.wrap 2=2:=ar;clear h3 h0;go_region_law (refine step_copy_splice rfl (.tmp 26) (.tmp 28) 172 172 rfl 3 underlying172 ak _ _ _ _ _ _ rfl rfl g 1 _ _ yu ([Value.int .i64 a]) rfl (λ_=>⟨rfl,_,rfl,iO⟩) ah (by intro v hv;simp at hv;subst hv;rfl) g W.drew (aP _ _) (aF _) ?_;intro w4 dq bc);have aY:w4.heap[g]? =some (.cells ([Value.int .i64 a,Value.int .i64 a,Value.int .i64 c,Value.int .i64 d]).toArray 152 (0,0)):=dq.out;have hz:w4.heap[g2]? =some (.cells ([Value.int .i64 0,Value.int .i64 0,Value.int .i64 0,Value.int .i64 0]).toArray 152 (0,0)):=(bc.block g2 Ap.1).trans H2.out;have ja:Below W0 w w4:=(show Below W0 w W.drew from⟨HB.os,HB.tape,HB.output,HB.size,HB.block⟩).trans (bc.mono Ap.2.1);have cW:=ae ja;have qi:=ae aY;have HZ:=ae hz;have k0:w4.cell? ⟨g,0,none⟩=some (.int .i64 a):=AX;have fz0:w4.frozen? ⟨g,0,none⟩=false:=aS _ _ _ _ _ aY;clear q1 q2 yu iO ub bc dq ja hz aY;have G_:g≠g2/\g2≠g:=av Ap.out;obtain⟨n1,n2⟩:=G_;have k1:w4.cell? ⟨g,1,none⟩=some (.int .i64 a):=jt;have k2:w4.cell? ⟨g,2,none⟩=some (.int .i64 c):=jt;have k3:w4.cell? ⟨g,3,none⟩=some (.int .i64 d):=jt;have z0:w4.cell? ⟨g2,0,none⟩=some (.int .i64 0):=fQ;have f0:w4.frozen? ⟨g2,0,none⟩=false:=aS _ _ _ _ _ HZ.out;have z1:w4.cell? ⟨g2,1,none⟩=some (.int .i64 0):=fQ;have f1:w4.frozen? ⟨g2,1,none⟩=false:=aS _ _ _ _ _ HZ.out;have z2:w4.cell? ⟨g2,2,none⟩=some (.int .i64 0):=fQ;have f2:w4.frozen? ⟨g2,2,none⟩=false:=aS _ _ _ _ _ HZ.out;have z3:w4.cell? ⟨g2,3,none⟩=some (.int .i64 0):=fQ;have f3:w4.frozen? ⟨g2,3,none⟩=false:=aS _ _ _ _ _ HZ.out;go_wp2_with fail;refine bA (v:=LV b a c d) AY rfl ⟨rfl,?_⟩;have hg:=Ap.out;rw[EB.out];refine cN ?_ hg.2.2 _;refine cN ?_ hg.2.2 _;refine cN ?_ hg.2.2 _;refine cN ?_ hg.2.2 _;exact cN cW.out hg.2.1 _
theorem MT(a b c d:Int)(VZ:UInt8)(l dd:Int)(w:Lo):Calls prog 193 #[LV a b c d,mq 2 VZ l dd 2] w (kF c a b d w):=by
 go_enter func193,ntmps193;go_wp2;go_quiet (fail);go_wp2_with fail;generalize hW:((((w.alloc _).alloc _).alloc _).drewN _).alloc _=W;obtain⟨hB,h0,h2,h3⟩:=lZ hW;obtain⟨W0,zy⟩: ∃g,w.heap.size=g:=⟨_,rfl⟩
 have⟨g,hg⟩:=ex (W0+1+1+1);obtain⟨g2,gB⟩: ∃g,W0+1+1=g:=⟨_,rfl⟩
 rw[zy]at hB h0 h2 h3 ⊢;rw[hg]at h3 ⊢;rw[gB]at h2 ⊢;have Cb:g2<g/\W0<=g/\W0<=g2:=aa;have Ap:Hid (g2<g/\W0<=g/\W0<=g2):=ae Cb;have HB:=ae hB;have H2:=ae h2;have EB:=ae zy;clear hg gB hW Cb h2 hB zy;have q1: ∀w,(Instr.sliceAt 152 (.pointer (some ⟨g,0,none⟩)) (some (.int .i64 1)) (some (.int .i64 3)) none).run prog w= .ok (.slice (some ⟨g,1,none⟩) 2 3) w:=λw=>Bc g 2 ar w;have q2: ∀w,(Instr.sliceAt 152 (.pointer (some ⟨W0,0,none⟩)) none (some (.int .i64 2)) none).run prog w= .ok (.slice (some ⟨W0,0,none⟩) 2 4) w:=λw=>Ip W0 2 ar w;have yu:W.drew.heap[g]? =some (.cells ([Value.int .i64 a,Value.int .i64 b,Value.int .i64 c,Value.int .i64 d]).toArray 152 (0,0)):=h3;have iO:=ob (cs:=[Value.int .i64 a,Value.int .i64 b]) h0 (by intro j hj;match j,hj with|0,_|1,_=>rfl);have ub:IntKind.i64.wrap 3=3:=ar;clear h3 h0;go_region_law (refine step_copy_splice rfl (.tmp 26) (.tmp 28) 172 172 rfl 3 underlying172 ak _ _ _ _ _ _ rfl rfl g 1 _ _ yu ([Value.int .i64 a,Value.int .i64 b]) rfl (λ_=>⟨rfl,_,rfl,iO⟩) ah (by intro v hv;simp at hv;rcases hv with rfl|rfl<;>rfl) g W.drew (aP _ _) (aF _) ?_;intro w4 dq bc);have aY:w4.heap[g]? =some (.cells ([Value.int .i64 a,Value.int .i64 a,Value.int .i64 b,Value.int .i64 d]).toArray 152 (0,0)):=dq.out;have hz:w4.heap[g2]? =some (.cells ([Value.int .i64 0,Value.int .i64 0,Value.int .i64 0,Value.int .i64 0]).toArray 152 (0,0)):=(bc.block g2 Ap.1).trans H2.out;have ja:Below W0 w w4:=(show Below W0 w W.drew from⟨HB.os,HB.tape,HB.output,HB.size,HB.block⟩).trans (bc.mono Ap.2.1);have cW:=ae ja;have qi:=ae aY;have HZ:=ae hz;have k0:w4.cell? ⟨g,0,none⟩=some (.int .i64 a):=AX;have fz0:w4.frozen? ⟨g,0,none⟩=false:=aS _ _ _ _ _ aY;clear q1 q2 yu iO ub bc dq ja hz aY;have G_:g≠g2/\g2≠g:=av Ap.out;obtain⟨n1,n2⟩:=G_;have k1:w4.cell? ⟨g,1,none⟩=some (.int .i64 a):=jt;have k2:w4.cell? ⟨g,2,none⟩=some (.int .i64 b):=jt;have k3:w4.cell? ⟨g,3,none⟩=some (.int .i64 d):=jt;have z0:w4.cell? ⟨g2,0,none⟩=some (.int .i64 0):=fQ;have f0:w4.frozen? ⟨g2,0,none⟩=false:=aS _ _ _ _ _ HZ.out;have z1:w4.cell? ⟨g2,1,none⟩=some (.int .i64 0):=fQ;have f1:w4.frozen? ⟨g2,1,none⟩=false:=aS _ _ _ _ _ HZ.out;have z2:w4.cell? ⟨g2,2,none⟩=some (.int .i64 0):=fQ;have f2:w4.frozen? ⟨g2,2,none⟩=false:=aS _ _ _ _ _ HZ.out;have z3:w4.cell? ⟨g2,3,none⟩=some (.int .i64 0):=fQ;have f3:w4.frozen? ⟨g2,3,none⟩=false:=aS _ _ _ _ _ HZ.out;go_wp2_with fail;refine bA (v:=LV c a b d) AY rfl ⟨rfl,?_⟩;have hg:=Ap.out;rw[EB.out];refine cN ?_ hg.2.2 _;refine cN ?_ hg.2.2 _;refine cN ?_ hg.2.2 _;refine cN ?_ hg.2.2 _;exact cN cW.out hg.2.1 _
theorem MU(a b c d:Int)(VZ:UInt8)(l dd:Int)(w:Lo):Calls prog 193 #[LV a b c d,mq 2 VZ l dd 3] w (kF d a b c w):=by
 go_enter func193,ntmps193;go_wp2;go_quiet (fail);go_wp2_with fail;generalize hW:((((w.alloc _).alloc _).alloc _).drewN _).alloc _=W;obtain⟨hB,h0,h2,h3⟩:=lZ hW;obtain⟨W0,zy⟩: ∃g,w.heap.size=g:=⟨_,rfl⟩
 have⟨g,hg⟩:=ex (W0+1+1+1);obtain⟨g2,gB⟩: ∃g,W0+1+1=g:=⟨_,rfl⟩
 rw[zy]at hB h0 h2 h3 ⊢;rw[hg]at h3 ⊢;rw[gB]at h2 ⊢;have Cb:g2<g/\W0<=g/\W0<=g2:=aa;have Ap:Hid (g2<g/\W0<=g/\W0<=g2):=ae Cb;have HB:=ae hB;have H2:=ae h2;have EB:=ae zy;clear hg gB hW Cb h2 hB zy;have q1: ∀w,(Instr.sliceAt 152 (.pointer (some ⟨g,0,none⟩)) (some (.int .i64 1)) (some (.int .i64 4)) none).run prog w= .ok (.slice (some ⟨g,1,none⟩) 3 3) w:=λw=>Bc g 3 ar w;have q2: ∀w,(Instr.sliceAt 152 (.pointer (some ⟨W0,0,none⟩)) none (some (.int .i64 3)) none).run prog w= .ok (.slice (some ⟨W0,0,none⟩) 3 4) w:=λw=>Ip W0 3 ar w;have yu:W.drew.heap[g]? =some (.cells ([Value.int .i64 a,Value.int .i64 b,Value.int .i64 c,Value.int .i64 d]).toArray 152 (0,0)):=h3;have iO:=ob (cs:=[Value.int .i64 a,Value.int .i64 b,Value.int .i64 c]) h0 (by intro j hj;match j,hj with|0,_|1,_|2,_=>rfl);have ub:IntKind.i64.wrap 4=4:=ar;clear h3 h0;go_region_law (refine step_copy_splice rfl (.tmp 26) (.tmp 28) 172 172 rfl 3 underlying172 ak _ _ _ _ _ _ rfl rfl g 1 _ _ yu ([Value.int .i64 a,Value.int .i64 b,Value.int .i64 c]) rfl (λ_=>⟨rfl,_,rfl,iO⟩) ah Ly g W.drew (aP _ _) (aF _) ?_;intro w4 dq bc);have aY:w4.heap[g]? =some (.cells ([Value.int .i64 a,Value.int .i64 a,Value.int .i64 b,Value.int .i64 c]).toArray 152 (0,0)):=dq.out;have hz:w4.heap[g2]? =some (.cells ([Value.int .i64 0,Value.int .i64 0,Value.int .i64 0,Value.int .i64 0]).toArray 152 (0,0)):=(bc.block g2 Ap.1).trans H2.out;have ja:Below W0 w w4:=(show Below W0 w W.drew from⟨HB.os,HB.tape,HB.output,HB.size,HB.block⟩).trans (bc.mono Ap.2.1);have cW:=ae ja;have qi:=ae aY;have HZ:=ae hz;have k0:w4.cell? ⟨g,0,none⟩=some (.int .i64 a):=AX;have fz0:w4.frozen? ⟨g,0,none⟩=false:=aS _ _ _ _ _ aY;clear q1 q2 yu iO ub bc dq ja hz aY;have G_:g≠g2/\g2≠g:=av Ap.out;obtain⟨n1,n2⟩:=G_;have k1:w4.cell? ⟨g,1,none⟩=some (.int .i64 a):=jt;have k2:w4.cell? ⟨g,2,none⟩=some (.int .i64 b):=jt;have k3:w4.cell? ⟨g,3,none⟩=some (.int .i64 c):=jt;have z0:w4.cell? ⟨g2,0,none⟩=some (.int .i64 0):=fQ;have f0:w4.frozen? ⟨g2,0,none⟩=false:=aS _ _ _ _ _ HZ.out;have z1:w4.cell? ⟨g2,1,none⟩=some (.int .i64 0):=fQ;have f1:w4.frozen? ⟨g2,1,none⟩=false:=aS _ _ _ _ _ HZ.out;have z2:w4.cell? ⟨g2,2,none⟩=some (.int .i64 0):=fQ;have f2:w4.frozen? ⟨g2,2,none⟩=false:=aS _ _ _ _ _ HZ.out;have z3:w4.cell? ⟨g2,3,none⟩=some (.int .i64 0):=fQ;have f3:w4.frozen? ⟨g2,3,none⟩=false:=aS _ _ _ _ _ HZ.out;go_wp2_with fail;refine bA (v:=LV d a b c) AY rfl ⟨rfl,?_⟩;have hg:=Ap.out;rw[EB.out];refine cN ?_ hg.2.2 _;refine cN ?_ hg.2.2 _;refine cN ?_ hg.2.2 _;refine cN ?_ hg.2.2 _;exact cN cW.out hg.2.1 _
def aW(g:Nat->Nat):Nat->Nat×Nat
 | 0=>(0,0)
 | n+1=>if(aW g n).1<g n then(g n,n)else aW g n
def fh(D:An)(dict place left a b c d:Int):Nat×Nat:=aW (λi=>d7 D dict place (r4 a b c d i) left) 4
def H_(r:Nat×Nat)(w:Lo)(e:Ending)(w':Lo):Prop:=e= .returned (.tuple #[.int .i64 r.1,.int .i64 r.2])/\Below w.heap.size w w'
theorem Cc(F:Nat)(A:As)(cp:Nat)(D:An)(dict nice:Int)(mp:Nat)(v4:Value)(place left a b c d:Int)(w:Lo)(hF:dV w F A cp D dict nice mp v4):
  Calls prog 190 #[PF F,.int .i64 place,.int .i64 left,LV a b c d] w (H_ (fh D dict place left a b c d) w):=by
 have HL:=ae (fun(m:Nat) (W:Lo) (hb:aq w W) (x:Int)=>BP F A cp D dict nice mp v4 place x left (W.drewN m) ((hF.below hb).drewN m));unfold fh;obtain⟨g,hg⟩: ∃g:Nat->Nat,(λi=>d7 D dict place (r4 a b c d i) left)=g:=⟨_,rfl⟩
 rw[hg];have HG:=ae (λi=>congrFun hg i);clear hg hF;go_enter func190,ntmps190;go_wp2_with fail;have⟨W,hW⟩:=ex (w.alloc (.cells #[.int .i64 a,.int .i64 b,.int .i64 c,.int .i64 d] 152));rw[hW];have HB:Hid (aq w W):=ae (by rw[<-hW];exact az);clear hW;go_loopw [10,11,16] (λx y i wr=> ∃(n m:Nat),n<=4/\i= .int .i64 n/\x= .int .i64 ((aW g n).1:Nat)/\y= .int .i64 ((aW g n).2:Nat)/\wr=W.drewN m) (λx y i _=>4-(intOf i).toNat);·exact⟨0,0,aa,rfl,rfl,rfl,rfl⟩
 ·
  obtain⟨n,m,hn,rfl,rfl,rfl,rfl⟩:=hrel;rcases(by omega:n=0\/n=1\/n=2\/n=3\/n=4)with rfl|rfl|rfl|rfl|rfl
  ·have Al:=ahF a b c d;have hE:d7 D dict place a left=g 0:=HG.out 0;obtain⟨gn,Jv⟩: ∃x,g 0=x:=⟨_,rfl⟩
   rw[Jv]at hE;have HE:=ae hE;have HS:Hid (aW g 1=if(aW g 0).1<gn then(gn,0)else aW g 0):=ae (by rw[<-Jv];rfl);have⟨u,hu⟩:=ex ((aW g 0).1);have⟨v,hv⟩:=ex ((aW g 0).2);have HU:Hid (aW g 0=(u,v)):=ae (by rw[<-hu,<-hv]);rw[hu,hv];clear hE Jv hu hv;by_cases aV:u<gn;·have iy:Hid (aW g 1=(gn,0)):=ae FH;have mr:(u:Int)<gn:=aa;clear aV;go_wp2_with fail;refine(HL m W HB.out a).mono ?_;rintro e w2 ⟨rfl,m2,rfl⟩;rw[HE.out];go_wp2_with fail;exact⟨⟨1,_,aa,rfl,lh,by rw[iy.out];rfl,rfl⟩,nJ⟩
   ·have iy:Hid (aW g 1=(u,v)):=ae FI;have mr: ¬(u:Int)<gn:=aa;clear aV;go_wp2_with fail;refine(HL m W HB.out a).mono ?_;rintro e w2 ⟨rfl,m2,rfl⟩;rw[HE.out];go_wp2_with fail;exact⟨⟨1,_,aa,rfl,lh,lh,rfl⟩,nJ⟩
  ·have Al:=ahG a b c d;have hE:d7 D dict place b left=g 1:=HG.out 1;obtain⟨gn,Jv⟩: ∃x,g 1=x:=⟨_,rfl⟩
   rw[Jv]at hE;have HE:=ae hE;have HS:Hid (aW g 2=if(aW g 1).1<gn then(gn,1)else aW g 1):=ae (by rw[<-Jv];rfl);have⟨u,hu⟩:=ex ((aW g 1).1);have⟨v,hv⟩:=ex ((aW g 1).2);have HU:Hid (aW g 1=(u,v)):=ae (by rw[<-hu,<-hv]);rw[hu,hv];clear hE Jv hu hv;by_cases aV:u<gn;·have iy:Hid (aW g 2=(gn,1)):=ae FH;have mr:(u:Int)<gn:=aa;clear aV;go_wp2_with fail;refine(HL m W HB.out b).mono ?_;rintro e w2 ⟨rfl,m2,rfl⟩;rw[HE.out];go_wp2_with fail;exact⟨⟨2,_,aa,rfl,lh,by rw[iy.out];rfl,rfl⟩,nJ⟩
   ·have iy:Hid (aW g 2=(u,v)):=ae FI;have mr: ¬(u:Int)<gn:=aa;clear aV;go_wp2_with fail;refine(HL m W HB.out b).mono ?_;rintro e w2 ⟨rfl,m2,rfl⟩;rw[HE.out];go_wp2_with fail;exact⟨⟨2,_,aa,rfl,lh,lh,rfl⟩,nJ⟩
  ·have Al:=ahH a b c d;have hE:d7 D dict place c left=g 2:=HG.out 2;obtain⟨gn,Jv⟩: ∃x,g 2=x:=⟨_,rfl⟩
   rw[Jv]at hE;have HE:=ae hE;have HS:Hid (aW g 3=if(aW g 2).1<gn then(gn,2)else aW g 2):=ae (by rw[<-Jv];rfl);have⟨u,hu⟩:=ex ((aW g 2).1);have⟨v,hv⟩:=ex ((aW g 2).2);have HU:Hid (aW g 2=(u,v)):=ae (by rw[<-hu,<-hv]);rw[hu,hv];clear hE Jv hu hv;by_cases aV:u<gn;·have iy:Hid (aW g 3=(gn,2)):=ae FH;have mr:(u:Int)<gn:=aa;clear aV;go_wp2_with fail;refine(HL m W HB.out c).mono ?_;rintro e w2 ⟨rfl,m2,rfl⟩;rw[HE.out];go_wp2_with fail;exact⟨⟨3,_,aa,rfl,lh,by rw[iy.out];rfl,rfl⟩,nJ⟩
   ·have iy:Hid (aW g 3=(u,v)):=ae FI;have mr: ¬(u:Int)<gn:=aa;clear aV;go_wp2_with fail;refine(HL m W HB.out c).mono ?_;rintro e w2 ⟨rfl,m2,rfl⟩;rw[HE.out];go_wp2_with fail;exact⟨⟨3,_,aa,rfl,lh,lh,rfl⟩,nJ⟩
  ·have Al:=ahI a b c d;have hE:d7 D dict place d left=g 3:=HG.out 3;obtain⟨gn,Jv⟩: ∃x,g 3=x:=⟨_,rfl⟩
   rw[Jv]at hE;have HE:=ae hE;have HS:Hid (aW g 4=if(aW g 3).1<gn then(gn,3)else aW g 3):=ae (by rw[<-Jv];rfl);have⟨u,hu⟩:=ex ((aW g 3).1);have⟨v,hv⟩:=ex ((aW g 3).2);have HU:Hid (aW g 3=(u,v)):=ae (by rw[<-hu,<-hv]);rw[hu,hv];clear hE Jv hu hv;by_cases aV:u<gn;·have iy:Hid (aW g 4=(gn,3)):=ae FH;have mr:(u:Int)<gn:=aa;clear aV;go_wp2_with fail;refine(HL m W HB.out d).mono ?_;rintro e w2 ⟨rfl,m2,rfl⟩;rw[HE.out];go_wp2_with fail;exact⟨⟨4,_,aa,rfl,lh,by rw[iy.out];rfl,rfl⟩,nJ⟩
   ·have iy:Hid (aW g 4=(u,v)):=ae FI;have mr: ¬(u:Int)<gn:=aa;clear aV;go_wp2_with fail;refine(HL m W HB.out d).mono ?_;rintro e w2 ⟨rfl,m2,rfl⟩;rw[HE.out];go_wp2_with fail;exact⟨⟨4,_,aa,rfl,lh,lh,rfl⟩,nJ⟩
  ·go_wp2;go_ret2;exact⟨rfl,below_drewN HB.out _⟩
def jp(D:An)(dict nice:Int)(p:Nat)(left a b c d:Int):Sy:=
 let rep:=fh D dict (p:Int) left a b c d
 let m:=nx D dict nice (p:Int) left
 if 2<=rep.1/\m.1<=rep.1+1 then⟨2,0,rep.1,0,rep.2⟩
 else if 3<=m.1\/(0<m.1/\m.2<=128)then⟨1,0,m.1,m.2,0⟩
 else if 1<=d7 D dict (p:Int) a left then⟨2,0,1,0,0⟩
 else⟨0,D.getD p 0,0,0,0⟩
def un(s:Sy)(w:Lo)(e:Ending)(w':Lo):Prop:=e= .returned s.val/\Below w.heap.size w w'
theorem EC(D:An)(dict place d6 most:Int):d7 D dict place d6 most<=273:=by
 unfold d7;split
 ·have:=jZ D place.toNat (place.toNat-d6.toNat) (tj D place.toNat (min 273 most));have h:tj D place.toNat (min 273 most)<=273:=by unfold tj;omega
  omega
 ·omega
theorem Cd{M:Nat}(h: ∀i,g i<=M): ∀n,(aW g n).1<=M/\(aW g n).2<=n
 | 0=>⟨cI _,cI _⟩
 | n+1=>by
  unfold aW;have ih:=Cd h n;split;·exact⟨h n,Nat.le_succ _⟩
  ·exact⟨ih.1,aa⟩
theorem Ce(D:An)(dict place left a b c d:Int):(fh D dict place left a b c d).1<=273/\(fh D dict place left a b c d).2<=4:=Cd (λ_=>EC _ _ _ _ _) 4
theorem JD{g:Nat}{v0 v1 v2 v3 v4:Value}(h:Below B w W)(hg:B<=g):Below B w (((((W.setCell ⟨g,0,none⟩ v0).setCell ⟨g,1,none⟩ v1).setCell ⟨g,2,none⟩ v2).setCell ⟨g,3,none⟩ v3).setCell ⟨g,4,none⟩ v4):=
 ((((h.setCell (p:=⟨g,0,none⟩) hg _).setCell (p:=⟨g,1,none⟩) hg _).setCell (p:=⟨g,2,none⟩) hg _).setCell (p:=⟨g,3,none⟩) hg _).setCell (p:=⟨g,4,none⟩) hg _
theorem Gt(b1 b2 b3 b4:Nat)(F:Nat)(A DA:As)(cF cd:Nat)(D:An)(dict nice:Int)(mp B:Nat)(p tt:Nat)(a b c d:Int)(w:Lo)
  (hR:ry w F A cF D dict nice mp B) (hD:Bytes w DA D) (DX:D.length<=cd) (h1:br b1 w (.int .i64 tt)) (h2:br b2 w (PF F)) (h3:w.heap[b3]? =some (.cells [.int .i64 a,.int .i64 b,.int .i64 c,.int .i64 d].toArray 152 (0,0))) (h4:br b4 w (.slice DA D.length cd))
  (hp:p<tt) (MV:tt<=D.length):
  Calls prog 189 #[.int .i64 p,PF b1,PF b2,PF b3,PF b4] w (un (jp D dict nice p ((tt:Int)-(p:Int)) a b c d) w):=by
 have VW:=hR.at_.small;have⟨X,hX⟩:=ex ((tt:Int)-(p:Int):Int);rw[hX];have HC:=ae (fun(W:Lo) (hb:aq w W)=>(show W.cell? ⟨b1,0,none⟩=some (.int .i64 tt)/\W.cell? ⟨b2,0,none⟩=some (PF F)/\(W.cell? ⟨b3,0,none⟩=some (.int .i64 a)/\W.cell? ⟨b3,1,none⟩=some (.int .i64 b)/\W.cell? ⟨b3,2,none⟩=some (.int .i64 c)/\W.cell? ⟨b3,3,none⟩=some (.int .i64 d))/\W.cell? ⟨b4,0,none⟩=some (.slice DA D.length cd)from by
  have l3:b3<w.heap.size:=(bU h3)
  have e3:=(hb.block _ l3).trans h3;refine⟨(h1.aU (hb.block _ h1.lt)).cell,(h2.aU (hb.block _ h2.lt)).cell,⟨?_,?_,?_,?_⟩,(h4.aU (hb.block _ h4.lt)).cell⟩<;>(rw[aC W _ _ _ _ _ e3];rfl)))
 have Ia:=ae (fun(W:Lo) (hb:aq w W)=>(hR.below hb));have HDB:=ae (fun(W:Lo) (hb:aq w W)=>(hD.below hb).addr aa);have xU:(D.length:Int)<=cd:=aa;have hXw:IntKind.i64.wrap X=X:=em _ aa;have ud:(p:Int)<D.length:=aa;have xe:(p:Int)<=100000:=aa
 have HS:Hid (∀s,s=jp D dict nice p X a b c d->s=let rep:=fh D dict (p:Int) X a b c d
   let m:=nx D dict nice (p:Int) X
   if 2<=rep.1/\m.1<=rep.1+1 then⟨2,0,rep.1,0,rep.2⟩
   else if 3<=m.1\/(0<m.1/\m.2<=128)then⟨1,0,m.1,m.2,0⟩
   else if 1<=d7 D dict (p:Int) a X then⟨2,0,1,0,0⟩
   else⟨0,D.getD p 0,0,0,0⟩):=ae (λs h=>h)
 have⟨S,hS⟩:=ex (jp D dict nice p X a b c d);rw[hS];have iy:=ae (HS S hS.symm);clear HS hS;have F7:=Ce D dict (p:Int) X a b c d;obtain⟨⟨rn,Zo⟩,hr⟩: ∃r,fh D dict (p:Int) X a b c d=r:=⟨_,rfl⟩
 obtain⟨⟨mn,mk⟩,hm⟩: ∃r,nx D dict nice (p:Int) X=r:=⟨_,rfl⟩
 obtain⟨bk,nk⟩: ∃r,d7 D dict (p:Int) a X=r:=⟨_,rfl⟩
 rw[hr,hm,nk]at iy;rw[hr]at F7;simp only at iy F7;have ay4:(rn:Int)<=273:=aa;have HR:=ae hr;have HM:=ae hm;have sA:=ae nk;clear hR hD DX h1 h2 h3 h4 hr hm nk VW;go_enter func189,ntmps189;go_upto_region 1 with fail;have⟨W1,ek⟩:=ex (w.alloc (.cells #[.int .i64 0,.int .u8 0,.int .i64 0,.int .i64 0,.int .i64 0] 183));rw[ek];have aI:aq w W1:=AV;have hz:W1.heap[w.heap.size]? =some (.cells [.int .i64 0,.int .u8 0,.int .i64 0,.int .i64 0,.int .i64 0].toArray 183 (0,0)):=LC;have aV:w.heap.size<W1.heap.size:=(bU hz)
 have bF:=ae aI;have zm:=ae aV
 have HZ:=ae (fun(W:Lo) (hb:aq W1 W)=>(show(W.cell? ⟨w.heap.size,0,none⟩=some (.int .i64 0)/\W.cell? ⟨w.heap.size,1,none⟩=some (.int .u8 0)/\W.cell? ⟨w.heap.size,2,none⟩=some (.int .i64 0)/\W.cell? ⟨w.heap.size,3,none⟩=some (.int .i64 0)/\W.cell? ⟨w.heap.size,4,none⟩=some (.int .i64 0))/\
   (∀i,W.frozen? ⟨w.heap.size,i,none⟩=false)from by
  have e:=(hb.block _ aV).trans hz;refine⟨⟨?_,?_,?_,?_,?_⟩,λi=>aS _ _ _ _ _ e⟩<;>(rw[aC W _ _ _ _ _ e];rfl)))
 obtain⟨cA,cB,⟨cC0,cC1,cC2,cC3⟩,cD⟩:=HC.out W1 aI;clear ek aI hz aV;go_wp2_with fail;refine(Cc F A cF D dict nice mp _ (p:Int) X a b c d W1 (Ia W1 bF.out).at_).mono ?_;rintro e w2 ⟨rfl,aK⟩;rw[HR.out];have dG:=ae (aQ bF.out aK);have ad7:=ae aK;obtain⟨cA,cB,⟨cC0,cC1,cC2,cC3⟩,cD⟩:=HC.out w2 dG.out;clear aK;go_wp2_with fail;refine(VX F A cF D dict nice mp B (p:Int) X w2 (Ia w2 dG.out)).mono ?_;rintro e w3 ⟨rfl,bm⟩;rw[HM.out];have ft:=ae (aQ dG.out bm);have aqg:=ae (aQ ad7.out bm);obtain⟨cA,cB,⟨cC0,cC1,cC2,cC3⟩,cD⟩:=HC.out w3 ft.out;clear bm;go_upto_region 5 with fail;obtain⟨⟨z0,z1,z2,z3,z4⟩,zf⟩:=HZ.out w3 aqg.out;have f0:=zf 0;have f1:=zf 1;have f2:=zf 2;have f3:=zf 3;have f4:=zf 4;clear zf;by_cases dE:2<=rn/\mn<=rn+1;·have Hm:Hid (S=⟨2,0,rn,0,Zo⟩):=ae (by rw[iy.out,ax dE]);have g1:decide (2<=(rn:Int))=true:=iz aa;have g1':2<=(rn:Int):=aa;have g2:(mn:Int)<=(rn:Int)+1:=aa;clear dE;go_wp2_with fail;refine bA (v:=S.val) qN rfl ⟨rfl,JD ft.out (aF _)⟩
 ·by_cases ei:3<=mn\/(0<mn/\mk<=128)
  ·have hs:(2<=rn/\ ¬mn<=rn+1/\3<=mn)\/(¬2<=rn/\3<=mn)\/(¬2<=rn/\ ¬3<=mn/\0<mn/\mk<=128):=(by omega);rcases hs with⟨g1,g2,g3⟩|⟨g1,g3⟩|⟨g1,g3,g4,g5⟩
   ·have i1:2<=(rn:Int):=(by omega);have i2: ¬(mn:Int)<=(rn:Int)+1:=aa;have i3:3<=(mn:Int):=aa;have Hm:Hid (S=⟨1,0,mn,mk,0⟩):=ae LF;clear dE ei;go_wp2_with fail;refine bA (v:=S.val) qN rfl ⟨rfl,JD ft.out (aF _)⟩
   ·have i1: ¬2<=(rn:Int):=(by omega);have i3:3<=(mn:Int):=aa;have Hm:Hid (S=⟨1,0,mn,mk,0⟩):=ae LF;clear dE ei;go_wp2_with fail;refine bA (v:=S.val) qN rfl ⟨rfl,JD ft.out (aF _)⟩
   ·have i1: ¬2<=(rn:Int):=(by omega);have i3: ¬3<=(mn:Int):=aa;have i4:0<(mn:Int):=aa;have i5:(mk:Int)<=128:=aa;have Hm:Hid (S=⟨1,0,mn,mk,0⟩):=ae LF;clear dE ei;go_wp2_with fail;refine bA (v:=S.val) qN rfl ⟨rfl,JD ft.out (aF _)⟩
  ·have hs:(¬2<=rn/\ ¬3<=mn/\ ¬0<mn)\/(¬2<=rn/\ ¬3<=mn/\0<mn/\ ¬mk<=128):=(by omega);rcases hs with⟨g1,g3,g4⟩|⟨g1,g3,g4,g5⟩
   ·have i1: ¬2<=(rn:Int):=(by omega);have i3: ¬3<=(mn:Int):=aa;have i4: ¬0<(mn:Int):=aa;go_wp2_with fail;refine(BP F A cF D dict nice mp _ (p:Int) a X w3 (Ia w3 ft.out).at_).mono ?_;rintro e w4 ⟨rfl,m4,rfl⟩;rw[sA.out];by_cases hk:1<=bk;·have Hm:Hid (S=⟨2,0,1,0,0⟩):=ae (by rw[iy.out,au dE,au ei,ax hk]);have g5:1<=(bk:Int):=aa;clear hk dE ei;go_wp2_with fail;refine bA (v:=S.val) qN rfl ⟨rfl,JD (below_drewN ft.out _) (aF _)⟩
    ·have Hm:Hid (S=⟨0,D.getD p 0,0,0,0⟩):=ae (by rw[iy.out,au dE,au ei,au hk]);have g5: ¬1<=(bk:Int):=aa;obtain⟨g,off,rfl,_,cZ⟩:=HDB.out w3 ft.out;have cp:=cZ p aa;have e1:=dQ (d:=D) (i:=p) aa;rw[<-e1]at cp;generalize D.getD p 0=u at*;clear hk dE ei cZ e1;go_wp2_with fail;refine bA (v:=S.val) qN rfl ⟨rfl,JD (below_drewN ft.out _) (aF _)⟩
   ·have i1: ¬2<=(rn:Int):=(by omega);have i3: ¬3<=(mn:Int):=aa;have i4:0<(mn:Int):=aa;have i5: ¬(mk:Int)<=128:=aa;go_wp2_with fail;refine(BP F A cF D dict nice mp _ (p:Int) a X w3 (Ia w3 ft.out).at_).mono ?_;rintro e w4 ⟨rfl,m4,rfl⟩;rw[sA.out];by_cases hk:1<=bk;·have Hm:Hid (S=⟨2,0,1,0,0⟩):=ae (by rw[iy.out,au dE,au ei,ax hk]);have g5:1<=(bk:Int):=aa;clear hk dE ei;go_wp2_with fail;refine bA (v:=S.val) qN rfl ⟨rfl,JD (below_drewN ft.out _) (aF _)⟩
    ·have Hm:Hid (S=⟨0,D.getD p 0,0,0,0⟩):=ae (by rw[iy.out,au dE,au ei,au hk]);have g5: ¬1<=(bk:Int):=aa;obtain⟨g,off,rfl,_,cZ⟩:=HDB.out w3 ft.out;have cp:=cZ p aa;have e1:=dQ (d:=D) (i:=p) aa;rw[<-e1]at cp;generalize D.getD p 0=u at*;clear hk dE ei cZ e1;go_wp2_with fail;refine bA (v:=S.val) qN rfl ⟨rfl,JD (below_drewN ft.out _) (aF _)⟩
theorem Re(s:Sy)(hk:s.k<=2)(hr:s.r<=3)(r:R4)(w:Lo):Calls prog 193 #[r.val,s.val] w (kF (eD s r).1 (eD s r).2.1 (eD s r).2.2.1 (eD s r).2.2.2 w):=by
 obtain⟨k,b,l,d,q⟩:=s;obtain⟨r0,r1,r2,r3⟩:=r;simp only at hk hr;rcases(by omega:k=0\/k=1\/k=2)with rfl|rfl|rfl;·exact Rb r0 r1 r2 r3 b _ _ _ w
 ·exact JC r0 r1 r2 r3 b _ _ _ w
 ·rcases(by omega:q=0\/q=1\/q=2\/q=3)with rfl|rfl|rfl|rfl;·exact MQ r0 r1 r2 r3 b _ _ w
  ·exact MR r0 r1 r2 r3 b _ _ w
  ·exact MT r0 r1 r2 r3 b _ _ w
  ·exact MU r0 r1 r2 r3 b _ _ w
theorem uo{g:Nat->Nat}: ∀n,0<n->(aW g n).2<n
 | n+1,_=>by
  unfold aW;split;·exact Nat.lt_succ_self _
  ·rcases Nat.eq_zero_or_pos n with rfl|h;·exact Nat.lt_succ_self _
   ·have:=uo (g:=g) n h;omega
theorem Rf(D:An)(dict nice:Int)(p:Nat)(left a b c d:Int):(jp D dict nice p left a b c d).k<=2/\(jp D dict nice p left a b c d).r<=3:=by
 have h:(fh D dict (p:Int) left a b c d).2<4:=uo 4 ar;unfold jp;simp only;split;·exact⟨aF 2,by show(fh D dict (p:Int) left a b c d).2<=3;omega⟩
 ·split;·exact⟨(by decide:1<=2),cI 3⟩
  ·split;·exact⟨aF 2,cI 3⟩
   ·exact⟨cI 2,cI 3⟩
theorem V0(D:An)(dict nice place most:Int):(nx D dict nice place most).1<=D.length:=by
 unfold nx;split
 ·rename_i h;unfold iQ;split;·exact cI _
  ·rcases(kD (λk=>bG D place.toNat (place.toNat-k) (tj D place.toNat (min nice most))) (min (place.toNat:Int) dict).toNat).at_ with⟨e,_⟩|⟨_,_,e,_⟩
   ·rw[e];exact cI _
   ·rw[<-e];have h1:=jZ D place.toNat (place.toNat-(dk (λk=>bG D place.toNat (place.toNat-k) (tj D place.toNat (min nice most))) (min (place.toNat:Int) dict).toNat).2) (tj D place.toNat (min nice most));have h2:tj D place.toNat (min nice most)<=D.length:=(by unfold tj;omega);exact a8 h1 h2
 ·exact cI _
theorem Rg(D:An)(dict nice:Int)(p:Nat)(left a b c d:Int):(jp D dict nice p left a b c d).l<=273+D.length:=by
 have h1:=(Ce D dict (p:Int) left a b c d).1;have h2:=V0 D dict nice (p:Int) left;unfold jp;simp only;split;·show(fh D dict (p:Int) left a b c d).1<=_;omega
 ·split;·show(nx D dict nice (p:Int) left).1<=_;omega
  ·split;·show 1<=_;omega
   ·exact cI _
def gV(D:An)(dict nice:Int)(tt p:Nat)(r:R4):Sy:=jp D dict nice p ((tt:Int)-(p:Int)) r.1 r.2.1 r.2.2.1 r.2.2.2
def bX(D:An)(dict nice:Int)(tt:Nat):Nat->Nat->R4->List Sy×R4
 | 0,_,r=>([],r)
 | f+1,p,r=>if p<tt then
   (gV D dict nice tt p r::(bX D dict nice tt f (p+max (gV D dict nice tt p r).l 1) (eD (gV D dict nice tt p r) r)).1,(bX D dict nice tt f (p+max (gV D dict nice tt p r).l 1) (eD (gV D dict nice tt p r) r)).2)
  else([],r)
theorem yI(D:An)(dict nice:Int)(tt:Nat): ∀(f g p:Nat) (r:R4),tt-p<=f->tt-p<=g->bX D dict nice tt f p r=bX D dict nice tt g p r
 | 0,0,p,r,_,_=>rfl
 | 0,g+1,p,r,h,_=>by unfold bX;rw[au aa]
 | f+1,0,p,r,_,h=>by unfold bX;rw[au aa]
 | f+1,g+1,p,r,h1,h2=>by
  unfold bX;by_cases hp:p<tt;·rw[ax hp,ax hp,yI D dict nice tt f g _ _ aa aa]
  ·rw[au hp,au hp]
theorem jG(hp:p<tt):bX D dict nice tt (tt-p) p r=
  (gV D dict nice tt p r::(bX D dict nice tt (tt-(p+max (gV D dict nice tt p r).l 1)) (p+max (gV D dict nice tt p r).l 1) (eD (gV D dict nice tt p r) r)).1,(bX D dict nice tt (tt-(p+max (gV D dict nice tt p r).l 1)) (p+max (gV D dict nice tt p r).l 1) (eD (gV D dict nice tt p r) r)).2):=by
 obtain⟨f,hf⟩: ∃f,tt-p=f+1:=⟨tt-p-1,aa⟩
 rw[hf];conv=>lhs;unfold bX
 rw[ax hp,yI D dict nice tt f (tt-(p+max (gV D dict nice tt p r).l 1)) _ _ aa aa]
theorem pw(hp: ¬p<tt):bX D dict nice tt (tt-p) p r=([],r):=by rw[show tt-p=0 by omega];rfl
structure Cut(D:An)(p l k:Nat):Prop where
 one:1<=k
 back:k<=p
 fits:p+l<=D.length
 same: ∀i,i<l->D.getD (p+i) 0=D.getD (p+i-k) 0
theorem Cf{L:Nat}(h1:1<=k)(h2:k<=p)(hL:p+L<=D.length)(h:bG D p (p-k) L=l):Cut D p l k:=by have hl:=fu D L p (p-k);rw[h]at hl;exact⟨h1,h2,av hl.le,λi hi=>by rw[hl.eq i hi];congr 1;omega⟩
theorem rz{d6:Int}(h:d7 D dict (p:Int) d6 most=l)(hl:0<l): ∃k:Nat,d6=(k:Int)/\Cut D p l k/\(k:Int)<=dict/\l<=273/\(l:Int)<=most:=by
 unfold d7 at h;split at h
 ·rename_i hc;obtain⟨k,rfl⟩: ∃k:Nat,d6=(k:Int):=⟨d6.toNat,aa⟩
  simp only[Int.toNat_natCast]at h;have aqh:tj D p (min 273 most)=(min (min 273 most) ((D.length:Int)-(p:Int))).toNat:=rfl;have hle:=jZ D p (p-k) (tj D p (min 273 most));exact⟨k,rfl,Cf aa aa aa h,hc.2.2.2.2,aa,aa⟩
 ·omega
theorem yJ{n:Nat}(h:nx D dict nice (p:Int) most=(n,k))(hn:0<n):2<=n/\(n:Int)<=nice/\Cut D p n k/\(k:Int)<=dict/\(n:Int)<=most:=by
 unfold nx at h;split at h
 ·rename_i hc;rw[Int.toNat_natCast]at h;unfold iQ at h;have hB:=kD (λk=>bG D p (p-k) (tj D p (min nice most))) (min (p:Int) dict).toNat;split at h;·injection h with h _;omega
  ·rename_i h2;rw[h]at hB h2;rcases hB.at_ with⟨e,_⟩|⟨h1,h3,h4,h5⟩
   ·simp only at e;omega
   ·simp only at h1 h3 h4 h5 h2;have aqh:tj D p (min nice most)=(min (min nice most) ((D.length:Int)-(p:Int))).toNat:=rfl;have hle:=jZ D p (p-k) (tj D p (min nice most));exact⟨aa,aa,Cf h1 aa aa h4,aa,aa⟩
 ·injection h with h _;omega
theorem uq: ∀n,(aW g n).1=0\/g (aW g n).2=(aW g n).1
 | 0=> .inl rfl
 | n+1=>by
  unfold aW;split;·exact .inr rfl
  ·exact uq n
theorem ny{D:An}{p k:Nat}: ∀(l:Nat),Cut D p l k->Ev (D.take p) k l=D.take (p+l)
 | 0,_=>rfl
 | l+1,h=>by
  have ih:=ny (D:=D) (p:=p) (k:=k) l ⟨h.one,h.back,av h.fits,λi hi=>h.same i aa⟩;have hf:=h.fits;have h1:=h.one;have hb:=h.back;unfold Ev;rw[ih];have e:(D.take (p+l)).length=p+l:=tY;rw[e];have e2:(D.take (p+l)).getD (p+l-k) 0=D.getD (p+l) 0:=by rw[h.same l aa];simp only[qD];rw[List.getElem?_take_of_lt aa]
  rw[e2,<-m6,List.take_add_one,dQ aa,dS aa];rfl
structure V1(D:An)(dict:Int)(p:Nat)(r:R4)(s:Sy):Prop where
 k:s.k<=2
 q:s.r<=3
 fits:kt r (p:Int) (s.k:Nat) (s.l:Nat) (s.d:Nat) (s.r:Nat)=true
 ay5:nu r (s.k:Nat) (s.d:Nat) (s.r:Nat)<=dict
 plain:Gg (s.k:Nat) s.b (s.l:Nat) (s.d:Nat) (s.r:Nat)=s.val
 back: ∃n:Nat,nu r (s.k:Nat) (s.d:Nat) (s.r:Nat)=(n:Int)/\((s.k:Int)≠0->1<=n/\n<=p)/\pY (D.take p) (s.k:Nat) s.b s.l n=D.take (p+max s.l 1)
 auY:p+max s.l 1<=D.length
 short:s.l<=273
theorem lz(s:Sy)(hk:s.k<=2)(r:R4):dM r (s.k:Nat) (s.d:Nat) (s.r:Nat)=eD s r:=by
 obtain⟨k,b,l,d,q⟩:=s;simp only at hk;rcases(by omega:k=0\/k=1\/k=2)with rfl|rfl|rfl;·rfl
 ·rfl
 ·unfold dM eD;rw[au (show ¬((2:Nat):Int)=0 by decide),au (show ¬((2:Nat):Int)=1 by decide),au (show ¬2=0 by decide),au (show ¬2=1 by decide)];simp only;match q with
  | 0=>rfl
  | 1=>rfl
  | 2=>rfl
  | q+3=>
   rw[au aa,au aa,au aa];rfl
theorem ajB(r:R4)(q:Nat):QR r (q:Int)=r4 r.1 r.2.1 r.2.2.1 r.2.2.2 q:=by unfold QR;rw[Int.toNat_natCast]
section
abbrev rc(r:R4):List Value:=[.int .i64 r.1,.int .i64 r.2.1,.int .i64 r.2.2.1,.int .i64 r.2.2.2]
structure vO(w:Lo)(b5 b6 b8 b9 sL base:Nat)(F:Nat)(DA:As)(cd len tt:Nat)(r:R4)(L:List Sy)(v:Value)(W:Lo):Prop where
 below:Below w.heap.size w W
 f:br b5 W (PF F)
 data:br b6 W (.slice DA len cd)
 to_:br b8 W (.int .i64 tt)
 gX:W.heap[b9]? =some (.cells (rc r).toArray 152 (0,0))
 res:W.heap[sL]? =some (.cells (rc (0,0,0,0)).toArray 152 (0,0))
 own:f8 base W v L
 big:base<=W.heap.size
section
variable{w W W':Lo}{b5 b6 b8 b9 sL base F:Nat}{DA:As}{cd len tt:Nat}{r:R4}{L:List Sy}{v:Value}
theorem vO.step(h:vO w b5 b6 b8 b9 sL base F DA cd len tt r L v W)(hb:Below W.heap.size W W'):vO w b5 b6 b8 b9 sL base F DA cd len tt r L v W':=
 ⟨aQ h.below hb,h.f.aU (hb.block _ h.f.lt),h.data.aU (hb.block _ h.data.lt),h.to_.aU (hb.block _ h.to_.lt),(hb.block _ (bU h.gX)).trans h.gX,(hb.block _ (bU h.res)).trans h.res,h.own.below hb,a8 h.big hb.size⟩
theorem vO.append(h:vO w b5 b6 b8 b9 sL base F DA cd len tt r L v W)(aV:w.heap.size<=base/\b5<base/\b6<base/\b8<base/\b9<base/\sL<base)(hg:W.grownBy W' v.ownBlock){v':Value}{L':List Sy}(ho:f8 base W' v' L'):vO w b5 b6 b8 b9 sL base F DA cd len tt r L' v' W':=by have k: ∀b,b<base->W'.heap[b]? =W.heap[b]? :=λb hb=>hg.block b (db hb h.big) (λe=>by have:=(h.own.lt b e.symm).1;omega);exact⟨am h.below hg h.below.size (λg e=>a8 aV.1 (h.own.lt g e).1),h.f.aU (k _ aV.2.1),h.data.aU (k _ aV.2.2.1),h.to_.aU (k _ aV.2.2.2.1),(k _ aV.2.2.2.2.1).trans h.gX,(k _ aV.2.2.2.2.2).trans h.res,ho,a8 h.big hg.size⟩
theorem vO.cells(h:vO w b5 b6 b8 b9 sL base F DA cd len tt r L v W):W.cell? ⟨b5,0,none⟩=some (PF F)/\W.cell? ⟨b6,0,none⟩=some (.slice DA len cd)/\W.cell? ⟨b8,0,none⟩=some (.int .i64 tt)/\
  (W.cell? ⟨b9,0,none⟩=some (.int .i64 r.1)/\W.cell? ⟨b9,1,none⟩=some (.int .i64 r.2.1)/\W.cell? ⟨b9,2,none⟩=some (.int .i64 r.2.2.1)/\W.cell? ⟨b9,3,none⟩=some (.int .i64 r.2.2.2))/\
  (W.cell? ⟨sL,0,none⟩=some (.int .i64 0)/\W.cell? ⟨sL,1,none⟩=some (.int .i64 0)/\W.cell? ⟨sL,2,none⟩=some (.int .i64 0)/\W.cell? ⟨sL,3,none⟩=some (.int .i64 0))/\
  (∀i,W.frozen? ⟨b9,i,none⟩=false)/\(∀i,W.frozen? ⟨sL,i,none⟩=false):=by
 refine⟨h.f.cell,h.data.cell,h.to_.cell,⟨?_,?_,?_,?_⟩,⟨?_,?_,?_,?_⟩,λi=>aS _ _ _ _ _ h.gX,λi=>aS _ _ _ _ _ h.res⟩;·rw[aC W _ _ _ _ _ h.gX];rfl
 ·rw[aC W _ _ _ _ _ h.gX];rfl
 ·rw[aC W _ _ _ _ _ h.gX];rfl
 ·rw[aC W _ _ _ _ _ h.gX];rfl
 ·rw[aC W _ _ _ _ _ h.res];rfl
 ·rw[aC W _ _ _ _ _ h.res];rfl
 ·rw[aC W _ _ _ _ _ h.res];rfl
 ·rw[aC W _ _ _ _ _ h.res];rfl
theorem vO.store(h:vO w b5 b6 b8 b9 sL base F DA cd len tt r L v W)(aV:w.heap.size<=b9/\b9<base)(fj:b5≠b9/\b6≠b9/\b8≠b9/\sL≠b9)(q:R4):
  vO w b5 b6 b8 b9 sL base F DA cd len tt q L v ((((W.setCell ⟨b9,0,none⟩ (.int .i64 q.1)).setCell ⟨b9,1,none⟩ (.int .i64 q.2.1)).setCell ⟨b9,2,none⟩ (.int .i64 q.2.2.1)).setCell ⟨b9,3,none⟩ (.int .i64 q.2.2.2)):=by
 have k: ∀b,b≠b9->((((W.setCell ⟨b9,0,none⟩ (.int .i64 q.1)).setCell ⟨b9,1,none⟩ (.int .i64 q.2.1)).setCell ⟨b9,2,none⟩ (.int .i64 q.2.2.1)).setCell ⟨b9,3,none⟩ (.int .i64 q.2.2.2)).heap[b]? =W.heap[b]? :=λb hb=>by rw[af _ _ _ _ hb,af _ _ _ _ hb,af _ _ _ _ hb,af _ _ _ _ hb]
 refine⟨(((h.below.setCell (p:=⟨b9,0,none⟩) aV.1 _).setCell (p:=⟨b9,1,none⟩) aV.1 _).setCell (p:=⟨b9,2,none⟩) aV.1 _).setCell (p:=⟨b9,3,none⟩) aV.1 _,h.f.aU (k _ fj.1),h.data.aU (k _ fj.2.1),h.to_.aU (k _ fj.2.2.1),heap_set (heap_set (heap_set (heap_set h.gX 0 _) 1 _) 2 _) 3 _,(k _ fj.2.2.2).trans h.res,h.own.aU λg hg=>k g (by have:=(h.own.lt g hg).1;omega),?_⟩;have:=h.big;simpa [World.setCell]using this
end
def JE(L:List Sy)(r:R4)(w:Lo)(e:Ending)(w':Lo):Prop:= ∃v,e= .returned (.tuple #[v,r.val,.int .i64 0])/\f8 w.heap.size w' v L/\Below w.heap.size w w'
theorem ad9{w W:Lo}{v0 v1 v2:Value}{t0 t1 t2 t3:TypeId}{r:R4}(hW:((((w.alloc (.cells #[v0] t0)).alloc (.cells #[v1] t1)).alloc (.cells #[v2] t2)).alloc (.cells #[.int .i64 r.1,.int .i64 r.2.1,.int .i64 r.2.2.1,.int .i64 r.2.2.2] t3)).alloc (.cells #[.int .i64 0,.int .i64 0,.int .i64 0,.int .i64 0] t3)=W):
  Below w.heap.size w W/\br w.heap.size W v0/\br (w.heap.size+1) W v1/\br (w.heap.size+1+1) W v2/\W.heap[w.heap.size+1+1+1]? =some (.cells (rc r).toArray t3 (0,0))/\W.heap[w.heap.size+1+1+1+1]? =some (.cells (rc (0,0,0,0)).toArray t3 (0,0))/\W.heap.size=w.heap.size+1+1+1+1+1:=by
 subst hW;have up: ∀{b:Nat} {W:Lo} {o':Obj} (o:Obj),W.heap[b]? =some o'->(W.alloc o).heap[b]? =some o':=λo h=>(ee _ _ _ (bU h)).trans h;have I_: ∀{b:Nat} {W:Lo} {v:Value} (o:Obj),br b W v->br b (W.alloc o) v:=λo h=>h.aU (ee _ _ _ h.lt);have mk: ∀(W:Lo) (v:Value) (t:TypeId) (b:Nat),b=W.heap.size->br b (W.alloc (.cells #[v] t)) v:=λW v t b e=>by subst e;exact br.made W v t
 have Zp: ∀(W:Lo) (o:Obj) (b:Nat),b=W.heap.size->(W.alloc o).heap[b]? =some o:=λW o b e=>FG;refine⟨?_,I_ _ (I_ _ (I_ _ (I_ _ (mk _ _ _ _ rfl)))),I_ _ (I_ _ (I_ _ (mk _ _ _ _ ah))),I_ _ (I_ _ (mk _ _ _ _ ah)),up _ (Zp _ _ _ ah),Zp _ _ _ ah,ah⟩;refine m7 ?_ aH _;refine m7 ?_ aH _;refine m7 ?_ aH _;refine m7 ?_ ah _;exact az
theorem JF(F:Nat)(A DA:As)(cF cd:Nat)(D:An)(dict nice:Int)(mp B:Nat)(p0 tt:Nat)(r:R4)(w:Lo)
  (hR:ry w F A cF D dict nice mp B) (hD:Bytes w DA D) (DX:D.length<=cd) (hp:p0<=tt) (MV:tt<=D.length):
  Calls prog 149 #[PF F,.slice DA D.length cd,.int .i64 p0,.int .i64 tt,r.val] w (JE (bX D dict nice tt (tt-p0) p0 r).1 (bX D dict nice tt (tt-p0) p0 r).2 w):=by
 have VW:=hR.at_.small;have ud:(p0:Int)<=tt:=aa;have hti:(tt:Int)<=D.length:=aa;have Jt:(D.length:Int)<=100000:=aa;have xU:(D.length:Int)<=cd:=aa;obtain⟨⟨LS,rS⟩,hS⟩: ∃q,bX D dict nice tt (tt-p0) p0 r=q:=⟨_,rfl⟩
 rw[hS];have HS:=ae hS;have HR:=ae hR;have HD:=ae hD;have HCD:=ae DX;have HP:=ae hp;clear hR hD DX hp hS VW;go_enter func149,ntmps149;go_upto_region 1 with fail;generalize hW:((((w.alloc _).alloc _).alloc _).alloc _).alloc _=W;obtain⟨hb,x5,x6,x8,x9,x11,dF⟩:=ad9 hW
 have hI:vO w w.heap.size (w.heap.size+1) (w.heap.size+1+1) (w.heap.size+1+1+1) (w.heap.size+1+1+1+1) (w.heap.size+1+1+1+1+1) F DA cd D.length tt r [] (.slice none 0 0) W:=
  ⟨hb,x5,x6,x8,x9,x11,f8.nil _ _,by rw[dF];exact aF _⟩
 have MW:w.heap.size<=w.heap.size+1+1+1+1+1/\w.heap.size<w.heap.size+1+1+1+1+1/\w.heap.size+1<w.heap.size+1+1+1+1+1/\w.heap.size+1+1<w.heap.size+1+1+1+1+1/\w.heap.size+1+1+1<w.heap.size+1+1+1+1+1/\w.heap.size+1+1+1+1<w.heap.size+1+1+1+1+1:=aa;have fj:(w.heap.size≠w.heap.size+1+1+1/\w.heap.size+1≠w.heap.size+1+1+1/\w.heap.size+1+1≠w.heap.size+1+1+1/\w.heap.size+1+1+1+1≠w.heap.size+1+1+1)/\w.heap.size<=w.heap.size+1+1+1/\w.heap.size<=w.heap.size+1+1+1+1:=aa;clear hb x5 x6 x8 x9 x11 dF hW;obtain⟨base,e0⟩: ∃b,w.heap.size+1+1+1+1+1=b:=⟨_,rfl⟩
 obtain⟨sL,e1⟩: ∃b,w.heap.size+1+1+1+1=b:=⟨_,rfl⟩
 obtain⟨b9,e2⟩: ∃b,w.heap.size+1+1+1=b:=⟨_,rfl⟩
 obtain⟨b8,e3⟩: ∃b,w.heap.size+1+1=b:=⟨_,rfl⟩
 obtain⟨b6,e4⟩: ∃b,w.heap.size+1=b:=⟨_,rfl⟩
 rw[e0]at hI MW;rw[e1]at hI MW fj ⊢;rw[e2]at hI MW fj ⊢;rw[e3]at hI MW fj ⊢;rw[e4]at hI MW fj ⊢;clear e0 e1 e2 e3 e4;obtain⟨b5,e5⟩: ∃b,w.heap.size=b:=⟨_,rfl⟩
 have hI5:vO w b5 b6 b8 b9 sL base F DA cd D.length tt r [] (.slice none 0 0) W:=by rw[<-e5];exact hI
 have ab7:w.heap.size<=base/\b5<base/\b6<base/\b8<base/\b9<base/\sL<base:=by rw[<-e5];exact MW
 have JG:(b5≠b9/\b6≠b9/\b8≠b9/\sL≠b9)/\w.heap.size<=b9/\w.heap.size<=sL:=by rw[<-e5];exact fj
 have HB:Hid (∀(W':Lo) (o:Nat),w.heap.size<=o->f8 base W' (.slice none 0 0) []):=ae (λ_ _ _=>f8.nil _ _);rw[e5];have MX:=ae ab7;have Gk:=ae JG;have HI:=ae hI5;have H5:=ae e5;clear hI MW fj ab7 JG e5 hI5 HB;obtain⟨c5,c6,c8,⟨c90,c91,c92,c93⟩,_,_,_⟩:=HI.cells;have e00:decide ((p0:Int)<0)=false:=du aa;have e03:decide (tt<p0)=false:=du aa;have e04:decide (D.length<tt)=false:=du aa;have e01:decide ((tt:Int)<p0)=false:=du aa;have e02:decide ((D.length:Int)<tt)=false:=du aa;go_wp2_with fail;go_loopw [14,15] (λv i wr=> ∃(p:Nat) (r':R4) (L:List Sy) (vv:Value),vv=v/\i= .int .i64 p/\Hid (vO w b5 b6 b8 b9 sL base F DA cd D.length tt r' L vv wr)/\Hid ((LS,rS)=(L++(bX D dict nice tt (tt-p) p r').1,(bX D dict nice tt (tt-p) p r').2))/\p<=300000/\L.length<=p) (λ_ i _=>tt-(intOf i).toNat);·exact⟨p0,r,[],_,rfl,rfl,HI,ae (by rw[fL];exact HS.symm),aa,cI _⟩
 ·
  obtain⟨p,r',L,v,rfl,rfl,Rh,HSR,t8,hLp⟩:=hrel;clear c5 c6 c8 c90 c91 c92 c93;obtain⟨c5,c6,c8,⟨c90,c91,c92,c93⟩,_,_,_⟩:=Rh.cells;by_cases hpt:p<tt
  ·have aqm:(p:Int)<tt:=(by omega);have⟨S,hSd⟩:=ex (gV D dict nice tt p r');have hkr:S.k<=2/\S.r<=3:=(by rw[<-hSd];exact Rf _ _ _ _ _ _ _ _ _);have hl:S.l<=273+D.length:=(by rw[<-hSd];exact Rg _ _ _ _ _ _ _ _ _);have J_:=HR.below Rh.below;have hDr:=HD.below Rh.below;have xL:Hid (Calls prog 189 #[.int .i64 p,PF b8,PF b5,PF b9,PF b6] wr (un S wr)):=ae (by
    rw[<-hSd];exact Gt b8 b5 b9 b6 F A DA cF cd D dict nice mp B p tt _ _ _ _ wr J_ hDr HCD.out Rh.to_ Rh.f Rh.gX Rh.data hpt aa)
   have HSS:Hid (bX D dict nice tt (tt-p) p r'=(S::(bX D dict nice tt (tt-(p+max S.l 1)) (p+max S.l 1) (eD S r')).1,(bX D dict nice tt (tt-(p+max S.l 1)) (p+max S.l 1) (eD S r')).2)):=ae (by rw[jG hpt,hSd]);have HKR:=ae hkr;have n9:(S.l:Int)<=200000:=aa;have hLl:=hLp;clear J_ hDr hSd hkr HR HD;go_wp2_with fail;refine xL.mono ?_;rintro e w1 ⟨rfl,aI⟩;have bF:=ae aI;clear aI;go_upto_region 8 with fail;have⟨W2,gH⟩:=ex (w1.alloc (.cells #[.int .i64 S.k,.int .u8 S.b.toNat,.int .i64 S.l,.int .i64 S.d,.int .i64 S.r] 183));rw[gH];have kp:W2.heap[w1.heap.size]? =some (.cells (cY [S]).toArray 183 (0,0)):=xv;have aK:Below wr.heap.size wr W2:=(by rw[<-gH];exact bF.alloc bF.size _);have⟨W3,jE⟩:=ex (W2.alloc (.cells #[.int .i64 S.k,.int .u8 S.b.toNat,.int .i64 S.l,.int .i64 S.d,.int .i64 S.r] 183));have kr:W3.heap[W2.heap.size]? =some (.cells (cY [S]).toArray 183 (0,0)):=(by rw[<-jE];exact bz _ _);have bm:Below wr.heap.size wr W3:=(by rw[<-jE];exact aK.alloc aK.size _);have mr:w1.heap.size<W2.heap.size:=(bU kp)
   have V2:W3.heap[w1.heap.size]? =some (.cells (cY [S]).toArray 183 (0,0)):=(by rw[<-jE];exact(ee _ _ _ mr).trans kp);have hI3:=Rh.step bm;have V3: ∀g,v.ownBlock=some g->g<w1.heap.size:=λg e=>db (Rh.own.lt g e).2 bF.size;have y0:W2.cell? ⟨w1.heap.size,0,none⟩=some (.int .i64 S.k):=mo;have y1:W2.cell? ⟨w1.heap.size,1,none⟩=some (.int .u8 S.b.toNat):=mo;have y2:W2.cell? ⟨w1.heap.size,2,none⟩=some (.int .i64 S.l):=mo;have y3:W2.cell? ⟨w1.heap.size,3,none⟩=some (.int .i64 S.d):=mo;have y4:W2.cell? ⟨w1.heap.size,4,none⟩=some (.int .i64 S.r):=mo;have zz:=ae jE;have HI3:=ae hI3;have Lj:=ae kr;have ajG:=ae V2;have aqo:=ae V3;have aeb:=ae mr;have hLm:L.length<=1000000:=aa;have HLM:=ae hLm;clear gH kp aK jE kr bm mr V2 hI3 V3 hLm c5 c6 c8 c90 c91 c92 c93;go_wp2_with (at_builtin;rw[zz.out];refine oc rfl (.tmp 43) (.tmp 45) rfl base W3 v L rfl HI3.own W2.heap.size 1 S rfl Lj.out HLM.out HI3.big ?_;intro v' w4 jD dq;have C':=ae (ap jD dq);have hI4:=HI3.append MX.out dq jD;have qO:=(dq.block w1.heap.size (bU ajG.out) (λe=>av (aqo _ e.symm))).trans ajG.out;have HI4:=ae hI4;have Ri:=ae qO;obtain⟨_,_,_,⟨d0,d1,d2,d3⟩,_,_,_⟩:=hI4.cells;have s0:w4.cell? ⟨w1.heap.size,0,none⟩=some (.int .i64 S.k):=AZ;have s1:w4.cell? ⟨w1.heap.size,1,none⟩=some (.int .u8 S.b.toNat):=AZ;have s2:w4.cell? ⟨w1.heap.size,2,none⟩=some (.int .i64 S.l):=AZ;have s3:w4.cell? ⟨w1.heap.size,3,none⟩=some (.int .i64 S.d):=AZ;have s4:w4.cell? ⟨w1.heap.size,4,none⟩=some (.int .i64 S.r):=AZ;clear jD dq hI4 qO y0 y1 y2 y3 y4)
   refine(Re S HKR.1 HKR.2 r' w4).mono ?_;rintro e w5 ⟨rfl,eS⟩;have hI5:=HI4.step eS;obtain⟨_,_,_,⟨q0,q1,q2,q3⟩,_,qf,_⟩:=hI5.cells;have vb:=(eS.block _ (bU Ri.out)).trans Ri.out;have u2:w5.cell? ⟨w1.heap.size,2,none⟩=some (.int .i64 S.l):=LG;have HI6:=ae (hI5.store ⟨Gk.2.1,MX.2.2.2.2.1⟩ Gk.1 (eD S r'));have hnb:b9≠w1.heap.size/\w1.heap.size≠b9:=(by have h1:b9<w1.heap.size:=db (bU Rh.gX) bF.size;omega);obtain⟨nb1,nb2⟩:=hnb;have qf0:=qf 0;have qf1:=qf 1;have qf2:=qf 2;have qf3:=qf 3;clear eS hI5 vb d0 d1 d2 d3 s0 s1 s2 s3 s4 qf;have aqr:Hid ((LS,rS)=((L++[S])++(bX D dict nice tt (tt-(p+max S.l 1)) (p+max S.l 1) (eD S r')).1,(bX D dict nice tt (tt-(p+max S.l 1)) (p+max S.l 1) (eD S r')).2)):=ae (by
    rw[HSR.out,HSS.out];simp)
   go_wp2_with fail;exact⟨⟨p+max S.l 1,eD S r',L++[S],_,rfl,by congr 1;omega,HI6,aqr,aa,by rw[aG,List.length_singleton];omega⟩,fP⟩
  ·have aqm: ¬(p:Int)<tt:=(by omega);have HE:Hid (LS=L/\rS=r'):=ae (by
    have:=HSR.out;rw[pw hpt]at this;simpa using this)
   obtain⟨_,_,_,_,⟨n0,n1,n2,n3⟩,_,nf⟩:=Rh.cells;have nf0:=nf 0;have nf1:=nf 1;have nf2:=nf 2;have nf3:=nf 3;clear nf;go_wp2_with fail;go_region;all_goals go_wp2_with fail
   have ho:f8 base ((((wr.setCell ⟨sL,0,none⟩ (.int .i64 r'.1)).setCell ⟨sL,1,none⟩ (.int .i64 r'.2.1)).setCell ⟨sL,2,none⟩ (.int .i64 r'.2.2.1)).setCell ⟨sL,3,none⟩ (.int .i64 r'.2.2.2)) v L:=
    (((Rh.own.set (p:=⟨sL,0,none⟩) MX.2.2.2.2.2 _).set (p:=⟨sL,1,none⟩) MX.2.2.2.2.2 _).set (p:=⟨sL,2,none⟩) MX.2.2.2.2.2 _).set (p:=⟨sL,3,none⟩) MX.2.2.2.2.2 _
   have eX:=(((Rh.below.setCell (p:=⟨sL,0,none⟩) Gk.2.2 (.int .i64 r'.1)).setCell (p:=⟨sL,1,none⟩) Gk.2.2 (.int .i64 r'.2.1)).setCell (p:=⟨sL,2,none⟩) Gk.2.2 (.int .i64 r'.2.2.1)).setCell (p:=⟨sL,3,none⟩) Gk.2.2 (.int .i64 r'.2.2.2);refine bA (v:= .tuple #[v,r'.val,.int .i64 0]) (by simp[results,results149,go_sem,n0,n1,n2,n3]) rfl ⟨v,by rw[HE.2],?_,?_⟩;·rw[HE.1];exact ho.weaken MX.1
   ·exact⟨eX.os,eX.tape,eX.output,eX.size,eX.block⟩
end
theorem Qq(a b:Int)(w:Lo):Calls prog 241 #[.int .i64 a,.int .i64 b] w λe w'=>e= .returned (.int .i64 (min a b))/\w=w':=by
 by_cases h:a<b
 ·have e:min a b=a:=by omega
  rw[e];clear e;go_enter func241,ntmps241;go_wp2;go_ret;exact⟨rfl,rfl⟩
 ·have e:min a b=b:=by omega
  rw[e];clear e;go_enter func241,ntmps241;go_wp2;go_ret;exact⟨rfl,rfl⟩
theorem Fq(A:As)(l:An)(c:Nat)(p k:Nat)(most:Int)(w:Lo)(hB:Bytes w A l)(hc:l.length<=c)(hl:l.length<=100000)(hp:p<l.length)(hk:1<=k)(hkp:k<=p):
  Calls prog 240 #[.slice A l.length c,.int .i64 (p:Nat),.int .i64 (k:Nat),.int .i64 most] w λe w'=>e= .returned (.int .i64 (bG l p (p-k) (tj l p most):Nat))/\ ∃m,w'=w.drewN m:=by
 obtain⟨b,off,rfl,eX,cZ⟩:=hB.addr aa;have EH:=ae cZ;have n9:(l.length:Int)<=100000:=aa;have oj:(l.length:Int)<=c:=aa;have HL:=ae (λn=> @adO l p n most);have PJ:=ae (adN l p most aa);have⟨L,hL⟩:=ex (tj l p most);rw[hL]at HL PJ ⊢;have HU:=ae (λn (h:vL l p (p-k) L n)=>h.is);have⟨E,hE⟩:=ex (bG l p (p-k) L);rw[hE]at HU ⊢;have ud:(p:Int)<=100000:=aa;have HK:=ae (ap hk (ap hkp hl));clear hB cZ eX hL hE hl hk hkp;go_enter func240,ntmps240;go_wp2_with fail;go_loopw [9] (λi wr=> ∃(n m:Nat),n<=L/\i= .int .i64 (n:Nat)/\Hid (∀i,i<n->l.getD (p+i) 0=l.getD (p-k+i) 0)/\wr=w.drewN m) (λi _=>L-(intOf i).toNat);·exact⟨0,0,aa,rfl,ae (λi h=>oU),rfl⟩
 ·
  obtain⟨n,m,hn,rfl,qz,rfl⟩:=hrel;by_cases DU:n<L
  ·obtain⟨h1,h2⟩:=(HL n).1 DU;have⟨x,hx⟩:=ex (p+n:Nat);have hxi:(p:Int)+(n:Int)=x:=aa;rw[hxi]at h2;have⟨y,hy⟩:=ex (p-k+n:Nat);have hyi:(x:Int)-(k:Int)=y:=av HK.out;have i':(y:Int)<(l.length:Int):=av HK.out;have cx:=EH.out x aa;have cy:=EH.out y aa;have HX:Hid (p+n=x/\p-k+n=y):=ae ⟨hx,hy⟩;have qV:(n:Int)<=100000:=aa;have e1:=dQ (d:=l) (i:=x) aa;have e2:=dQ (d:=l) (i:=y) aa;generalize l[x]'aa=u at*;generalize l[y]'aa=v at*;have zB:=ae (ap e1 e2);clear e1 e2 hx hy;by_cases DW:u=v
   ·have adS:((u.toNat:Int)==(v.toNat:Int))=true:=(by rw[DW];simp);have HQ:Hid (∀i,i<n+1->l.getD (p+i) 0=l.getD (p-k+i) 0):=ae (λi hi=>by
     rcases dN i n with h|h;·exact qz i h
     ·obtain rfl:i=n:=(by omega);rw[HX.1,HX.2,zB.1,zB.2,DW])
    clear DW;go_wp2;go_quiet (fail);go_wp2_with fail;exact⟨⟨n+1,_,aa,aA,HQ,rfl⟩,fP⟩
   ·have adS:((u.toNat:Int)==(v.toNat:Int))=false:=(by rw[gQ];intro h;exact DW (UInt8.toNat_inj.1 aa));have HN:Hid (n=E):=ae (HU n ⟨aa,qz.out,.inr (by rw[HX.1,HX.2,zB.1,zB.2];exact DW)⟩);clear DW;go_wp2;go_quiet (fail);go_wp2;go_ret;exact⟨qM,_,World.drewN_drewN ..⟩
  ·obtain rfl:n=L:=(by omega);have HN:Hid (n=E):=ae (HU n ⟨aa,qz.out,.inl rfl⟩);have NZ:=mt (HL n).2 DU;by_cases h1:(n:Int)<most;·have h2: ¬(p:Int)+(n:Int)<(l.length:Int):=λh=>NZ ⟨h1,h⟩;have qV:(n:Int)<=100000:=av PJ.out;clear NZ;go_wp2;go_ret;exact⟨qM,_,rfl⟩
   ·clear NZ;go_wp2;go_ret;exact⟨qM,_,rfl⟩
theorem Tr(A:As)(l:An)(c:Nat)(dict nice:Int)(p:Nat)(most:Int)(w:Lo)(hB:Bytes w A l)(hc:l.length<=c)(hl:l.length<=100000)(hp:p<l.length):
  Calls prog 203 #[.slice A l.length c,.int .i64 dict,.int .i64 nice,.int .i64 p,.int .i64 most] w λe w'=>e= .returned (.tuple #[.int .i64 ((iQ l dict nice p most).1:Nat),.int .i64 ((iQ l dict nice p most).2:Nat)])/\ ∃m,w'=w.drewN m:=by
 have HCU:=ae (Qq nice most);have Mk:=ae (λk m (h1:1<=k) (h2:k<=p)=>Fq A l c p k (min nice most) (w.drewN m) hB hc hl hp h1 h2);have ud:(p:Int)<=100000:=aa;unfold iQ;obtain⟨f,hf⟩: ∃f:Nat->Nat,(λk=>bG l p (p-k) (tj l p (min nice most)))=f:=⟨_,rfl⟩
 have HF:Hid (∀k,bG l p (p-k) (tj l p (min nice most))=f k):=ae (λk=>by rw[<-hf]);rw[hf];have⟨D,hD⟩:=ex ((min (p:Int) dict).toNat);rw[hD];have HD:Hid (∀q:Nat,1<=q->((q:Int)<=p/\(q:Int)<=dict↔q<=D)):=ae (λq h=>aa);have HDP:Hid (D<=p):=ae aa;have⟨RR,hRR⟩:=ex ((if(dk f D).1<2 then(0,0)else dk f D));rw[hRR];have HRR:=ae hRR;clear hRR;clear hf hD hB hc hl hp;go_enter func203,ntmps203;go_wp2_with fail;go_loopw [12,13,14] (λa b i wr=> ∃(q m:Nat),q<=D/\i= .int .i64 ((q+1:Nat):Int)/\a= .int .i64 ((dk f q).1:Nat)/\b= .int .i64 ((dk f q).2:Nat)/\wr=w.drewN m) (λ_ _ i _=>D+1-(intOf i).toNat);·exact⟨0,0,aa,rfl,rfl,rfl,rfl⟩
 ·
  obtain⟨q,m,hq,rfl,rfl,rfl,rfl⟩:=hrel;by_cases hqD:q<D
  ·obtain⟨h1,h2⟩:=(HD (q+1) aa).2 hqD;have Mt:=ae (Mk (q+1) m aa (av HDP.out));rw[HF.out]at Mt;have HB:Hid (dk f (q+1)=if(dk f q).1<f (q+1)then(f (q+1),q+1)else dk f q):=ae rfl;have hqp:q+1<=100000:=av HDP.out;have⟨Q,hQ⟩:=ex (q+1);rw[hQ]at h1 h2 Mt HB hqp ⊢;have HQ:=ae hQ;clear hQ;generalize dk f q=bb at*;obtain⟨X,Y⟩:=bb;have hQi:(Q:Int)<=100000:=aa;by_cases hgt:X<f Q;·rw[ax hgt]at HB;have hgi:(X:Int)<(f Q:Nat):=aa;generalize f Q=Z at*;clear hgt;go_wp2_with fail;refine(HCU _).mono ?_;rintro e w1 ⟨rfl,rfl⟩;go_wp2_with fail;refine Mt.mono ?_;rintro e w1 ⟨rfl,m1,rfl⟩;go_wp2_with fail;exact⟨⟨Q,_,av HQ.out,aA,by rw[HB.out],by rw[HB.out],rfl⟩,by have:=HQ.out;simp[intOf];omega⟩
   ·rw[au hgt]at HB;have hgi: ¬(X:Int)<(f Q:Nat):=aa;generalize f Q=Z at*;clear hgt;go_wp2_with fail;refine(HCU _).mono ?_;rintro e w1 ⟨rfl,rfl⟩;go_wp2_with fail;refine Mt.mono ?_;rintro e w1 ⟨rfl,m1,rfl⟩;go_wp2_with fail;exact⟨⟨Q,_,av HQ.out,aA,by rw[HB.out],by rw[HB.out],rfl⟩,by have:=HQ.out;simp[intOf];omega⟩
  ·obtain rfl:q=D:=(by omega);have NZ:=mt (HD (q+1) aa).1 aa;have⟨Q,hQ⟩:=ex (q+1);rw[hQ]at NZ ⊢;clear hQ;generalize dk f q=bb at*;obtain⟨X,Y⟩:=bb;by_cases h2:X<2
   ·have qy:Hid ((0,0)=RR):=ae (by rw[<-HRR.out,ax h2]);have h2i:(X:Int)<2:=aa;clear h2;by_cases h1:(Q:Int)<=p;·have h3: ¬(Q:Int)<=dict:=λh=>NZ ⟨h1,h⟩;clear NZ;go_wp2;go_ret2;exact⟨by rw[<-qy.out];rfl,_,rfl⟩
    ·clear NZ;go_wp2;go_ret2;exact⟨by rw[<-qy.out];rfl,_,rfl⟩
   ·have qy:Hid ((X,Y)=RR):=ae (by rw[<-HRR.out,au h2]);have h2i: ¬(X:Int)<2:=aa;clear h2;by_cases h1:(Q:Int)<=p;·have h3: ¬(Q:Int)<=dict:=λh=>NZ ⟨h1,h⟩;clear NZ;go_wp2;go_ret2;exact⟨by rw[<-qy.out];rfl,_,rfl⟩
    ·clear NZ;go_wp2;go_ret2;exact⟨by rw[<-qy.out];rfl,_,rfl⟩
theorem Ts(A:As)(l:An)(c:Nat)(dict place d6 most:Int)(w:Lo)(hB:Bytes w A l)(hc:l.length<=c)(hl:l.length<=100000):
  Calls prog 202 #[.slice A l.length c,.int .i64 dict,.int .i64 place,.int .i64 d6,.int .i64 most] w λe w'=>e= .returned (.int .i64 (d7 l dict place d6 most:Nat))/\ ∃m,w'=w.drewN m:=by
 have oj:(l.length:Int)<=c:=aa;have HCU:=ae (Qq 273 most);unfold d7;by_cases h1:place<0;·rw[au (λh=>aa)];clear hB hc hl;go_enter func202,ntmps202;go_wp2;go_ret;exact⟨rfl,0,rfl⟩
 have b1:decide (place<0)=false:=du h1;by_cases h2:(l.length:Int)<=place;·rw[au (λh=>aa)];clear hB hc hl h1;go_enter func202,ntmps202;go_wp2;go_ret;exact⟨rfl,0,rfl⟩
 have b2:decide ((l.length:Int)<=place)=false:=du h2;by_cases h3:d6<1;·rw[au (λh=>aa)];clear hB hc hl h1 h2;go_enter func202,ntmps202;go_wp2;go_ret;exact⟨rfl,0,rfl⟩
 have b3:decide (d6<1)=false:=du h3;by_cases h4:place<d6;·rw[au (λh=>aa)];clear hB hc hl h1 h2 h3;go_enter func202,ntmps202;go_wp2;go_ret;exact⟨rfl,0,rfl⟩
 have b4:decide (place<d6)=false:=du h4;by_cases h5:dict<d6;·rw[au (λh=>aa)];clear hB hc hl h1 h2 h3 h4;go_enter func202,ntmps202;go_wp2;go_ret;exact⟨rfl,0,rfl⟩
 have b5:decide (dict<d6)=false:=du h5;rw[ax aa];have hp:(place.toNat:Int)=place:=aa;have hk:(d6.toNat:Int)=d6:=aa;have Mk:=Fq A l c place.toNat d6.toNat (min 273 most) w hB hc hl aa aa aa;rw[hp,hk]at Mk;have Mk:=ae Mk;generalize bG l place.toNat (place.toNat-d6.toNat) (tj l place.toNat (min 273 most))=E at*;clear hp hk;clear hB hc hl h1 h2 h3 h4 h5;go_enter func202,ntmps202;go_wp2_with fail;refine(HCU _).mono ?_;rintro e w1 ⟨rfl,rfl⟩;go_wp2_with fail;refine Mk.mono ?_;rintro e w1 ⟨rfl,m,rfl⟩;go_wp2;go_ret;exact⟨rfl,_,rfl⟩
end Go.Proofs.YtfcaoggfnkhfiaaGreatDoor
