import Derived.Test.YtfcaoggfnkhfiaaGreatDoorZ03
namespace Go.Proofs.YtfcaoggfnkhfiaaGreatDoor
set_option maxRecDepth 100000
set_option maxHeartbeats 8000000
open Go.RowKit Go.Proofs.Tryz
variable{d:Int}{X:List Nat}{C L g k lc lp n pb st:Nat}{P:Nat->Nat}{r:R4}{w:Lo}
def fp(r:R4):Prop:=(1<=r.1/\1<=r.2.1/\1<=r.2.2.1/\1<=r.2.2.2)/\(r.1<=4294967296/\r.2.1<=4294967296/\r.2.2.1<=4294967296/\r.2.2.2<=4294967296)
theorem fp.front(h:fp r)(h1:1<=d)(h2:d<=4294967296):fp (ie r n d):=by
 obtain⟨⟨a1,a2,a3,a4⟩,b1,b2,b3,b4⟩:=h;unfold ie;split;·exact⟨⟨h1,a2,a3,a4⟩,h2,b2,b3,b4⟩
 ·exact⟨⟨h1,a1,a3,a4⟩,h2,b1,b3,b4⟩
 ·exact⟨⟨h1,a1,a2,a4⟩,h2,b1,b2,b4⟩
 ·exact⟨⟨h1,a1,a2,a3⟩,h2,b1,b2,b3⟩
theorem fp.at_(h:fp r)(n:Nat):1<=r4 r.1 r.2.1 r.2.2.1 r.2.2.2 n/\r4 r.1 r.2.1 r.2.2.1 r.2.2.2 n<=4294967296:=by
 obtain⟨⟨a1,a2,a3,a4⟩,b1,b2,b3,b4⟩:=h;unfold r4;split;·exact⟨a1,b1⟩
 ·exact⟨a2,b2⟩
 ·exact⟨a3,b3⟩
 ·exact⟨a4,b4⟩
theorem Bytes.only{w':Lo}{A:As}{l:An}(h:Bytes w A l)(ho:aM X w w')(hX: ∀a,A=some a->a.block ∉ X):Bytes w' A l:=
 h.aU ho.size λp hp aV=>by
  have hb:p.block ∉ X:=by
   cases A with
   | none=>simp at hp
   | some a=>simp at hp;rw[<-hp];exact hX a rfl
  unfold World.cell?;rw[ho.block _ aV hb]
theorem I2(h:st<12):fU st<12:=by unfold fU;split;omega;split<;>omega
namespace Md
def sym(io:Io)(lc lp pb st:Nat)(r:R4)(H:An)(k:Int)(b:UInt8)(l d q:Int)(x:io.S):Sy×Nat×R4×io.S:=
 let p:=H.length%2^pb
 let a:=io.aD (16*st+p) (k !=0) x
 if a.1=false then
  let z:=lit io lc lp st r.1 H (b.toNat:Nat) a.2
  (⟨0,z.1,0,0,0⟩,fU st,r,z.2)
 else
  let c:=io.aD (192+st) (k !=1) a.2
  if c.1=false then
   let n:=len io 432 p l c.2
   let z:=d6 io n.1 d n.2
   (⟨1,0,n.1,z.1,0⟩,(if st<7 then 7 else 10),ie r 3 (z.1:Nat),z.2)
  else
   let z:=zt io st p l q c.2
   (⟨2,0,z.1.2,0,z.1.1⟩,(if st<7 then(if z.1.2=1 then 9 else 8)else 11),ie r z.1.1 (r4 r.1 r.2.1 r.2.2.1 r.2.2.2 z.1.1),z.2)
end Md
theorem E'(DG:pb<=4):bits .and .i64 (n:Int) (wrap64 (wrap64 (2^pb)-1))=((n%2^pb:Nat):Int):=by
 have h1:1<=2^pb:=ko;have h2:2^pb<=2^4:=fk aa DG;have e1:wrap64 ((2:Int)^pb)=((2^pb:Nat):Int):=by rw[show(2:Int)^pb=((2^pb:Nat):Int) by simp];exact gK aa aa
 have e2:wrap64 (((2^pb:Nat):Int)-1)=((2^pb-1:Nat):Int):=by rw[gK aa aa];omega
 rw[e1,e2,qW _ _ aa];omega
theorem ado(io:Io){x:io.S}(hM:MS io w C L lc lp pb st r x X)(lj:lc<=4)(Dn:lp<=4)(DG:pb<=4)(da:st<12)(hr:fp r)(A:As)(H:An)(c:Nat)(hB:Bytes w A H)(hc:H.length<=c)(hH:H.length<=1000000000)(hHX: ∀a,A=some a->a.block ∉ C::L::X)
  (kk:Int) (b:UInt8) (l d q:Int) (F7:(io.aD (16*st+H.length%2^pb) (kk !=0) x).1=true->0<=l/\l<=300)
  (Zb:(io.aD (16*st+H.length%2^pb) (kk !=0) x).1=true->(io.aD (192+st) (kk !=1) (io.aD (16*st+H.length%2^pb) (kk !=0) x).2).1=false->0<=d/\d<=4294967295) {s':Sy} {st':Nat} {r':R4} {Z:io.S} (hR:Md.sym io lc lp pb st r H kk b l d q x=(s',st',r',Z)) (bK:io.ok x.2 (k+54)):
  Calls prog 195 #[PF C,io.v,.slice A H.length c,mq kk b l d q] w (ph (s'.k<=2/\s'.r<=3/\s'.l<=273/\(s'.d:Int)<=4294967296/\st'<12/\fp r'/\io.ok Z.2 k) (lK s'.val io C L lc lp pb st' r' Z X w)):=by
 have⟨Q,hQ⟩:=ex ((s'.k<=2/\s'.r<=3/\s'.l<=273/\(s'.d:Int)<=4294967296/\st'<12/\fp r'/\io.ok Z.2 k));rw[hQ];have HQ:=ae hQ;have HGR:=ae hr;have HHX:=ae hHX;clear hQ;have⟨p,Bs⟩:=ex (H.length%2^pb);have uf:p<16:=by have h1:1<=2^pb:=ko;have h2:2^pb<=2^4:=fk aa DG;have:=Nat.mod_lt H.length h1;omega
 have sY:=E' (n:=H.length) DG;unfold Md.sym at hR;simp only[Bs]at hR sY F7 Zb;have ud:(p:Int)<16:=aa;have Me:(st:Int)<12:=aa;have oj:(H.length:Int)<=c:=aa;have hHi:(H.length:Int)<=1000000000:=aa;have ao0:=ae hB;have jR:Hid (∀i∈C::L::X,i<w.heap.size):=ae (by
  intro i hi;simp only[dc]at hi;rcases hi with rfl|rfl|hi;·exact hM.mod.Hq
  ·exact hM.mod.FX
  ·exact io.lt hM.io i hi)
 have⟨bs,qT⟩:=ex (w.heap.size+1);have kX:=ae qT;clear qT;have⟨W1,ek⟩:=ex ((w.alloc (.cells #[.int .i64 kk,.int .u8 b.toNat,.int .i64 l,.int .i64 d,.int .i64 q] 183)).alloc (.cells #[.int .i64 0,.int .u8 0,.int .i64 0,.int .i64 0,.int .i64 0] 183));have aI:aq w W1:=by rw[<-ek];exact(az).alloc ah _
 have ij:=hM.below aI;obtain⟨Y9,oN⟩:=Bp ek;rw[kX.out]at oN;have xd:=ae ek;have mT:=ae ij;have gT:=ae Y9;have lV:=ae oN;have bF:=ae aI;have ne1:C≠bs:=λe=>by have:=jR.out C ah;have:=kX.out;omega
 have TG:bs≠C:=λe=>ne1 e.symm;have ki:Hid (w.heap.size ∉ C::L::X/\bs ∉ C::L::X):=ae ⟨λh=>av (jR _ h),λh=>Fz⟩;clear ek ij Y9 oN aI hM;have gx:=ae (ao0.below bF.out);obtain⟨⟨B,y⟩,hy⟩: ∃z,io.aD (16*st+p) (kk !=0) x=z:=⟨_,rfl⟩
 obtain⟨h1,lL⟩:=pg io (mT.drewN 1) hy (at_:=16*st) (j:=p) (len:=16) (cp:=16) (b:=C) (off:=8+st*16) rfl (k:=k+53) bK (Md.oh aa aa) uf aa aa;simp only[hy]at hR F7 Zb;have HRL:=ae F7;have F':=ae Zb;clear F7 Zb;have H1:=ae h1;have mU:=ae lL;have HR:=ae hR;have adf:Hid (aM (C::L::X) W1 W1/\ ∀i∈X,i∈X\/W1.heap.size<=i):=ae ⟨aM.refl _ _,λi hi=> .inl hi⟩;have c2:=mT.mod.cells.2.2.1;have bu:=ap mT.mod.cells.2.2.2.1 gT.1;have HP:=ae Bs;clear hy hR h1 lL bK Bs hB hr hHX;go_enter func195,ntmps195;go_upto_region 1 with fail;rw[xd.out,kX.out];go_upto_region 5 with fail;refine wp_region_held_drew (S:=λw2=>w2.cell? ⟨C,3,none⟩=some (.int .i64 st)/\w2.cell? ⟨w.heap.size,0,none⟩=some (.int .i64 kk)) ak bu (λhS=> ?_);refine ag 0 hS (h:=ag 1 hS (h:=ag 2 hS (h:=ag 3 hS (h:=ag 4 hS (h:=bN 5 hS (h:=ag 6 hS (h:=ag 7 hS (h:=ag 8 hS (h:=ag 9 hS (h:=ag 10 hS (h:=ag 11 hS (h:= ?_))))))))))));refine bN 12 hS (h:=ag 13 hS (h:= ?_));refine aO 14 (λK hK=> ?_);go_simp;refine H1.mono ?_;rintro e x1 ⟨rfl,UE⟩;obtain⟨X1,Mf,Eg,UF⟩:=df adf.out UE;have Mg:=ae Mf;have vz:=ae (ap Eg UF);have gx1:=ap Mf.mod.cells.2.2.2.1 (aw Eg ki.1 gT.1);clear Mf Eg UF UE;go_wp2_with fail;refine hK _ _ gx1 (λ_=> ?_);clear hK K;refine ag 15 gx1 (h:=ag 16 gx1 (h:= ?_));refine wpAnyH_done ak ?_ _;clear hS bu H1 c2 gx1;cases B with
 | false=>
  have hR:=HR.out;simp only[if_true]at hR;obtain⟨⟨R,Z2⟩,hz⟩: ∃q,Md.lit io lc lp st r.1 H (b.toNat:Nat) y=q:=⟨_,rfl⟩
  simp only[hz]at hR;have HE:Hid (s'=⟨0,R,0,0,0⟩/\st'=fU st/\r'=r/\Z=Z2):=ae (by
   injection hR with e1 e2;injection e2 with e2 e3;injection e3 with e3 e4;exact⟨e1.symm,e2.symm,e3.symm,e4.symm⟩)
  have HC:=ae (adk io Mg.out lj Dn da HGR.1.1 A H c (gx.only vz.1 HHX.out) hc hH kk b l d q hz (k:=k) (io.le mU.out aa));clear hR hz;rw[show et false=0 from rfl];have y0:=aw vz.1 ki.1 gT.1;have y1:=aw vz.1 ki.1 gT.2.1;have y2:=aw vz.1 ki.1 gT.2.2.1;have y3:=aw vz.1 ki.1 gT.2.2.2.1;have y4:=aw vz.1 ki.1 gT.2.2.2.2;go_wp2_with fail;refine HC.mono ?_;rintro e x9 ⟨⟨rfl,QJ⟩,okz⟩;have TK:=iY.trans vz.1 vz.2 QJ;clear QJ y0 y1 y2 y3 y4;obtain⟨X9,hM9,Bt,hX9⟩:=TK;have HM9:=ae hM9;have pf:=ae Bt;have ia:Hid (∀i∈X9,i∈X\/W1.heap.size<=i):=ae hX9;have oN:=(pf.block bs qI ki.2).trans lV.out;have z0:x9.cell? ⟨bs,0,none⟩=some (.int .i64 0):=js;have z1:x9.cell? ⟨bs,1,none⟩=some (.int .u8 0):=js;have z2:x9.cell? ⟨bs,2,none⟩=some (.int .i64 0):=js;have z3:x9.cell? ⟨bs,3,none⟩=some (.int .i64 0):=js;have z4:x9.cell? ⟨bs,4,none⟩=some (.int .i64 0):=js;have zf: ∀i,x9.frozen? ⟨bs,i,none⟩=false:=λi=>aS _ _ _ _ _ oN;have IY:=zf 0;have IZ:=zf 1;have UB:=zf 2;have UC:=zf 3;have zf4:=zf 4;clear oN zf;clear hM9 Bt hX9;go_wp2_with fail;refine bA (v:=mq 0 R 0 0 0) Lz rfl ⟨⟨?_,X9,?_,?_,?_⟩,?_⟩;·rw[HE.1];rfl
  ·have lX:bs ∉ C::L::X9:=λh=>by
    simp only[dc]at h;rcases h with h|h|h;·exact TG h
    ·have:=jR.out L ah;have:=kX.out;omega
    ·rcases ia.out _ h with h|h;·have:=jR.out bs fO;have:=kX.out;omega
     ·have:=(bU lV.out);omega
   rw[HE.2.1,HE.2.2.1,HE.2.2.2];exact((((HM9.bS lX _).bS lX _).bS lX _).bS lX _).bS lX _
  ·have h0:aM (C::L::X) w x9:=(aM.cJ bF.out).trans pf.out (λi hi=> .inl hi);have hn:bs∈C::L::X\/w.heap.size<=bs:= .inr (av kX.out);exact((((h0.setCell (p:=⟨bs,0,none⟩) hn _).setCell (p:=⟨bs,1,none⟩) hn _).setCell (p:=⟨bs,2,none⟩) hn _).setCell (p:=⟨bs,3,none⟩) hn _).setCell (p:=⟨bs,4,none⟩) hn _
  ·intro i hi;rcases ia.out i hi with h|h;·exact .inl h
   ·exact .inr (a8 bF.size h)
  ·rw[<-HQ.out,HE.1,HE.2.1,HE.2.2.1,HE.2.2.2];exact⟨ah,ah,ah,ah,I2 da,HGR.out,okz⟩
 | true=>
  have hR:=HR.out;simp only[Bool.true_eq_false,if_false]at hR;obtain⟨⟨B2,y2⟩,hy⟩: ∃z,io.aD (192+st) (kk !=1) y=z:=⟨_,rfl⟩
  obtain⟨h1,lL⟩:=pg io (Mg.drewN 1) hy (at_:=192) (j:=st) (len:=12) (cp:=12) (b:=C) (off:=200) rfl (k:=k+52) mU.out (Md.oh rfl aa) da aa aa;have Zb:=F'.out ah;simp only[hy]at hR Zb;have aio:=ae Zb;clear Zb;have H2:=ae h1;have fS:=ae lL;have qy:=ae hR;have bu:=ap Mg.mod.cells.2.2.2.1 (aw vz.1 ki.1 gT.1);clear hy hR h1 lL;rw[show et true=1 from rfl];go_upto_region 7 with fail;refine wp_region_held_drew (S:=λw2=>w2.cell? ⟨C,3,none⟩=some (.int .i64 st)/\w2.cell? ⟨w.heap.size,0,none⟩=some (.int .i64 kk)) ak bu (λhS=> ?_);refine ag 0 hS (h:=ag 1 hS (h:=ag 2 hS (h:=ag 3 hS (h:=ag 4 hS (h:=ag 5 hS (h:=ag 6 hS (h:=ag 7 hS (h:=bN 8 hS (h:=ag 9 hS (h:=bN 10 hS (h:=ag 11 hS (h:= ?_))))))))))));refine aO 12 (λK hK=> ?_);go_simp;refine H2.mono ?_;rintro e x2 ⟨rfl,UG⟩;obtain⟨X2,Mh,Eh,UH⟩:=df vz.out UG;have QH:=ae Mh;have qn:=ae (ap Eh UH);have gx2:=ap Mh.mod.cells.2.2.2.1 (aw Eh ki.1 gT.1);clear Mh Eh UH UG;go_wp2_with fail;refine hK _ _ gx2 (λ_=> ?_);clear hK K;refine ag 13 gx2 (h:=ag 14 gx2 (h:= ?_));refine wpAnyH_done ak ?_ _;clear hS bu H2 gx2;cases B2 with
  | false=>
   have hR:=qy.out;simp only[if_true]at hR;obtain⟨⟨n,y3⟩,hn⟩: ∃q,Md.len io 432 p l y2=q:=⟨_,rfl⟩
   simp only[hn]at hR;obtain⟨⟨dd,Z2⟩,hz⟩: ∃q,Md.d6 io n d y3=q:=⟨_,rfl⟩
   simp only[hz]at hR;have HE:Hid (s'=⟨1,0,n,dd,0⟩/\st'=(if st<7 then 7 else 10)/\r'=ie r 3 (dd:Nat)/\Z=Z2):=ae (by
    injection hR with e1 e2;injection e2 with e2 e3;injection e3 with e3 e4;exact⟨e1.symm,e2.symm,e3.symm,e4.symm⟩)
   have HC:=ae (Uy io QH.out uf kk b l d q (HRL ah).1 (HRL ah).2 (aio ah).1 (aio ah).2 hn hz (k:=k) fS.out);clear hR hz hn;rw[show et false=0 from rfl];have y0:=aw qn.1 ki.1 gT.1;have y1:=aw qn.1 ki.1 gT.2.1;have y2:=aw qn.1 ki.1 gT.2.2.1;have y3:=aw qn.1 ki.1 gT.2.2.2.1;have y4:=aw qn.1 ki.1 gT.2.2.2.2;go_wp2_with fail;refine HC.mono ?_;rintro e x9 ⟨⟨rfl,QJ⟩,yv,I3,Dl,Lf,okz⟩;have TK:=iY.trans qn.1 qn.2 QJ;have UL:=ae (ap I3 (ap Dl Lf));clear QJ y0 y1 y2 y3 y4 yv I3 Dl Lf;obtain⟨X9,hM9,Bt,hX9⟩:=TK;have HM9:=ae hM9;have pf:=ae Bt;have ia:Hid (∀i∈X9,i∈X\/W1.heap.size<=i):=ae hX9;have oN:=(pf.block bs qI ki.2).trans lV.out;have z0:x9.cell? ⟨bs,0,none⟩=some (.int .i64 0):=js;have z1:x9.cell? ⟨bs,1,none⟩=some (.int .u8 0):=js;have z2:x9.cell? ⟨bs,2,none⟩=some (.int .i64 0):=js;have z3:x9.cell? ⟨bs,3,none⟩=some (.int .i64 0):=js;have z4:x9.cell? ⟨bs,4,none⟩=some (.int .i64 0):=js;have zf: ∀i,x9.frozen? ⟨bs,i,none⟩=false:=λi=>aS _ _ _ _ _ oN;have IY:=zf 0;have IZ:=zf 1;have UB:=zf 2;have UC:=zf 3;have zf4:=zf 4;clear oN zf;clear hM9 Bt hX9;go_wp2_with fail;refine bA (v:=mq 1 0 (n:Nat) (dd:Nat) 0) Lz rfl ⟨⟨?_,X9,?_,?_,?_⟩,?_⟩;·rw[HE.1];rfl
   ·have lX:bs ∉ C::L::X9:=λh=>by
     simp only[dc]at h;rcases h with h|h|h;·exact TG h
     ·have:=jR.out L ah;have:=kX.out;omega
     ·rcases ia.out _ h with h|h;·have:=jR.out bs fO;have:=kX.out;omega
      ·have:=(bU lV.out);omega
    rw[HE.2.1,HE.2.2.1,HE.2.2.2];exact((((HM9.bS lX _).bS lX _).bS lX _).bS lX _).bS lX _
   ·have h0:aM (C::L::X) w x9:=(aM.cJ bF.out).trans pf.out (λi hi=> .inl hi);have hn:bs∈C::L::X\/w.heap.size<=bs:= .inr (av kX.out);exact((((h0.setCell (p:=⟨bs,0,none⟩) hn _).setCell (p:=⟨bs,1,none⟩) hn _).setCell (p:=⟨bs,2,none⟩) hn _).setCell (p:=⟨bs,3,none⟩) hn _).setCell (p:=⟨bs,4,none⟩) hn _
   ·intro i hi;rcases ia.out i hi with h|h;·exact .inl h
    ·exact .inr (a8 bF.size h)
   ·rw[<-HQ.out,HE.1,HE.2.1,HE.2.2.1,HE.2.2.2];have:=UL.out;exact⟨ah,ah,by show n<=273;omega,by show(dd:Int)<=4294967296;omega,by split<;>omega,HGR.front aa aa,okz⟩
  | true=>
   have hR:=qy.out;simp only[Bool.true_eq_false,if_false]at hR;obtain⟨⟨⟨wh,n⟩,Z2⟩,hz⟩: ∃q',Md.zt io st p l q y2=q':=⟨_,rfl⟩
   simp only[hz]at hR;have HE:Hid (s'=⟨2,0,n,0,wh⟩/\st'=(if st<7 then(if n=1 then 9 else 8)else 11)/\r'=ie r wh (r4 r.1 r.2.1 r.2.2.1 r.2.2.2 wh)/\Z=Z2):=ae (by
    injection hR with e1 e2;injection e2 with e2 e3;injection e3 with e3 e4;exact⟨e1.symm,e2.symm,e3.symm,e4.symm⟩)
   have HC:=ae (z' io QH.out da uf kk b l d q (HRL ah).1 (HRL ah).2 hz (k:=k) (io.le fS.out aa));clear hR hz;rw[show et true=1 from rfl];have y0:=aw qn.1 ki.1 gT.1;have y1:=aw qn.1 ki.1 gT.2.1;have y2:=aw qn.1 ki.1 gT.2.2.1;have y3:=aw qn.1 ki.1 gT.2.2.2.1;have y4:=aw qn.1 ki.1 gT.2.2.2.2;go_wp2_with fail;refine HC.mono ?_;rintro e x9 ⟨⟨rfl,QJ⟩,hwh,DE,I3,hnw,okz⟩;have TK:=iY.trans qn.1 qn.2 QJ;have UL:=ae (ap hwh I3);clear QJ y0 y1 y2 y3 y4 hwh DE I3 hnw;obtain⟨X9,hM9,Bt,hX9⟩:=TK;have HM9:=ae hM9;have pf:=ae Bt;have ia:Hid (∀i∈X9,i∈X\/W1.heap.size<=i):=ae hX9;have oN:=(pf.block bs qI ki.2).trans lV.out;have z0:x9.cell? ⟨bs,0,none⟩=some (.int .i64 0):=js;have z1:x9.cell? ⟨bs,1,none⟩=some (.int .u8 0):=js;have z2:x9.cell? ⟨bs,2,none⟩=some (.int .i64 0):=js;have z3:x9.cell? ⟨bs,3,none⟩=some (.int .i64 0):=js;have z4:x9.cell? ⟨bs,4,none⟩=some (.int .i64 0):=js;have zf: ∀i,x9.frozen? ⟨bs,i,none⟩=false:=λi=>aS _ _ _ _ _ oN;have IY:=zf 0;have IZ:=zf 1;have UB:=zf 2;have UC:=zf 3;have zf4:=zf 4;clear oN zf;clear hM9 Bt hX9;go_wp2_with fail;refine bA (v:=mq 2 0 (n:Nat) 0 (wh:Nat)) Lz rfl ⟨⟨?_,X9,?_,?_,?_⟩,?_⟩;·rw[HE.1];rfl
   ·have lX:bs ∉ C::L::X9:=λh=>by
     simp only[dc]at h;rcases h with h|h|h;·exact TG h
     ·have:=jR.out L ah;have:=kX.out;omega
     ·rcases ia.out _ h with h|h;·have:=jR.out bs fO;have:=kX.out;omega
      ·have:=(bU lV.out);omega
    rw[HE.2.1,HE.2.2.1,HE.2.2.2];exact((((HM9.bS lX _).bS lX _).bS lX _).bS lX _).bS lX _
   ·have h0:aM (C::L::X) w x9:=(aM.cJ bF.out).trans pf.out (λi hi=> .inl hi);have hn:bs∈C::L::X\/w.heap.size<=bs:= .inr (av kX.out);exact((((h0.setCell (p:=⟨bs,0,none⟩) hn _).setCell (p:=⟨bs,1,none⟩) hn _).setCell (p:=⟨bs,2,none⟩) hn _).setCell (p:=⟨bs,3,none⟩) hn _).setCell (p:=⟨bs,4,none⟩) hn _
   ·intro i hi;rcases ia.out i hi with h|h;·exact .inl h
    ·exact .inr (a8 bF.size h)
   ·rw[<-HQ.out,HE.1,HE.2.1,HE.2.2.1,HE.2.2.2];have:=UL.out;exact⟨ah,by show wh<=3;omega,by show n<=273;omega,ah,by split;split<;>omega;omega,HGR.front (HGR.at_ wh).1 (HGR.at_ wh).2,okz⟩
theorem Jd(hM:dp w C L lc lp pb st r P):Calls prog 150 #[PF C] w (Ef r.val w):=by obtain⟨_,_,_,_,c4,c5,c6,c7⟩:=hM.cells;have aV:=hM.Hq;clear hM;go_enter func150,ntmps150;go_wp2_with fail;refine bA (v:=r.val) (by simp[results,results150,go_sem]) rfl ⟨rfl,?_⟩;exact az
def ro(lc lp pb:Int):Bool:=decide ((0<=lc/\lc<=4)/\(0<=lp/\lp<=4)/\(0<=pb/\pb<=4)/\lc+lp<=4)
def mA(n:Int):Bool:=decide (0<=n/\n<=4)
theorem xQ(n:Int)(w:Lo):Calls prog 159 #[.int .i64 n] w λe w'=>e= .returned (.bool (mA n))/\w=w':=by
 by_cases h0:0<=n;·have HS:Hid (mA n=decide (n<=4)):=ae (by unfold mA;exact decide_eq_decide.2 aa);rw[HS.out];go_enter func159,ntmps159;go_wp2;go_ret;exact⟨rfl,rfl⟩
 ·have HS:Hid (mA n=false):=ae (by unfold mA;exact du aa);rw[HS.out];go_enter func159,ntmps159;go_wp2;go_ret;exact⟨rfl,rfl⟩
theorem tI(lc lp pb:Int)(w:Lo):Calls prog 120 #[.int .i64 lc,.int .i64 lp,.int .i64 pb] w λe w'=>e= .returned (.bool (ro lc lp pb))/\w=w':=by
 have sD:=ae (xQ lc w);have iy:=ae (xQ lp w);have Hm:=ae (xQ pb w);have⟨R,hR⟩:=ex (ro lc lp pb);rw[hR];have HR:=ae hR;clear hR;by_cases h1:0<=lc/\lc<=4;case neg=>have e1:mA lc=false:=du h1;rw[e1]at sD;have Ij:Hid (R=false):=ae (by rw[<-HR.out];exact du aa);clear h1 e1;go_enter func120,ntmps120;go_wp2_with fail;refine sD.mono ?_;rintro e w1 ⟨rfl,rfl⟩;go_wp2;go_ret;exact⟨kB,rfl⟩
 case pos=>
  have e1:mA lc=true:=iz h1;rw[e1]at sD;by_cases h2:0<=lp/\lp<=4;case neg=>have e2:mA lp=false:=du h2;rw[e2]at iy;have Ij:Hid (R=false):=ae (by rw[<-HR.out];exact du aa);clear h1 e1 h2 e2;go_enter func120,ntmps120;go_wp2_with fail;refine sD.mono ?_;rintro e w1 ⟨rfl,rfl⟩;go_wp2_with fail;refine iy.mono ?_;rintro e w1 ⟨rfl,rfl⟩;go_wp2;go_ret;exact⟨kB,rfl⟩
  case pos=>
   have e2:mA lp=true:=iz h2;rw[e2]at iy;by_cases h3:0<=pb/\pb<=4;case neg=>have e3:mA pb=false:=du h3;rw[e3]at Hm;have Ij:Hid (R=false):=ae (by rw[<-HR.out];exact du aa);clear h1 e1 h2 e2 h3 e3;go_enter func120,ntmps120;go_wp2_with fail;refine sD.mono ?_;rintro e w1 ⟨rfl,rfl⟩;go_wp2_with fail;refine iy.mono ?_;rintro e w1 ⟨rfl,rfl⟩;go_wp2_with fail;refine Hm.mono ?_;rintro e w1 ⟨rfl,rfl⟩;go_wp2;go_ret;exact⟨kB,rfl⟩
   case pos=>have e3:mA pb=true:=iz h3;rw[e3]at Hm;have Ij:Hid (R=decide (lc+lp<=4)):=ae (by rw[<-HR.out];exact decide_eq_decide.2 aa);obtain⟨h1a,i_⟩:=h1;obtain⟨h2a,h2b⟩:=h2;clear e1 e2 h3 e3;go_enter func120,ntmps120;go_wp2_with fail;refine sD.mono ?_;rintro e w1 ⟨rfl,rfl⟩;go_wp2_with fail;refine iy.mono ?_;rintro e w1 ⟨rfl,rfl⟩;go_wp2_with fail;refine Hm.mono ?_;rintro e w1 ⟨rfl,rfl⟩;go_wp2;go_ret;exact⟨kB,rfl⟩
def mB(v:Value):List Value:=List.replicate 432 (.int .u16 0)++(v::List.replicate 1620 (.int .u16 0))
theorem Je(a b c:Int):(((((((zeroCells171.setIfInBounds 0 (Value.int .i64 a)).setIfInBounds 1 (Value.int .i64 b)).setIfInBounds 2 (Value.int .i64 c)).setIfInBounds 4 (Value.int .i64 1)).setIfInBounds 5 (Value.int .i64 1)).setIfInBounds 6 (Value.int .i64 1)).setIfInBounds 7 (Value.int .i64 1))=
  ([Value.int .i64 a,.int .i64 b,.int .i64 c,.int .i64 0,.int .i64 1,.int .i64 1,.int .i64 1,.int .i64 1]++mB (.slice none 0 0)).toArray:=by
 kernel_rfl
theorem DP{base size:Nat}{t:TypeId}{xs:List Value}(h:w.ownsRow base t size (.slice (some ⟨g,0,none⟩) n n) n xs):w.heap[g]? =some (.cells xs.toArray t (0,0))/\base<=g:=by
 obtain⟨hl,⟨h,_⟩|⟨g',cap,cur,e,hb,hg,_,_,dF,ht⟩⟩:=h;·cases h
 ·injection e with e1 _ e3;injection e1 with e1;injection e1 with e1;subst e1;subst e3;have:cur.toList=xs:=by rw[<-ht,mZ aH]
  exact⟨by rw[hg,<-this],hb⟩
theorem j_:(prog.info? 317).map (λi=>(i.zero,i.size,i.bytes))=some (some (.agg (Array.replicate 768 (.int .u16 0))),768,1536):=ak
theorem k_(k:Nat):(madeCells (Value.agg (Array.replicate 768 (.int .u16 0))).cells k).toList=List.replicate k (Value.int .u16 0):=by have hz:(Value.agg (Array.replicate 768 (Value.int .u16 0))).cells=Array.replicate 768 (Value.int .u16 0):=rfl;rw[hz];unfold madeCells;refine List.ext_getElem ah λi h1 h2=> ?_;have hi:i%768<768:=Nat.mod_lt _ ar;simp[hi]
theorem MA(v:Value){j:Nat}(hj:j<2053)(fj:j≠432):(mB v)[j]? =some (.int .u16 0):=by
 unfold mB;by_cases h:j<432;·rw[AG (by rw[iH];exact h),List.getElem?_replicate,ax h]
 ·obtain⟨k,rfl⟩: ∃k,j=432+1+k:=⟨j-433,aa⟩
  rw[lH (by rw[iH];omega),iH,show 432+1+k-432=k+1 by omega,List.getElem?_cons_succ,List.getElem?_replicate,ax aa]
theorem MB(v u:Value):(mB v).set 432 u=mB u:=by unfold mB;rw[List.set_append_right _ _ (by rw[iH];exact aF _),iH];rfl
theorem DQ(v:Value):(mB v).length=2053:=by unfold mB;rw[aG,el,iH,iH]
def adJ(w:Lo)(e:Ending)(w':Lo):Prop:=e= .returned (.tuple #[.pointer none,.int .i64 1])/\w'=w
def l_(lc lp pb:Nat)(w:Lo)(e:Ending)(w':Lo):Prop:= ∃C L,e= .returned (.tuple #[PF C,.int .i64 0])/\dp w' C L lc lp pb 0 (1,1,1,1) (λ_=>1024)/\Below w.heap.size w w'/\w.heap.size<=C/\w.heap.size<=L
theorem Vo(lc lp pb:Int)(w:Lo)(h:ro lc lp pb=false):Calls prog 81 #[.int .i64 lc,.int .i64 lp,.int .i64 pb] w (adJ w):=by have HP:=ae (tI lc lp pb w);rw[h]at HP;go_enter func81,ntmps81;go_wp2_with fail;refine HP.mono ?_;rintro e w1 ⟨rfl,rfl⟩;go_wp2;go_ret2;exact⟨rfl,rfl⟩
theorem Es(lc lp pb:Nat)(w:Lo)(h1:lc<=4)(h2:lp<=4)(h3:pb<=4)(h4:lc+lp<=4):Calls prog 81 #[.int .i64 lc,.int .i64 lp,.int .i64 pb] w (l_ lc lp pb w):=by
 have HP:=ae (tI (lc:Nat) (lp:Nat) (pb:Nat) w);rw[show ro (lc:Nat) (lp:Nat) (pb:Nat)=true from iz aa]at HP;have MC:=Je (lc:Nat) (lp:Nat) (pb:Nat);have⟨cs,hcs⟩:=ex (([Value.int .i64 lc,.int .i64 lp,.int .i64 pb,.int .i64 0,.int .i64 1,.int .i64 1,.int .i64 1,.int .i64 1]++mB (.slice none 0 0)).toArray);rw[hcs]at MC;have Ao:=ae hcs;have HBU:=ae MC;clear hcs MC;have⟨N,hN⟩:=ex (2^(lc+lp));have axZ:N<=16:=by rw[<-hN];exact fk (by decide:0<2) h4
 have Hp:wrap64 (2^(lc+lp))=(N:Int):=by rw[show(2:Int)^(lc+lp)=((2^(lc+lp):Nat):Int) by simp,hN];unfold wrap64;omega
 obtain⟨i,hi,hz⟩:=Option.map_eq_some_iff.1 j_;injection hz with qw hz;injection hz with kC me;have Zd:i.bytes*N<=281474976710656:=qL;have vu:N<=maxLen:=iJ;have HN:=ae hN;have aiX:(lc:Int)<=4:=aa;have aiY:(lp:Int)<=4:=aa;clear hN h4;go_enter func81,ntmps81;go_wp2_with fail;refine HP.mono ?_;rintro e w1 ⟨rfl,rfl⟩;go_upto_region 4 with fail;rw[HBU.out];have⟨W1,ek⟩:=ex (w.alloc (.cells cs 171));have yx:W1.heap[w.heap.size]? =some (.cells cs 171 (0,0)):=by rw[<-ek];exact bz w _
 have dF:W1.heap.size=w.heap.size+1:=xt;have xd:=ae ek;have uW:=ae yx;have il:=ae dF;have bF:Hid (Below w.heap.size w W1):=ae AV;rw[xd.out];clear ek yx dF;go_wp2_with (at_make;refine wpList_make_full W1 rfl (.tmp 24) (.tmp 24) 157 rfl W1.heap.size 317 i (.agg (Array.replicate 768 (.int .u16 0))) 768 underlying157 hi qw kC .i64 .i64 _ _ N rfl rfl Hp Hp Zd vu (aF _) ?_;intro w2 aL gB;rw[k_]at aL;obtain⟨hh2,Dk⟩:=DP aL;have aK:=(gB.block w.heap.size (by rw[il.out];omega) ah).trans uW.out;have apq:w2.cell? ⟨w.heap.size,440,none⟩=some (.slice none 0 0):=(by rw[aC w2 _ _ _ _ _ aK,<-Ao.out];simp[mB]);have ax0:w2.frozen? ⟨w.heap.size,440,none⟩=false:=aS _ _ _ _ _ aK;have HH2:=ae hh2;have dG:=ae aK;have HG2:=ae gB;clear aL hh2 Dk aK gB)
 go_ret2;have dF:=il.out;have fj:w.heap.size≠W1.heap.size:=aa;have aY:(w2.setCell ⟨w.heap.size,440,none⟩ (.slice (some ⟨W1.heap.size,0,none⟩) (N:Nat) (N:Nat))).heap[w.heap.size]? =some (.cells (dO lc lp pb 0 (1,1,1,1)++mB (.slice (some ⟨W1.heap.size,0,none⟩) N N)).toArray 171 (0,0)):=by have h:=dG.out;rw[<-Ao.out]at h;rw[heap_set h,List.set_append_right _ _ ah];rw[show 440-([Value.int .i64 lc,.int .i64 lp,.int .i64 pb,.int .i64 0,.int .i64 1,.int .i64 1,.int .i64 1,.int .i64 1]:List Value).length=432 from rfl,MB];rfl
 have vC:(w2.setCell ⟨w.heap.size,440,none⟩ (.slice (some ⟨W1.heap.size,0,none⟩) (N:Nat) (N:Nat))).heap[W1.heap.size]? =some (.cells (List.replicate (N*768) (Value.int .u16 0)).toArray 317 (0,0)):=(af _ _ _ _ (λe=>fj e.symm)).trans HH2.out;refine⟨w.heap.size,W1.heap.size,rfl,⟨⟨_,aY,DQ _⟩,⟨_,vC,by simp;rw[<-HN.out];omega⟩,?_,fj,λi hi=>⟨0,?_,rfl⟩,λi=>ar⟩,?_,aF _,aa⟩;·rw[HN.out];exact World.cell?_setCell_same _ _ _ apq
 ·rw[HN.out]at hi;unfold Md.used at hi;by_cases h3:i<2180;·have ha:Md.qk w.heap.size W1.heap.size i=⟨w.heap.size,Md.ic i,none⟩:=(by unfold Md.qk Md.iK;rw[ax h3]);have hk:8<=Md.ic i/\Md.ic i-8<2053/\Md.ic i-8≠432:=(by unfold Md.ic;by_cases a1:i<432<;>by_cases a2:i<1844<;>simp only[a1,a2,h3,if_true,if_false]<;>omega);rw[ha,aC _ _ _ _ _ _ aY,List.getElem?_toArray,lH (by simpa using hk.1)];exact MA _ hk.2.1 hk.2.2
  ·have ha:Md.qk w.heap.size W1.heap.size i=⟨W1.heap.size,i-2180,none⟩:=(by unfold Md.qk Md.iK Md.ic;rw[au h3,au aa,au aa,au h3]);rw[ha,aC _ _ _ _ _ _ vC,List.getElem?_toArray,List.getElem?_replicate,ax aa];rfl
 ·exact(am bF.out HG2.out bF.size ah).setCell (aF _) _
theorem Py{W1:Lo}{v0 v1 v2 v3 v4:Value}(h:w.alloc (.cells #[v0,v1,v2,v3,v4] 183)=W1):
  W1.cell? ⟨w.heap.size,0,none⟩=some v0/\W1.cell? ⟨w.heap.size,1,none⟩=some v1/\W1.cell? ⟨w.heap.size,2,none⟩=some v2/\W1.cell? ⟨w.heap.size,3,none⟩=some v3/\W1.cell? ⟨w.heap.size,4,none⟩=some v4/\Below w.heap.size w W1:=by
 have h0:W1.heap[w.heap.size]? =some (.cells [v0,v1,v2,v3,v4].toArray 183 (0,0)):=by rw[<-h];exact bz w _
 refine⟨?_,?_,?_,?_,?_,by rw[<-h];exact az⟩<;>(rw[aC W1 _ _ _ _ _ h0];rfl)
theorem Jh(hM:dp w C L lc lp pb st r P)(A:As)(n c:Nat)(hn:n<=1000000000)(k:Int)(b:UInt8)(l d q:Int):
  Calls prog 194 #[PF C,.slice A n c,mq k b l d q] w (Ef (.bool (kt r (n:Int) k l d q)) w):=by
 have⟨R,hR⟩:=ex (kt r (n:Int) k l d q);rw[hR];have HR:=ae hR;clear hR;have hmn:min (n:Int) 4294967295=(n:Int):=aa;obtain⟨_,_,_,_,m0,m1,m2,m3⟩:=hM.cells;have HM:=ae (ap m0 (ap m1 (ap m2 (ap m3 hM.Hq))));have xg:=ae hn;clear hM m0 m1 m2 m3 hn;have hl:(l<2/\ ¬l=1)\/l=1\/(2<=l/\l<=273)\/(2<=l/\ ¬l<=273):=aa;have Lh:QR r 0=r.1:=rfl;have qj:QR r 1=r.2.1:=rfl;have nR:QR r 2=r.2.2.1:=rfl;have xM:QR r 3=r.2.2.2:=rfl;by_cases qp:k=2
 ·subst qp;have hq:q<0\/4<=q\/(q=0/\r.1<=(n:Int))\/(q=0/\ ¬r.1<=(n:Int))\/(q=1/\r.2.1<=(n:Int))\/(q=1/\ ¬r.2.1<=(n:Int))\/(q=2/\r.2.2.1<=(n:Int))\/(q=2/\ ¬r.2.2.1<=(n:Int))\/(q=3/\r.2.2.2<=(n:Int))\/(q=3/\ ¬r.2.2.2<=(n:Int)):=aa;have⟨W1,ek⟩:=ex (w.alloc (.cells #[.int .i64 2,.int .u8 b.toNat,.int .i64 l,.int .i64 d,.int .i64 q] 183));obtain⟨y0,y1,y2,y3,y4,fE⟩:=Py ek;have HY:=ae (ap y0 (ap y1 (ap y2 (ap y3 (ap y4 (ap ((fE.cell (p:=⟨C,4,none⟩) HM.2.2.2.2).trans HM.1) (ap ((fE.cell (p:=⟨C,5,none⟩) HM.2.2.2.2).trans HM.2.1) (ap ((fE.cell (p:=⟨C,6,none⟩) HM.2.2.2.2).trans HM.2.2.1) ((fE.cell (p:=⟨C,7,none⟩) HM.2.2.2.2).trans HM.2.2.2.1)))))))));have vH:=ae fE;have xd:=ae ek;clear fE ek y0 y1 y2 y3 y4;rcases hl with⟨g1,g2⟩|rfl|⟨g1,g2⟩|⟨g1,g2⟩<;>rcases hq with q0|q4|⟨rfl,gn⟩|⟨rfl,gn⟩|⟨rfl,gn⟩|⟨rfl,gn⟩|⟨rfl,gn⟩|⟨rfl,gn⟩|⟨rfl,gn⟩|⟨rfl,gn⟩
  all_goals try(have g1n: ¬(2:Int)<=l:=by omega)
  all_goals try(have g3b:(l==1)=false:=by rw[gQ];omega)
  all_goals try(have hlf: ¬(2<=l/\l<=273):=by omega)
  all_goals try(have q0n: ¬(0:Int)<=q:=by omega)
  all_goals try(have q4n: ¬q<4:=by omega)
  all_goals try(have q4m:(0:Int)<=q:=by omega)
  all_goals
   go_enter func194,ntmps194;go_upto_region 8 with fail;rw[xd.out];obtain⟨y0,y1,y2,y3,y4,m0,m1,m2,m3⟩:=HY.out;go_quiet (fail);go_wp2;go_ret;exact⟨by rw[<-HR.out];refine aR (λx=>Ending.returned (.bool x)) ?_;symm;unfold kt;first|(simp;done)|(simp;omega)|(rw[ax rfl];exact decide_eq_decide.2 (av xg.out))|(rw[Lh];simp;omega)|(rw[qj];simp;omega)|(rw[nR];simp;omega)|(rw[xM];simp;omega)|(rw[qj];simp;done)|(rw[nR];simp;done)|(rw[xM];simp;done)|(rw[au k1,au qp];simp[k0]),below_drewN vH.out _⟩
 ·have hk:k=0\/(k=1/\1<=d)\/(k=1/\ ¬1<=d)\/(¬k=0/\ ¬k=1):=by omega
  rcases hl with⟨g1,g2⟩|rfl|⟨g1,g2⟩|⟨g1,g2⟩<;>rcases hk with rfl|⟨rfl,hd⟩|⟨rfl,hd⟩|⟨k0,k1⟩
  all_goals try(have g1n: ¬(2:Int)<=l:=by omega)
  all_goals try(have g3b:(l==1)=false:=by rw[gQ];omega)
  all_goals try(have hlf: ¬(2<=l/\l<=273):=by omega)
  all_goals try(have k0b:(k==0)=false:=by rw[gQ];exact k0)
  all_goals try(have k1b:(k==1)=false:=by rw[gQ];exact k1)
  all_goals try(have k2b:(k==2)=false:=by rw[gQ];exact qp)
  all_goals
   go_enter func194,ntmps194;go_wp2;go_ret;exact⟨by rw[<-HR.out];refine aR (λx=>Ending.returned (.bool x)) ?_;symm;unfold kt;first|(simp;done)|(simp;omega)|(rw[ax rfl];exact decide_eq_decide.2 (av xg.out))|(rw[Lh];simp;omega)|(rw[qj];simp;omega)|(rw[nR];simp;omega)|(rw[xM];simp;omega)|(rw[qj];simp;done)|(rw[nR];simp;done)|(rw[xM];simp;done)|(rw[au k1,au qp];simp[k0]),az⟩
theorem nw{n k l q:Int}(h:kt r n k l d q=true):k=0\/(k=1/\2<=l/\l<=273/\1<=d/\d<=n/\d<=4294967295)\/(k=2/\0<=q/\q<=3/\QR r q<=n/\((2<=l/\l<=273)\/(l=1/\q=0))):=by
 unfold kt at h;by_cases k1:k=1;·rw[ax k1]at h;exact .inr (.inl ⟨k1,of_decide_eq_true h⟩)
 ·rw[au k1]at h;by_cases k2:k=2;·rw[ax k2]at h;exact .inr (.inr ⟨k2,of_decide_eq_true h⟩)
  ·rw[au k2]at h;exact .inl (of_decide_eq_true h)
theorem o_{x:(ao g).S}(hM:MS (ao g) w C L lc lp pb st r x X)(lj:lc<=4)(Dn:lp<=4)(DG:pb<=4)(da:st<12)(hr:fp r)(A:As)(H:An)(c:Nat)(hB:Bytes w A H)(hc:H.length<=c)(hH:H.length<=1000000000)(hHX: ∀a,A=some a->a.block ∉ C::L::X)
  (kk:Int) (b:UInt8) (l d q:Int) (hf:kt r (H.length:Int) kk l d q=true) {s':Sy} {st':Nat} {r':R4} {Z:(ao g).S} (hR:Md.sym (ao g) lc lp pb st r H kk b l d q x=(s',st',r',Z)) (bK:(ao g).ok x.2 (k+54)):
  Calls prog 152 #[PF C,PF g,.slice A H.length c,mq kk b l d q] w (ph (s'.k<=2/\s'.r<=3/\s'.l<=273/\(s'.d:Int)<=4294967296/\st'<12/\fp r'/\(ao g).ok Z.2 k) (lK (.int .i64 0) (ao g) C L lc lp pb st' r' Z X w)):=by
 have⟨Q,hQ⟩:=ex ((s'.k<=2/\s'.r<=3/\s'.l<=273/\(s'.d:Int)<=4294967296/\st'<12/\fp r'/\(ao g).ok Z.2 k));rw[hQ];have HQ:=ae hQ;clear hQ;have⟨W1,ek⟩:=ex (w.alloc (.cells #[.int .i64 kk,.int .u8 b.toNat,.int .i64 l,.int .i64 d,.int .i64 q] 183));obtain⟨y0,y1,y2,y3,y4,fE⟩:=Py ek;have ij:=hM.below fE;have HP:=ae (Jh ij.mod A H.length c hH kk b l d q);rw[hf]at HP;have oo:=nw hf;have HC:=ae (fun(w2:Lo) (aK:aq W1 w2)=>ado (ao g) (ij.below aK) lj Dn DG da hr A H c ((hB.below fE).below aK) hc hH hHX kk b l d q (by
   intro h;have hk:kk≠0:=λe=>(by subst e;simp[Io.aD,ao]at h);rcases oo with e|⟨e,h1⟩|⟨e,h1⟩
   ·exact absurd e hk
   ·omega
   ·omega) (by
   intro h h2;have hk:kk=1:=by
    by_cases e:kk=1;·exact e
    ·simp[Io.aD,ao,e]at h2
   rcases oo with e|⟨e,h1⟩|⟨e,h1⟩
   ·omega
   ·omega
   ·omega) hR bK)
 have HB:=ae fE;have xd:=ae ek;have gT:=ae (ap y0 (ap y1 (ap y2 (ap y3 y4))));have zm:Hid (w.heap.size<W1.heap.size):=ae xt;clear hM fE ek hf ij hB oo hR bK hHX hr y0 y1 y2 y3 y4;have hqq:=gT.out;obtain⟨y0,y1,y2,y3,y4⟩:=hqq;go_enter func152,ntmps152;go_upto_region 1 with fail;rw[xd.out];go_wp2_with fail;refine HP.mono ?_;rintro e w2 ⟨rfl,aK⟩;have z0:=(aK.cell (p:=⟨w.heap.size,0,none⟩) zm.out).trans y0;have z1:=(aK.cell (p:=⟨w.heap.size,1,none⟩) zm.out).trans y1;have z2:=(aK.cell (p:=⟨w.heap.size,2,none⟩) zm.out).trans y2;have z3:=(aK.cell (p:=⟨w.heap.size,3,none⟩) zm.out).trans y3;have z4:=(aK.cell (p:=⟨w.heap.size,4,none⟩) zm.out).trans y4;have dG:=ae aK;clear aK y0 y1 y2 y3 y4;go_wp2_with fail;refine(HC w2 dG.out).mono ?_;rintro e w3 ⟨⟨rfl,X3,oO,dB,tG⟩,p_⟩;have U7:=ae oO;have vI:=ae (ap dB tG);have q_:=ae p_;clear oO dB tG p_;go_wp2;go_ret;have ld:=aQ HB.out dG.out;refine⟨⟨rfl,X3,U7.out,(aM.cJ ld).trans vI.1 (λi hi=> .inl hi),λi hi=> ?_⟩,by rw[<-HQ.out];exact q_.out⟩;rcases vI.2 i hi with h|h;·exact .inl h
 ·exact .inr (a8 ld.size h)
section
abbrev PS:=(Nat->Nat)×Rc.St
abbrev PD:=(Nat->Nat)×Rd.St
section
variable{S:Rc.St}{L:An}{α β:Type}
variable(hA:ab9 S L)(hS:0<S.r)(hl:5+S.k<=L.length)(ge gd o cap:Nat)
include hA hS hl
end
namespace Md
end Md
section
variable{S:Rc.St}{L:An}(hA:ab9 S L)(hS:0<S.r)(hl:5+S.k<=L.length)(ge gd o cap:Nat)
include hA hS hl
end
end
end Go.Proofs.YtfcaoggfnkhfiaaGreatDoor
