import Derived.Test.YtfcaoggfnkhfiaaGreatDoorZ05
namespace Go.Proofs.YtfcaoggfnkhfiaaGreatDoor
set_option maxRecDepth 100000
set_option maxHeartbeats 8000000
open Go.RowKit Go.Proofs.Tryz
variable{d:Int}{X:List Nat}{C L g k lc lp n pb st:Nat}{P:Nat→Nat}{r:R4}{w:World}
def dI(r:R4):Prop:=(1≤r.1∧1≤r.2.1∧1≤r.2.2.1∧1≤r.2.2.2)∧(r.1≤4294967296∧r.2.1≤4294967296∧r.2.2.1≤4294967296∧r.2.2.2≤4294967296)
theorem dI.front(h:dI r)(h1:1≤d)(h2:d≤4294967296):dI (aY r n d):=by
 obtain⟨⟨a1,a2,a3,a4⟩,b1,b2,b3,b4⟩:=h;unfold aY;split;·exact⟨⟨h1,a2,a3,a4⟩,h2,b2,b3,b4⟩
 ·exact⟨⟨h1,a1,a3,a4⟩,h2,b1,b3,b4⟩
 ·exact⟨⟨h1,a1,a2,a4⟩,h2,b1,b2,b4⟩
 ·exact⟨⟨h1,a1,a2,a3⟩,h2,b1,b2,b3⟩
theorem dI.at_(h:dI r)(n:Nat):1≤r4 r.1 r.2.1 r.2.2.1 r.2.2.2 n∧r4 r.1 r.2.1 r.2.2.1 r.2.2.2 n≤4294967296:=by
 obtain⟨⟨a1,a2,a3,a4⟩,b1,b2,b3,b4⟩:=h;unfold r4;split;·exact⟨a1,b1⟩
 ·exact⟨a2,b2⟩
 ·exact⟨a3,b3⟩
 ·exact⟨a4,b4⟩
theorem Bytes.only{w':World}{A:Option Addr}{l:List UInt8}(h:Bytes w A l)(ho:aw X w w')(hX: ∀a,A=some a→a.block ∉ X):Bytes w' A l:=
 h.aA ho.size fun p hp aH=>by
  have hb:p.block ∉ X:=by
   cases A with
   | none=>simp at hp
   | some a=>simp at hp;rw[←hp];exact hX a rfl
  unfold World.cell?;rw[ho.block _ aH hb]
theorem FG(h:st<12):bW st<12:=by unfold bW;split;omega;split<;>omega
namespace Md
def sym(io:Io)(lc lp pb st:Nat)(r:R4)(H:List UInt8)(k:Int)(b:UInt8)(l d q:Int)(x:io.S):Sy×Nat×R4×io.S:=
 let p:=H.length%2^pb
 let a:=io.au (16*st+p) (k !=0) x
 if a.1=false then
  let z:=lit io lc lp st r.1 H (b.toNat:Nat) a.2
  (⟨0,z.1,0,0,0⟩,bW st,r,z.2)
 else
  let c:=io.au (192+st) (k !=1) a.2
  if c.1=false then
   let n:=len io 432 p l c.2
   let z:=bM io n.1 d n.2
   (⟨1,0,n.1,z.1,0⟩,(if st<7 then 7 else 10),aY r 3 (z.1:Nat),z.2)
  else
   let z:=kP io st p l q c.2
   (⟨2,0,z.1.2,0,z.1.1⟩,(if st<7 then(if z.1.2=1 then 9 else 8)else 11),aY r z.1.1 (r4 r.1 r.2.1 r.2.2.1 r.2.2.2 z.1.1),z.2)
end Md
theorem WY(wn:pb≤4):bits .and .i64 (n:Int) (wrap64 (wrap64 (2^pb)-1))=((n%2^pb:Nat):Int):=by
 have h1:1≤2^pb:=Nat.one_le_two_pow;have h2:2^pb≤2^4:=Nat.pow_le_pow_right aa wn;have e1:wrap64 ((2:Int)^pb)=((2^pb:Nat):Int):=by rw[show(2:Int)^pb=((2^pb:Nat):Int) by simp];exact fW aa aa
 have e2:wrap64 (((2^pb:Nat):Int)-1)=((2^pb-1:Nat):Int):=by rw[fW aa aa];omega
 rw[e1,e2,oT _ _ aa];omega
theorem Rn(io:Io){x:io.S}(hM:MS io w C L lc lp pb st r x X)(si:lc≤4)(ur:lp≤4)(wn:pb≤4)(bQ:st<12)(hr:dI r)(A:Option Addr)(H:List UInt8)(c:Nat)(hB:Bytes w A H)(hc:H.length≤c)(hH:H.length≤1000000000)(hHX: ∀a,A=some a→a.block ∉ C::L::X)
  (kk:Int) (b:UInt8) (l d q:Int) (Fu:(io.au (16*st+H.length%2^pb) (kk !=0) x).1=true→0≤l∧l≤300)
  (sj:(io.au (16*st+H.length%2^pb) (kk !=0) x).1=true→(io.au (192+st) (kk !=1) (io.au (16*st+H.length%2^pb) (kk !=0) x).2).1=false→0≤d∧d≤4294967295) {s':Sy} {st':Nat} {r':R4} {Z:io.S} (hR:Md.sym io lc lp pb st r H kk b l d q x=(s',st',r',Z)) (bL:io.ok x.2 (k+54)):
  Calls prog 195 #[PF C,io.v,.slice A H.length c,tS kk b l d q] w (Dt (s'.k≤2∧s'.r≤3∧s'.l≤273∧(s'.d:Int)≤4294967296∧st'<12∧dI r'∧io.ok Z.2 k) (jR s'.val io C L lc lp pb st' r' Z X w)):=by
 have⟨Q,hQ⟩:=ex ((s'.k≤2∧s'.r≤3∧s'.l≤273∧(s'.d:Int)≤4294967296∧st'<12∧dI r'∧io.ok Z.2 k));rw[hQ];have HQ:=ae hQ;have WZ:=ae hr;have HHX:=ae hHX;clear hQ;have⟨p,Dy⟩:=ex (H.length%2^pb);have aaE:p<16:=by have h1:1≤2^pb:=Nat.one_le_two_pow;have h2:2^pb≤2^4:=Nat.pow_le_pow_right aa wn;have:=Nat.mod_lt H.length h1;omega
 have AK:=WY (n:=H.length) wn;unfold Md.sym at hR;simp only[Dy]at hR AK Fu sj;have AU:(p:Int)<16:=aa;have aez:(st:Int)<12:=aa;have pW:(H.length:Int)≤(c:Int):=aa;have hHi:(H.length:Int)≤1000000000:=aa;have alp:=ae hB;have fG:Hid (∀i∈C::L::X,i<w.heap.size):=ae (by
  intro i hi;simp only[List.mem_cons]at hi;rcases hi with rfl | rfl | hi;·exact hM.mod.Au
  ·exact hM.mod.xS
  ·exact io.lt hM.io i hi)
 have⟨bs,oq⟩:=ex (w.heap.size+1);have iN:=ae oq;clear oq;have⟨W1,fv⟩:=ex ((w.alloc (.cells #[.int .i64 kk,.int .u8 (b.toNat:Nat),.int .i64 l,.int .i64 d,.int .i64 q] 183)).alloc (.cells #[.int .i64 0,.int .u8 0,.int .i64 0,.int .i64 0,.int .i64 0] 183));have az:Below w.heap.size w W1:=by rw[←fv];exact(ar).alloc ag _
 have p7:=hM.below az;obtain⟨VA,mm⟩:=xV fv;rw[iN.out]at mm;have oQ:=ae fv;have qq:=ae p7;have p8:=ae VA;have qC:=ae mm;have a7:=ae az;have ne1:C≠bs:=fun e=>by have:=fG.out C ag;have:=iN.out;omega
 have Ra:bs≠C:=fun e=>ne1 e.symm;have kO:Hid (w.heap.size ∉ C::L::X∧bs ∉ C::L::X):=ae ⟨fun h=>am (fG.out _ h),fun h=>CW⟩;clear fv p7 VA mm az hM;have ou:=ae (alp.out.below a7.out);obtain⟨⟨B,y⟩,hy⟩: ∃z,io.au (16*st+p) (kk !=0) x=z:=⟨_,rfl⟩
 obtain⟨h1,sB⟩:=m8 io (qq.out.drewN 1) hy (at_:=16*st) (j:=p) (len:=16) (cp:=16) (b:=C) (off:=8+st*16) rfl (k:=k+53) bL (Md.mB aa aa) aaE aa aa;simp only[hy]at hR Fu sj;have ET:=ae Fu;have EU:=ae sj;clear Fu sj;have H1:=ae h1;have oU:=ae sB;have HR:=ae hR;have aax:Hid (aw (C::L::X) W1 W1∧ ∀i∈X,i∈X∨W1.heap.size≤i):=ae ⟨aw.refl _ _,fun i hi=> .inl hi⟩;have c2:=qq.out.mod.cells.2.2.1;have bw:=And.intro qq.out.mod.cells.2.2.2.1 p8.out.1;have HP:=ae Dy;clear hy hR h1 sB bL Dy hB hr hHX;go_enter func195,ntmps195;go_upto_region 1 with fail;rw[oQ.out,iN.out];go_upto_region 5 with fail;refine wp_region_held_drew (S:=fun w2=>w2.cell? ⟨C,3,none⟩=some (.int .i64 (st:Nat))∧w2.cell? ⟨w.heap.size,0,none⟩=some (.int .i64 kk)) ai bw (fun hS=> ?_);refine af 0 hS (h:=af 1 hS (h:=af 2 hS (h:=af 3 hS (h:=af 4 hS (h:=aL 5 hS (h:=af 6 hS (h:=af 7 hS (h:=af 8 hS (h:=af 9 hS (h:=af 10 hS (h:=af 11 hS (h:= ?_))))))))))));refine aL 12 hS (h:=af 13 hS (h:= ?_));refine aC 14 (fun K hK=> ?_);go_simp;refine H1.out.mono ?_;rintro e x1 ⟨rfl,Rf⟩;obtain⟨X1,I0,BT,Rg⟩:=bK aax.out Rf;have I1:=ae I0;have sG:=ae (And.intro BT Rg);have ZR:=And.intro I0.mod.cells.2.2.2.1 (aI BT kO.out.1 p8.out.1);clear I0 BT Rg Rf;go_wp2_with fail;refine hK.out _ _ ZR (fun _=> ?_);clear hK K;refine af 15 ZR (h:=af 16 ZR (h:= ?_));refine wpAnyH_done ai ?_ _;clear hS bw H1 c2 ZR;cases B with
 | false=>
  have hR:=HR.out;simp only[if_true]at hR;obtain⟨⟨R,Z2⟩,hz⟩: ∃q,Md.lit io lc lp st r.1 H (b.toNat:Nat) y=q:=⟨_,rfl⟩
  simp only[hz]at hR;have HE:Hid (s'=⟨0,R,0,0,0⟩∧st'=bW st∧r'=r∧Z=Z2):=ae (by
   injection hR with e1 e2;injection e2 with e2 e3;injection e3 with e3 e4;exact⟨e1.symm,e2.symm,e3.symm,e4.symm⟩)
  have HC:=ae (aaA io I1.out si ur bQ WZ.out.1.1 A H c (ou.out.only sG.out.1 HHX.out) hc hH kk b l d q hz (k:=k) (io.le oU.out aa));clear hR hz;rw[show de false=0 from rfl];have y0:=aI sG.out.1 kO.out.1 p8.out.1;have y1:=aI sG.out.1 kO.out.1 p8.out.2.1;have y2:=aI sG.out.1 kO.out.1 p8.out.2.2.1;have y3:=aI sG.out.1 kO.out.1 p8.out.2.2.2.1;have y4:=aI sG.out.1 kO.out.1 p8.out.2.2.2.2;go_wp2_with fail;refine HC.out.mono ?_;rintro e x9 ⟨⟨rfl,M4⟩,okz⟩;have W7:=gy.trans sG.out.1 sG.out.2 M4;clear M4 y0 y1 y2 y3 y4;obtain⟨X9,I4,uu,ZX⟩:=W7;have HM9:=ae I4;have kg:=ae uu;have mg:Hid (∀i∈X9,i∈X∨W1.heap.size≤i):=ae ZX;have mm:=(kg.out.block bs oz kO.out.2).trans qC.out;have z0:x9.cell? ⟨bs,0,none⟩=some (.int .i64 0):=gW;have z1:x9.cell? ⟨bs,1,none⟩=some (.int .u8 0):=gW;have z2:x9.cell? ⟨bs,2,none⟩=some (.int .i64 0):=gW;have z3:x9.cell? ⟨bs,3,none⟩=some (.int .i64 0):=gW;have z4:x9.cell? ⟨bs,4,none⟩=some (.int .i64 0):=gW;have zf: ∀i,x9.frozen? ⟨bs,i,none⟩=false:=fun i=>frozen_of_row _ _ _ _ _ mm;have EO:=zf 0;have EP:=zf 1;have EQ:=zf 2;have ER:=zf 3;have zf4:=zf 4;clear mm zf;clear I4 uu ZX;go_wp2_with fail;refine bodyPost_ret (v:=tS 0 R 0 0 0) Im rfl ⟨⟨?_,X9,?_,?_,?_⟩,?_⟩;·rw[HE.out.1];rfl
  ·have ke:bs ∉ C::L::X9:=fun h=>by
    simp only[List.mem_cons]at h;rcases h with h | h | h;·exact Ra h
    ·have:=fG.out L ag;have:=iN.out;omega
    ·rcases mg.out _ h with h | h;·have:=fG.out bs dD;have:=iN.out;omega
     ·have:=(cr qC.out);omega
   rw[HE.out.2.1,HE.out.2.2.1,HE.out.2.2.2];exact((((HM9.out.bj ke _).bj ke _).bj ke _).bj ke _).bj ke _
  ·have h0:aw (C::L::X) w x9:=(aw.aF a7.out).trans kg.out (fun i hi=> .inl hi);have hn:bs∈C::L::X∨w.heap.size≤bs:= .inr (am iN.out);exact((((h0.setCell (p:=⟨bs,0,none⟩) hn _).setCell (p:=⟨bs,1,none⟩) hn _).setCell (p:=⟨bs,2,none⟩) hn _).setCell (p:=⟨bs,3,none⟩) hn _).setCell (p:=⟨bs,4,none⟩) hn _
  ·intro i hi;rcases mg.out i hi with h | h;·exact .inl h
   ·exact .inr (Nat.le_trans a7.out.size h)
  ·rw[←HQ.out,HE.out.1,HE.out.2.1,HE.out.2.2.1,HE.out.2.2.2];exact⟨ag,ag,ag,ag,FG bQ,WZ.out,okz⟩
 | true=>
  have hR:=HR.out;simp only[Bool.true_eq_false,if_false]at hR;obtain⟨⟨B2,y2⟩,hy⟩: ∃z,io.au (192+st) (kk !=1) y=z:=⟨_,rfl⟩
  obtain⟨h1,sB⟩:=m8 io (I1.out.drewN 1) hy (at_:=192) (j:=st) (len:=12) (cp:=12) (b:=C) (off:=200) rfl (k:=k+52) oU.out (Md.mB rfl aa) bQ aa aa;have sj:=EU.out ag;simp only[hy]at hR sj;have aeO:=ae sj;clear sj;have H2:=ae h1;have kN:=ae sB;have AX:=ae hR;have bw:=And.intro I1.out.mod.cells.2.2.2.1 (aI sG.out.1 kO.out.1 p8.out.1);clear hy hR h1 sB;rw[show de true=1 from rfl];go_upto_region 7 with fail;refine wp_region_held_drew (S:=fun w2=>w2.cell? ⟨C,3,none⟩=some (.int .i64 (st:Nat))∧w2.cell? ⟨w.heap.size,0,none⟩=some (.int .i64 kk)) ai bw (fun hS=> ?_);refine af 0 hS (h:=af 1 hS (h:=af 2 hS (h:=af 3 hS (h:=af 4 hS (h:=af 5 hS (h:=af 6 hS (h:=af 7 hS (h:=aL 8 hS (h:=af 9 hS (h:=aL 10 hS (h:=af 11 hS (h:= ?_))))))))))));refine aC 12 (fun K hK=> ?_);go_simp;refine H2.out.mono ?_;rintro e x2 ⟨rfl,Rh⟩;obtain⟨X2,I2,BU,Ri⟩:=bK sG.out Rh;have M0:=ae I2;have ol:=ae (And.intro BU Ri);have ZS:=And.intro I2.mod.cells.2.2.2.1 (aI BU kO.out.1 p8.out.1);clear I2 BU Ri Rh;go_wp2_with fail;refine hK.out _ _ ZS (fun _=> ?_);clear hK K;refine af 13 ZS (h:=af 14 ZS (h:= ?_));refine wpAnyH_done ai ?_ _;clear hS bw H2 ZS;cases B2 with
  | false=>
   have hR:=AX.out;simp only[if_true]at hR;obtain⟨⟨n,y3⟩,hn⟩: ∃q,Md.len io 432 p l y2=q:=⟨_,rfl⟩
   simp only[hn]at hR;obtain⟨⟨dd,Z2⟩,hz⟩: ∃q,Md.bM io n d y3=q:=⟨_,rfl⟩
   simp only[hz]at hR;have HE:Hid (s'=⟨1,0,n,dd,0⟩∧st'=(if st<7 then 7 else 10)∧r'=aY r 3 (dd:Nat)∧Z=Z2):=ae (by
    injection hR with e1 e2;injection e2 with e2 e3;injection e3 with e3 e4;exact⟨e1.symm,e2.symm,e3.symm,e4.symm⟩)
   have HC:=ae (Q8 io M0.out aaE kk b l d q (ET.out ag).1 (ET.out ag).2 (aeO.out ag).1 (aeO.out ag).2 hn hz (k:=k) kN.out);clear hR hz hn;rw[show de false=0 from rfl];have y0:=aI ol.out.1 kO.out.1 p8.out.1;have y1:=aI ol.out.1 kO.out.1 p8.out.2.1;have y2:=aI ol.out.1 kO.out.1 p8.out.2.2.1;have y3:=aI ol.out.1 kO.out.1 p8.out.2.2.2.1;have y4:=aI ol.out.1 kO.out.1 p8.out.2.2.2.2;go_wp2_with fail;refine HC.out.mono ?_;rintro e x9 ⟨⟨rfl,M4⟩,qt,FH,iz,jz,okz⟩;have W7:=gy.trans ol.out.1 ol.out.2 M4;have HQ9:=ae (And.intro FH (And.intro iz jz));clear M4 y0 y1 y2 y3 y4 qt FH iz jz;obtain⟨X9,I4,uu,ZX⟩:=W7;have HM9:=ae I4;have kg:=ae uu;have mg:Hid (∀i∈X9,i∈X∨W1.heap.size≤i):=ae ZX;have mm:=(kg.out.block bs oz kO.out.2).trans qC.out;have z0:x9.cell? ⟨bs,0,none⟩=some (.int .i64 0):=gW;have z1:x9.cell? ⟨bs,1,none⟩=some (.int .u8 0):=gW;have z2:x9.cell? ⟨bs,2,none⟩=some (.int .i64 0):=gW;have z3:x9.cell? ⟨bs,3,none⟩=some (.int .i64 0):=gW;have z4:x9.cell? ⟨bs,4,none⟩=some (.int .i64 0):=gW;have zf: ∀i,x9.frozen? ⟨bs,i,none⟩=false:=fun i=>frozen_of_row _ _ _ _ _ mm;have EO:=zf 0;have EP:=zf 1;have EQ:=zf 2;have ER:=zf 3;have zf4:=zf 4;clear mm zf;clear I4 uu ZX;go_wp2_with fail;refine bodyPost_ret (v:=tS 1 0 (n:Nat) (dd:Nat) 0) Im rfl ⟨⟨?_,X9,?_,?_,?_⟩,?_⟩;·rw[HE.out.1];rfl
   ·have ke:bs ∉ C::L::X9:=fun h=>by
     simp only[List.mem_cons]at h;rcases h with h | h | h;·exact Ra h
     ·have:=fG.out L ag;have:=iN.out;omega
     ·rcases mg.out _ h with h | h;·have:=fG.out bs dD;have:=iN.out;omega
      ·have:=(cr qC.out);omega
    rw[HE.out.2.1,HE.out.2.2.1,HE.out.2.2.2];exact((((HM9.out.bj ke _).bj ke _).bj ke _).bj ke _).bj ke _
   ·have h0:aw (C::L::X) w x9:=(aw.aF a7.out).trans kg.out (fun i hi=> .inl hi);have hn:bs∈C::L::X∨w.heap.size≤bs:= .inr (am iN.out);exact((((h0.setCell (p:=⟨bs,0,none⟩) hn _).setCell (p:=⟨bs,1,none⟩) hn _).setCell (p:=⟨bs,2,none⟩) hn _).setCell (p:=⟨bs,3,none⟩) hn _).setCell (p:=⟨bs,4,none⟩) hn _
   ·intro i hi;rcases mg.out i hi with h | h;·exact .inl h
    ·exact .inr (Nat.le_trans a7.out.size h)
   ·rw[←HQ.out,HE.out.1,HE.out.2.1,HE.out.2.2.1,HE.out.2.2.2];have:=HQ9.out;exact⟨ag,ag,by show n≤273;omega,by show((dd:Nat):Int)≤4294967296;omega,by split<;>omega,WZ.out.front aa aa,okz⟩
  | true=>
   have hR:=AX.out;simp only[Bool.true_eq_false,if_false]at hR;obtain⟨⟨⟨wh,n⟩,Z2⟩,hz⟩: ∃q',Md.kP io st p l q y2=q':=⟨_,rfl⟩
   simp only[hz]at hR;have HE:Hid (s'=⟨2,0,n,0,wh⟩∧st'=(if st<7 then(if n=1 then 9 else 8)else 11)∧r'=aY r wh (r4 r.1 r.2.1 r.2.2.1 r.2.2.2 wh)∧Z=Z2):=ae (by
    injection hR with e1 e2;injection e2 with e2 e3;injection e3 with e3 e4;exact⟨e1.symm,e2.symm,e3.symm,e4.symm⟩)
   have HC:=ae (WT io M0.out bQ aaE kk b l d q (ET.out ag).1 (ET.out ag).2 hz (k:=k) (io.le kN.out aa));clear hR hz;rw[show de true=1 from rfl];have y0:=aI ol.out.1 kO.out.1 p8.out.1;have y1:=aI ol.out.1 kO.out.1 p8.out.2.1;have y2:=aI ol.out.1 kO.out.1 p8.out.2.2.1;have y3:=aI ol.out.1 kO.out.1 p8.out.2.2.2.1;have y4:=aI ol.out.1 kO.out.1 p8.out.2.2.2.2;go_wp2_with fail;refine HC.out.mono ?_;rintro e x9 ⟨⟨rfl,M4⟩,hwh,FC,FH,hnw,okz⟩;have W7:=gy.trans ol.out.1 ol.out.2 M4;have HQ9:=ae (And.intro hwh FH);clear M4 y0 y1 y2 y3 y4 hwh FC FH hnw;obtain⟨X9,I4,uu,ZX⟩:=W7;have HM9:=ae I4;have kg:=ae uu;have mg:Hid (∀i∈X9,i∈X∨W1.heap.size≤i):=ae ZX;have mm:=(kg.out.block bs oz kO.out.2).trans qC.out;have z0:x9.cell? ⟨bs,0,none⟩=some (.int .i64 0):=gW;have z1:x9.cell? ⟨bs,1,none⟩=some (.int .u8 0):=gW;have z2:x9.cell? ⟨bs,2,none⟩=some (.int .i64 0):=gW;have z3:x9.cell? ⟨bs,3,none⟩=some (.int .i64 0):=gW;have z4:x9.cell? ⟨bs,4,none⟩=some (.int .i64 0):=gW;have zf: ∀i,x9.frozen? ⟨bs,i,none⟩=false:=fun i=>frozen_of_row _ _ _ _ _ mm;have EO:=zf 0;have EP:=zf 1;have EQ:=zf 2;have ER:=zf 3;have zf4:=zf 4;clear mm zf;clear I4 uu ZX;go_wp2_with fail;refine bodyPost_ret (v:=tS 2 0 (n:Nat) 0 (wh:Nat)) Im rfl ⟨⟨?_,X9,?_,?_,?_⟩,?_⟩;·rw[HE.out.1];rfl
   ·have ke:bs ∉ C::L::X9:=fun h=>by
     simp only[List.mem_cons]at h;rcases h with h | h | h;·exact Ra h
     ·have:=fG.out L ag;have:=iN.out;omega
     ·rcases mg.out _ h with h | h;·have:=fG.out bs dD;have:=iN.out;omega
      ·have:=(cr qC.out);omega
    rw[HE.out.2.1,HE.out.2.2.1,HE.out.2.2.2];exact((((HM9.out.bj ke _).bj ke _).bj ke _).bj ke _).bj ke _
   ·have h0:aw (C::L::X) w x9:=(aw.aF a7.out).trans kg.out (fun i hi=> .inl hi);have hn:bs∈C::L::X∨w.heap.size≤bs:= .inr (am iN.out);exact((((h0.setCell (p:=⟨bs,0,none⟩) hn _).setCell (p:=⟨bs,1,none⟩) hn _).setCell (p:=⟨bs,2,none⟩) hn _).setCell (p:=⟨bs,3,none⟩) hn _).setCell (p:=⟨bs,4,none⟩) hn _
   ·intro i hi;rcases mg.out i hi with h | h;·exact .inl h
    ·exact .inr (Nat.le_trans a7.out.size h)
   ·rw[←HQ.out,HE.out.1,HE.out.2.1,HE.out.2.2.1,HE.out.2.2.2];have:=HQ9.out;exact⟨ag,by show wh≤3;omega,by show n≤273;omega,ag,by split;split<;>omega;omega,WZ.out.front (WZ.out.at_ wh).1 (WZ.out.at_ wh).2,okz⟩
theorem oZ(hM:bB w C L lc lp pb st r P):Calls prog 150 #[PF C] w (FD r.val w):=by obtain⟨_,_,_,_,c4,c5,c6,c7⟩:=hM.cells;have aH:=hM.Au;clear hM;go_enter func150,ntmps150;go_wp2_with fail;refine bodyPost_ret (v:=r.val) (by simp[results,results150,go_sem]) rfl ⟨rfl,?_⟩;exact ar
def jT(lc lp pb:Int):Bool:=decide ((0≤lc∧lc≤4)∧(0≤lp∧lp≤4)∧(0≤pb∧pb≤4)∧lc+lp≤4)
def kS(n:Int):Bool:=decide (0≤n∧n≤4)
theorem ux(n:Int)(w:World):Calls prog 159 #[.int .i64 n] w fun e w'=>e= .returned (.bool (kS n))∧w=w':=by
 by_cases h0:0≤n;·have HS:Hid (kS n=decide (n≤4)):=ae (by unfold kS;exact decide_eq_decide.2 aa);rw[HS.out];go_enter func159,ntmps159;go_wp2_with fail;go_ret;exact⟨rfl,rfl⟩
 ·have HS:Hid (kS n=false):=ae (by unfold kS;exact decide_eq_false aa);rw[HS.out];go_enter func159,ntmps159;go_wp2_with fail;go_ret;exact⟨rfl,rfl⟩
theorem qM(lc lp pb:Int)(w:World):Calls prog 120 #[.int .i64 lc,.int .i64 lp,.int .i64 pb] w fun e w'=>e= .returned (.bool (jT lc lp pb))∧w=w':=by
 have sk:=ae (ux lc w);have t7:=ae (ux lp w);have Ht:=ae (ux pb w);have⟨R,hR⟩:=ex (jT lc lp pb);rw[hR];have HR:=ae hR;clear hR;by_cases h1:0≤lc∧lc≤4;case neg=>have e1:kS lc=false:=decide_eq_false h1;rw[e1]at sk;have E6:Hid (R=false):=ae (by rw[←HR.out];exact decide_eq_false aa);clear h1 e1;go_enter func120,ntmps120;go_wp2_with fail;refine sk.out.mono ?_;rintro e w1 ⟨rfl,rfl⟩;go_wp2_with fail;go_ret;exact⟨ja,rfl⟩
 case pos=>
  have e1:kS lc=true:=decide_eq_true h1;rw[e1]at sk;by_cases h2:0≤lp∧lp≤4;case neg=>have e2:kS lp=false:=decide_eq_false h2;rw[e2]at t7;have E6:Hid (R=false):=ae (by rw[←HR.out];exact decide_eq_false aa);clear h1 e1 h2 e2;go_enter func120,ntmps120;go_wp2_with fail;refine sk.out.mono ?_;rintro e w1 ⟨rfl,rfl⟩;go_wp2_with fail;refine t7.out.mono ?_;rintro e w1 ⟨rfl,rfl⟩;go_wp2_with fail;go_ret;exact⟨ja,rfl⟩
  case pos=>
   have e2:kS lp=true:=decide_eq_true h2;rw[e2]at t7;by_cases h3:0≤pb∧pb≤4;case neg=>have e3:kS pb=false:=decide_eq_false h3;rw[e3]at Ht;have E6:Hid (R=false):=ae (by rw[←HR.out];exact decide_eq_false aa);clear h1 e1 h2 e2 h3 e3;go_enter func120,ntmps120;go_wp2_with fail;refine sk.out.mono ?_;rintro e w1 ⟨rfl,rfl⟩;go_wp2_with fail;refine t7.out.mono ?_;rintro e w1 ⟨rfl,rfl⟩;go_wp2_with fail;refine Ht.out.mono ?_;rintro e w1 ⟨rfl,rfl⟩;go_wp2_with fail;go_ret;exact⟨ja,rfl⟩
   case pos=>have e3:kS pb=true:=decide_eq_true h3;rw[e3]at Ht;have E6:Hid (R=decide (lc+lp≤4)):=ae (by rw[←HR.out];exact decide_eq_decide.2 aa);obtain⟨h1a,VM⟩:=h1;obtain⟨h2a,h2b⟩:=h2;clear e1 e2 h3 e3;go_enter func120,ntmps120;go_wp2_with fail;refine sk.out.mono ?_;rintro e w1 ⟨rfl,rfl⟩;go_wp2_with fail;refine t7.out.mono ?_;rintro e w1 ⟨rfl,rfl⟩;go_wp2_with fail;refine Ht.out.mono ?_;rintro e w1 ⟨rfl,rfl⟩;go_wp2_with fail;go_ret;exact⟨ja,rfl⟩
def kT(v:Value):List Value:=List.replicate 432 (.int .u16 0)++(v::List.replicate 1620 (.int .u16 0))
theorem FQ(a b c:Int):(((((((zeroCells171.setIfInBounds 0 (Value.int .i64 a)).setIfInBounds 1 (Value.int .i64 b)).setIfInBounds 2 (Value.int .i64 c)).setIfInBounds 4 (Value.int .i64 1)).setIfInBounds 5 (Value.int .i64 1)).setIfInBounds 6 (Value.int .i64 1)).setIfInBounds 7 (Value.int .i64 1))=
  ([Value.int .i64 a,.int .i64 b,.int .i64 c,.int .i64 0,.int .i64 1,.int .i64 1,.int .i64 1,.int .i64 1]++kT (.slice none 0 0)).toArray:=by
 kernel_rfl
theorem Bf{base size:Nat}{t:TypeId}{xs:List Value}(h:w.ownsRow base t size (.slice (some ⟨g,0,none⟩) n n) n xs):w.heap[g]? =some (.cells xs.toArray t (0,0))∧base≤g:=by
 obtain⟨hl,⟨h,_⟩ | ⟨g',cap,cur,e,hb,hg,_,_,dl,ht⟩⟩:=h;·cases h
 ·injection e with e1 _ e3;injection e1 with e1;injection e1 with e1;subst e1;subst e3;have:cur.toList=xs:=by rw[←ht,List.take_of_length_le av]
  exact⟨by rw[hg,←this],hb⟩
theorem Xo:(prog.info? 317).map (fun i=>(i.zero,i.size,i.bytes))=some (some (.agg (Array.replicate 768 (.int .u16 0))),768,1536):=ai
theorem Xp(k:Nat):(madeCells (Value.agg (Array.replicate 768 (.int .u16 0))).cells k).toList=List.replicate k (Value.int .u16 0):=by have hz:(Value.agg (Array.replicate 768 (Value.int .u16 0))).cells=Array.replicate 768 (Value.int .u16 0):=rfl;rw[hz];unfold madeCells;refine List.ext_getElem ag fun i h1 h2=> ?_;have hi:i%768<768:=Nat.mod_lt _ ak;simp[hi]
theorem Jh(v:Value){j:Nat}(hj:j<2053)(dH:j≠432):(kT v)[j]? =some (.int .u16 0):=by
 unfold kT;by_cases h:j<432;·rw[List.getElem?_append_left (by rw[List.length_replicate];exact h),List.getElem?_replicate,if_pos h]
 ·obtain⟨k,rfl⟩: ∃k,j=432+1+k:=⟨j-433,aa⟩
  rw[List.getElem?_append_right (by rw[List.length_replicate];omega),List.length_replicate,show 432+1+k-432=k+1 by omega,List.getElem?_cons_succ,List.getElem?_replicate,if_pos aa]
theorem Ji(v u:Value):(kT v).set 432 u=kT u:=by unfold kT;rw[List.set_append_right _ _ (by rw[List.length_replicate];exact Nat.le_refl _),List.length_replicate];rfl
theorem Bg(v:Value):(kT v).length=2053:=by unfold kT;rw[List.length_append,List.length_cons,List.length_replicate,List.length_replicate]
def aaW(w:World)(e:Ending)(w':World):Prop:=e= .returned (.tuple #[.pointer none,.int .i64 1])∧w'=w
def Xq(lc lp pb:Nat)(w:World)(e:Ending)(w':World):Prop:= ∃C L,e= .returned (.tuple #[PF C,.int .i64 0])∧bB w' C L lc lp pb 0 (1,1,1,1) (fun _=>1024)∧Below w.heap.size w w'∧w.heap.size≤C∧w.heap.size≤L
theorem FS(lc lp pb:Int)(w:World)(h:jT lc lp pb=false):Calls prog 81 #[.int .i64 lc,.int .i64 lp,.int .i64 pb] w (aaW w):=by have HP:=ae (qM lc lp pb w);rw[h]at HP;go_enter func81,ntmps81;go_wp2_with fail;refine HP.out.mono ?_;rintro e w1 ⟨rfl,rfl⟩;go_wp2_with fail;go_ret2;exact⟨rfl,rfl⟩
theorem qa(lc lp pb:Nat)(w:World)(h1:lc≤4)(h2:lp≤4)(h3:pb≤4)(h4:lc+lp≤4):Calls prog 81 #[.int .i64 (lc:Nat),.int .i64 (lp:Nat),.int .i64 (pb:Nat)] w (Xq lc lp pb w):=by
 have HP:=ae (qM (lc:Nat) (lp:Nat) (pb:Nat) w);rw[show jT (lc:Nat) (lp:Nat) (pb:Nat)=true from decide_eq_true aa]at HP;have Jj:=FQ (lc:Nat) (lp:Nat) (pb:Nat);have⟨cs,hcs⟩:=ex (([Value.int .i64 (lc:Nat),.int .i64 (lp:Nat),.int .i64 (pb:Nat),.int .i64 0,.int .i64 1,.int .i64 1,.int .i64 1,.int .i64 1]++kT (.slice none 0 0)).toArray);rw[hcs]at Jj;have Cd:=ae hcs;have HBU:=ae Jj;clear hcs Jj;have⟨N,hN⟩:=ex (2^(lc+lp));have at4:N≤16:=by rw[←hN];exact Nat.pow_le_pow_right (by decide:0<2) h4
 have ug:wrap64 (2^(lc+lp))=(N:Int):=by rw[show(2:Int)^(lc+lp)=((2^(lc+lp):Nat):Int) by simp,hN];unfold wrap64;omega
 obtain⟨i,hi,hz⟩:=Option.map_eq_some_iff.1 Xo;injection hz with kw hz;injection hz with eQ oC;have Nb:i.bytes*N≤281474976710656:=mW;have un:N≤maxLen:=fF;have HN:=ae hN;have at5:(lc:Int)≤4:=aa;have at6:(lp:Int)≤4:=aa;clear hN h4;go_enter func81,ntmps81;go_wp2_with fail;refine HP.out.mono ?_;rintro e w1 ⟨rfl,rfl⟩;go_upto_region 4 with fail;rw[HBU.out];have⟨W1,fv⟩:=ex (w.alloc (.cells cs 171));have Dx:W1.heap[w.heap.size]? =some (.cells cs 171 (0,0)):=by rw[←fv];exact heap_alloc_last w _
 have dl:W1.heap.size=w.heap.size+1:=xz;have oQ:=ae fv;have M3:=ae Dx;have sM:=ae dl;have a7:Hid (Below w.heap.size w W1):=ae CY;rw[oQ.out];clear fv Dx dl;go_wp2_with (at_make;refine wpList_make_full W1 rfl (.tmp 24) (.tmp 24) 157 rfl W1.heap.size 317 i (.agg (Array.replicate 768 (.int .u16 0))) 768 underlying157 hi kw eQ .i64 .i64 _ _ N rfl rfl ug ug Nb un (Nat.le_refl _) ?_;intro w2 aK gI;rw[Xp]at aK;obtain⟨hh2,Lk⟩:=Bf aK;have aD:=(gI.block w.heap.size (by rw[sM.out];omega) ag).trans M3.out;have alR:w2.cell? ⟨w.heap.size,440,none⟩=some (.slice none 0 0):=(by rw[cell_of_row w2 _ _ _ _ _ aD,←Cd.out];simp[kT]);have at7:w2.frozen? ⟨w.heap.size,440,none⟩=false:=frozen_of_row _ _ _ _ _ aD;have HH2:=ae hh2;have dW:=ae aD;have Xr:=ae gI;clear aK hh2 Lk aD gI)
 go_ret2;have dl:=sM.out;have dH:w.heap.size≠W1.heap.size:=aa;have aP:(w2.setCell ⟨w.heap.size,440,none⟩ (.slice (some ⟨W1.heap.size,0,none⟩) (N:Nat) (N:Nat))).heap[w.heap.size]? =some (.cells (cV lc lp pb 0 (1,1,1,1)++kT (.slice (some ⟨W1.heap.size,0,none⟩) N N)).toArray 171 (0,0)):=by have h:=dW.out;rw[←Cd.out]at h;rw[heap_set h,List.set_append_right _ _ ag];rw[show 440-([Value.int .i64 (lc:Nat),.int .i64 (lp:Nat),.int .i64 (pb:Nat),.int .i64 0,.int .i64 1,.int .i64 1,.int .i64 1,.int .i64 1]:List Value).length=432 from rfl,Ji];rfl
 have FF:(w2.setCell ⟨w.heap.size,440,none⟩ (.slice (some ⟨W1.heap.size,0,none⟩) (N:Nat) (N:Nat))).heap[W1.heap.size]? =some (.cells (List.replicate (N*768) (Value.int .u16 0)).toArray 317 (0,0)):=(ah _ _ _ _ (fun e=>dH e.symm)).trans HH2.out;refine⟨w.heap.size,W1.heap.size,rfl,⟨⟨_,aP,Bg _⟩,⟨_,FF,by simp;rw[←HN.out];omega⟩,?_,dH,fun i hi=>⟨0,?_,rfl⟩,fun i=>ak⟩,?_,Nat.le_refl _,aa⟩;·rw[HN.out];exact World.cell?_setCell_same _ _ _ alR
 ·rw[HN.out]at hi;unfold Md.used at hi;by_cases h3:i<2180;·have ha:Md.oe w.heap.size W1.heap.size i=⟨w.heap.size,Md.fI i,none⟩:=(by unfold Md.oe Md.gm;rw[if_pos h3]);have hk:8≤Md.fI i∧Md.fI i-8<2053∧Md.fI i-8≠432:=(by unfold Md.fI;by_cases a1:i<432<;>by_cases a2:i<1844<;>simp only[a1,a2,h3,if_true,if_false]<;>omega);rw[ha,cell_of_row _ _ _ _ _ _ aP,List.getElem?_toArray,List.getElem?_append_right (by simpa using hk.1)];exact Jh _ hk.2.1 hk.2.2
  ·have ha:Md.oe w.heap.size W1.heap.size i=⟨W1.heap.size,i-2180,none⟩:=(by unfold Md.oe Md.gm Md.fI;rw[if_neg h3,if_neg aa,if_neg aa,if_neg h3]);rw[ha,cell_of_row _ _ _ _ _ _ FF,List.getElem?_toArray,List.getElem?_replicate,if_pos aa];rfl
 ·exact(ao a7.out Xr.out a7.out.size ag).setCell (Nat.le_refl _) _
theorem LL{W1:World}{v0 v1 v2 v3 v4:Value}(h:w.alloc (.cells #[v0,v1,v2,v3,v4] 183)=W1):
  W1.cell? ⟨w.heap.size,0,none⟩=some v0∧W1.cell? ⟨w.heap.size,1,none⟩=some v1∧W1.cell? ⟨w.heap.size,2,none⟩=some v2∧W1.cell? ⟨w.heap.size,3,none⟩=some v3∧W1.cell? ⟨w.heap.size,4,none⟩=some v4∧Below w.heap.size w W1:=by
 have h0:W1.heap[w.heap.size]? =some (.cells [v0,v1,v2,v3,v4].toArray 183 (0,0)):=by rw[←h];exact heap_alloc_last w _
 refine⟨?_,?_,?_,?_,?_,by rw[←h];exact ar⟩<;>(rw[cell_of_row W1 _ _ _ _ _ h0];rfl)
theorem FV(hM:bB w C L lc lp pb st r P)(A:Option Addr)(n c:Nat)(hn:n≤1000000000)(k:Int)(b:UInt8)(l d q:Int):
  Calls prog 194 #[PF C,.slice A n c,tS k b l d q] w (FD (.bool (iW r (n:Int) k l d q)) w):=by
 have⟨R,hR⟩:=ex (iW r (n:Int) k l d q);rw[hR];have HR:=ae hR;clear hR;have hmn:min (n:Int) 4294967295=(n:Int):=aa;obtain⟨_,_,_,_,m0,m1,m2,m3⟩:=hM.cells;have HM:=ae (And.intro m0 (And.intro m1 (And.intro m2 (And.intro m3 hM.Au))));have DJ:=ae hn;clear hM m0 m1 m2 m3 hn;have hl:(l<2∧ ¬l=1)∨l=1∨(2≤l∧l≤273)∨(2≤l∧ ¬l≤273):=aa;have DH:LJ r 0=r.1:=rfl;have mf:LJ r 1=r.2.1:=rfl;have wm:LJ r 2=r.2.2.1:=rfl;have Cb:LJ r 3=r.2.2.2:=rfl;by_cases l6:k=2
 ·subst l6;have hq:q<0∨4≤q∨(q=0∧r.1≤(n:Int))∨(q=0∧ ¬r.1≤(n:Int))∨(q=1∧r.2.1≤(n:Int))∨(q=1∧ ¬r.2.1≤(n:Int))∨(q=2∧r.2.2.1≤(n:Int))∨(q=2∧ ¬r.2.2.1≤(n:Int))∨(q=3∧r.2.2.2≤(n:Int))∨(q=3∧ ¬r.2.2.2≤(n:Int)):=aa;have⟨W1,fv⟩:=ex (w.alloc (.cells #[.int .i64 2,.int .u8 (b.toNat:Nat),.int .i64 l,.int .i64 d,.int .i64 q] 183));obtain⟨y0,y1,y2,y3,y4,jS⟩:=LL fv;have HY:=ae (And.intro y0 (And.intro y1 (And.intro y2 (And.intro y3 (And.intro y4 (And.intro ((jS.cell (p:=⟨C,4,none⟩) HM.out.2.2.2.2).trans HM.out.1) (And.intro ((jS.cell (p:=⟨C,5,none⟩) HM.out.2.2.2.2).trans HM.out.2.1) (And.intro ((jS.cell (p:=⟨C,6,none⟩) HM.out.2.2.2.2).trans HM.out.2.2.1) ((jS.cell (p:=⟨C,7,none⟩) HM.out.2.2.2.2).trans HM.out.2.2.2.1)))))))));have DK:=ae jS;have oQ:=ae fv;clear jS fv y0 y1 y2 y3 y4;rcases hl with⟨g1,g2⟩ | rfl | ⟨g1,g2⟩ | ⟨g1,g2⟩<;>rcases hq with q0 | q4 | ⟨rfl,gn⟩ | ⟨rfl,gn⟩ | ⟨rfl,gn⟩ | ⟨rfl,gn⟩ | ⟨rfl,gn⟩ | ⟨rfl,gn⟩ | ⟨rfl,gn⟩ | ⟨rfl,gn⟩
  all_goals try(have g1n: ¬(2:Int)≤l:=by omega)
  all_goals try(have g3b:(l==1)=false:=by rw[beq_eq_false_iff_ne];omega)
  all_goals try(have hlf: ¬(2≤l∧l≤273):=by omega)
  all_goals try(have q0n: ¬(0:Int)≤q:=by omega)
  all_goals try(have q4n: ¬q<4:=by omega)
  all_goals try(have q4m:(0:Int)≤q:=by omega)
  all_goals
   go_enter func194,ntmps194;go_upto_region 8 with fail;rw[oQ.out];obtain⟨y0,y1,y2,y3,y4,m0,m1,m2,m3⟩:=HY.out;go_quiet (fail);go_wp2_with fail;go_ret;exact⟨by rw[←HR.out];refine congrArg (fun x=>Ending.returned (.bool x)) ?_;symm;unfold iW;first | (simp;done) | (simp;omega) | (rw[if_pos rfl];exact decide_eq_decide.2 (am DJ.out)) | (rw[DH];simp;omega) | (rw[mf];simp;omega) | (rw[wm];simp;omega) | (rw[Cb];simp;omega) | (rw[mf];simp;done) | (rw[wm];simp;done) | (rw[Cb];simp;done) | (rw[if_neg k1,if_neg l6];simp[k0]),below_drewN DK.out _⟩
 ·have hk:k=0∨(k=1∧1≤d)∨(k=1∧ ¬1≤d)∨(¬k=0∧ ¬k=1):=by omega
  rcases hl with⟨g1,g2⟩ | rfl | ⟨g1,g2⟩ | ⟨g1,g2⟩<;>rcases hk with rfl | ⟨rfl,hd⟩ | ⟨rfl,hd⟩ | ⟨k0,k1⟩
  all_goals try(have g1n: ¬(2:Int)≤l:=by omega)
  all_goals try(have g3b:(l==1)=false:=by rw[beq_eq_false_iff_ne];omega)
  all_goals try(have hlf: ¬(2≤l∧l≤273):=by omega)
  all_goals try(have k0b:(k==0)=false:=by rw[beq_eq_false_iff_ne];exact k0)
  all_goals try(have k1b:(k==1)=false:=by rw[beq_eq_false_iff_ne];exact k1)
  all_goals try(have k2b:(k==2)=false:=by rw[beq_eq_false_iff_ne];exact l6)
  all_goals
   go_enter func194,ntmps194;go_wp2_with fail;go_ret;exact⟨by rw[←HR.out];refine congrArg (fun x=>Ending.returned (.bool x)) ?_;symm;unfold iW;first | (simp;done) | (simp;omega) | (rw[if_pos rfl];exact decide_eq_decide.2 (am DJ.out)) | (rw[DH];simp;omega) | (rw[mf];simp;omega) | (rw[wm];simp;omega) | (rw[Cb];simp;omega) | (rw[mf];simp;done) | (rw[wm];simp;done) | (rw[Cb];simp;done) | (rw[if_neg k1,if_neg l6];simp[k0]),ar⟩
theorem o0{n k l q:Int}(h:iW r n k l d q=true):k=0∨(k=1∧2≤l∧l≤273∧1≤d∧d≤n∧d≤4294967295)∨(k=2∧0≤q∧q≤3∧LJ r q≤n∧((2≤l∧l≤273)∨(l=1∧q=0))):=by
 unfold iW at h;by_cases k1:k=1;·rw[if_pos k1]at h;exact .inr (.inl ⟨k1,of_decide_eq_true h⟩)
 ·rw[if_neg k1]at h;by_cases k2:k=2;·rw[if_pos k2]at h;exact .inr (.inr ⟨k2,of_decide_eq_true h⟩)
  ·rw[if_neg k2]at h;exact .inl (of_decide_eq_true h)
theorem Xw{x:(aj g).S}(hM:MS (aj g) w C L lc lp pb st r x X)(si:lc≤4)(ur:lp≤4)(wn:pb≤4)(bQ:st<12)(hr:dI r)(A:Option Addr)(H:List UInt8)(c:Nat)(hB:Bytes w A H)(hc:H.length≤c)(hH:H.length≤1000000000)(hHX: ∀a,A=some a→a.block ∉ C::L::X)
  (kk:Int) (b:UInt8) (l d q:Int) (hf:iW r (H.length:Int) kk l d q=true) {s':Sy} {st':Nat} {r':R4} {Z:(aj g).S} (hR:Md.sym (aj g) lc lp pb st r H kk b l d q x=(s',st',r',Z)) (bL:(aj g).ok x.2 (k+54)):
  Calls prog 152 #[PF C,PF g,.slice A H.length c,tS kk b l d q] w (Dt (s'.k≤2∧s'.r≤3∧s'.l≤273∧(s'.d:Int)≤4294967296∧st'<12∧dI r'∧(aj g).ok Z.2 k) (jR (.int .i64 0) (aj g) C L lc lp pb st' r' Z X w)):=by
 have⟨Q,hQ⟩:=ex ((s'.k≤2∧s'.r≤3∧s'.l≤273∧(s'.d:Int)≤4294967296∧st'<12∧dI r'∧(aj g).ok Z.2 k));rw[hQ];have HQ:=ae hQ;clear hQ;have⟨W1,fv⟩:=ex (w.alloc (.cells #[.int .i64 kk,.int .u8 (b.toNat:Nat),.int .i64 l,.int .i64 d,.int .i64 q] 183));obtain⟨y0,y1,y2,y3,y4,jS⟩:=LL fv;have p7:=hM.below jS;have HP:=ae (FV p7.mod A H.length c hH kk b l d q);rw[hf]at HP;have nT:=o0 hf;have HC:=ae (fun(w2:World) (aD:Below W1.heap.size W1 w2)=>Rn (aj g) (p7.below aD) si ur wn bQ hr A H c ((hB.below jS).below aD) hc hH hHX kk b l d q (by
   intro h;have hk:kk≠0:=fun e=>(by subst e;simp[Io.au,aj]at h);rcases nT with e | ⟨e,h1⟩ | ⟨e,h1⟩
   ·exact absurd e hk
   ·omega
   ·omega) (by
   intro h h2;have hk:kk=1:=by
    by_cases e:kk=1;·exact e
    ·simp[Io.au,aj,e]at h2
   rcases nT with e | ⟨e,h1⟩ | ⟨e,h1⟩
   ·omega
   ·omega
   ·omega) hR bL)
 have HB:=ae jS;have oQ:=ae fv;have p8:=ae (And.intro y0 (And.intro y1 (And.intro y2 (And.intro y3 y4))));have AG:Hid (w.heap.size<W1.heap.size):=ae xz;clear hM jS fv hf p7 hB nT hR bL hHX hr y0 y1 y2 y3 y4;have hqq:=p8.out;obtain⟨y0,y1,y2,y3,y4⟩:=hqq;go_enter func152,ntmps152;go_upto_region 1 with fail;rw[oQ.out];go_wp2_with fail;refine HP.out.mono ?_;rintro e w2 ⟨rfl,aD⟩;have z0:=(aD.cell (p:=⟨w.heap.size,0,none⟩) AG.out).trans y0;have z1:=(aD.cell (p:=⟨w.heap.size,1,none⟩) AG.out).trans y1;have z2:=(aD.cell (p:=⟨w.heap.size,2,none⟩) AG.out).trans y2;have z3:=(aD.cell (p:=⟨w.heap.size,3,none⟩) AG.out).trans y3;have z4:=(aD.cell (p:=⟨w.heap.size,4,none⟩) AG.out).trans y4;have dW:=ae aD;clear aD y0 y1 y2 y3 y4;go_wp2_with fail;refine(HC.out w2 dW.out).mono ?_;rintro e w3 ⟨⟨rfl,X3,Aw,dK,Ax⟩,hq3⟩;have VJ:=ae Aw;have RY:=ae (And.intro dK Ax);have HQ3:=ae hq3;clear Aw dK Ax hq3;go_wp2_with fail;go_ret;have xU:=aM HB.out dW.out;refine⟨⟨rfl,X3,VJ.out,(aw.aF xU).trans RY.out.1 (fun i hi=> .inl hi),fun i hi=> ?_⟩,by rw[←HQ.out];exact HQ3.out⟩;rcases RY.out.2 i hi with h | h;·exact .inl h
 ·exact .inr (Nat.le_trans xU.size h)
section
abbrev PS:=(Nat→Nat)×Rc.St
abbrev PD:=(Nat→Nat)×Rd.St
def Fair(P:Nat→Nat):Prop:= ∀i,1≤P i∧P i≤2047
theorem Fair.put{P:Nat→Nat}(h:Fair P)(i:Nat)(b:Bool):Fair (Md.put P i (Rc.next (P i) b)):=by
 intro j;unfold Md.put;split;·exact Rc.lF (h i).1 (h i).2 b
 ·exact h j
def SJ(S:Rc.St)(L:List UInt8)(x:PS)(y:PD):Prop:=y.1=x.1∧fY S L x.2 y.2
def Good(S:Rc.St)(L:List UInt8){α:Type}(f:PS→α×PS)(h:PD→α×PD):Prop:= ∀x,Fair x.1→Fair (f x).2.1∧(Rc.bq (f x).2.2 S→Rc.bq x.2 S)∧ ∀y,SJ S L x y→Rc.bq (f x).2.2 S→(h y).1=(f x).1∧SJ S L (f x).2 (h y).2
def Md.Gf(io:Io)(d s:Nat)(x:io.S):Nat×io.S:=
 if s<4 then(s+1,x)
 else if s<14 then
  ((2+s%2)*2^(s/2-1)+(Md.rev io (1716+32*s) (s/2-1) (d:Nat) x).1+1,(Md.rev io (1716+32*s) (s/2-1) (d:Nat) x).2)
 else
  ((2+s%2)*2^(s/2-1)+(io.plain x.2 (d/16%2^(s/2-1-4)) (s/2-1-4)).1%2^(s/2-1-4)*16+(Md.rev io 2164 4 (d:Nat) (x.1,(io.plain x.2 (d/16%2^(s/2-1-4)) (s/2-1-4)).2)).1+1,(Md.rev io 2164 4 (d:Nat) (x.1,(io.plain x.2 (d/16%2^(s/2-1-4)) (s/2-1-4)).2)).2)
section
variable{S:Rc.St}{L:List UInt8}{α β:Type}
theorem ip(a:α):Good S L (fun x=>(a,x)) (fun y=>(a,y)):=fun _ hx=>⟨hx,fun h=>h,fun _ hs _=>⟨rfl,hs⟩⟩
theorem df{f:PS→α×PS}{h:PD→α×PD}(H:Good S L f h){g1:α→PS→β×PS}{g2:α→PD→β×PD}(K: ∀a,Good S L (g1 a) (g2 a)):Good S L (fun x=>g1 (f x).1 (f x).2) (fun y=>g2 (h y).1 (h y).2):=by intro x hx;obtain⟨f1,f2,f3⟩:=H x hx;obtain⟨k1,k2,k3⟩:=K (f x).1 (f x).2 f1;refine⟨k1,fun hi=>f2 (k2 hi),fun y hs hi=> ?_⟩;obtain⟨e,s⟩:=f3 y hs (k2 hi);have hk:=k3 (h y).2 s hi;show(g2 (h y).1 (h y).2).1=(g1 (f x).1 (f x).2).1∧SJ S L (g1 (f x).1 (f x).2).2 (g2 (h y).1 (h y).2).2;rw[e];exact hk
theorem eG{f:PS→α×PS}{h:PD→α×PD}(H:Good S L f h)(φ:α→β):Good S L (fun x=>(φ (f x).1,(f x).2)) (fun y=>(φ (h y).1,(h y).2)):=
 df H (g1:=fun a x=>(φ a,x)) (g2:=fun a y=>(φ a,y)) fun a=>ip (φ a)
variable(hA:pk S L)(hS:0<S.r)(hl:5+S.k≤L.length)(ge gd o cap:Nat)
include hA hS hl
theorem fM(i:Nat)(b b':Bool):Good S L ((aj ge).au i b) ((aq gd o cap L).au i b'):=by
 intro x hx;have hc:Rc.fair (x.1 i)=x.1 i:=by have:=hx i;unfold Rc.fair;rw[if_neg aa]
 have e1:(aj ge).au i b x=(b,Md.put x.1 i (Rc.next (x.1 i) b),x.2.bit (x.1 i) b):=by unfold Rc.St.bit;rw[hc];rfl
 rw[e1];refine⟨hx.put i b,fun hi=>(Rc.yM _ _ _).trans hi,fun y hs hi=> ?_⟩;obtain⟨h1,h2⟩:=JJ hA hS (x.1 i) b hs.2 hi;rw[hc]at h1 h2;have h0:(x.2.bit (x.1 i) b).k≤S.k:=hi.1;have h3:=h2 aa;have e2:(aq gd o cap L).au i b' y=((y.2.bit L (y.1 i)).1,Md.put y.1 i (Rc.next (y.1 i) (y.2.bit L (y.1 i)).1),(y.2.bit L (y.1 i)).2):=rfl;rw[e2,hs.1,h3];exact⟨rfl,rfl,h1⟩
theorem JL(v v' m:Nat)(hv:v<2^m):Good S L (fun x=>(((aj ge).plain x.2 v m).1,(x.1,((aj ge).plain x.2 v m).2))) (fun y=>(((aq gd o cap L).plain y.2 v' m).1,(y.1,((aq gd o cap L).plain y.2 v' m).2))):=by intro x hx;refine⟨hx,fun hi=>(Rc.sV _ _ _).trans hi,fun y hs hi=> ?_⟩;obtain⟨h1,h2⟩:=D1 hA hS hs.2 m v hi;have h0:(x.2.plain v m).k≤S.k:=hi.1;have h3:=h2 aa;rw[Nat.mod_eq_of_lt hv]at h3;exact⟨h3,hs.1,h1⟩
theorem vJ(at_:Nat)(v v':Int): ∀n m,Good S L (Md.cW (aj ge) at_ v n m) (Md.cW (aq gd o cap L) at_ v' n m)
 | 0,m=>ip m
 | n+1,m=>df (fM hA hS hl ge gd o cap (at_+m) (Md.aQ v n) (Md.aQ v' n)) (g1:=fun a x=>Md.cW (aj ge) at_ v n (2*m+a.toNat) x) (g2:=fun a y=>Md.cW (aq gd o cap L) at_ v' n (2*m+a.toNat) y) fun a=>vJ at_ v v' n (2*m+a.toNat)
theorem qe(at_ n:Nat)(v v':Int):Good S L (Md.tree (aj ge) at_ n v) (Md.tree (aq gd o cap L) at_ n v'):=
 eG (vJ hA hS hl ge gd o cap at_ v v' n 1) fun a=>a-2^n
theorem yO(at_:Nat)(v v':Int): ∀k i m g,Good S L (Md.gq (aj ge) at_ v k i m g) (Md.gq (aq gd o cap L) at_ v' k i m g)
 | 0,_,_,g=>ip g
 | k+1,i,m,g=>df (fM hA hS hl ge gd o cap (at_+m) (Md.aQ v i) (Md.aQ v' i)) (g1:=fun a x=>Md.gq (aj ge) at_ v k (i+1) (2*m+a.toNat) (g+a.toNat*2^i) x) (g2:=fun a y=>Md.gq (aq gd o cap L) at_ v' k (i+1) (2*m+a.toNat) (g+a.toNat*2^i) y) fun a=>yO at_ v v' k (i+1) (2*m+a.toNat) (g+a.toNat*2^i)
theorem Gg(at_ n:Nat)(v v':Int):Good S L (Md.rev (aj ge) at_ n v) (Md.rev (aq gd o cap L) at_ n v'):=yO hA hS hl ge gd o cap at_ v v' n 0 1 0
theorem yP(A p:Nat)(l l':Int):Good S L (Md.len (aj ge) A p l) (Md.len (aq gd o cap L) A p l'):=by
 refine df (fM hA hS hl ge gd o cap A (decide (8≤l-2)) (decide (8≤l'-2)))
  (g1:=fun a x=>if a=false then(2+(Md.tree (aj ge) (A+2+8*p) 3 (l-2) x).1,(Md.tree (aj ge) (A+2+8*p) 3 (l-2) x).2)
   else
    let z:=(aj ge).au (A+1) (decide (16≤l-2)) x
    if z.1=false then(10+(Md.tree (aj ge) (A+130+8*p) 3 (l-2-8) z.2).1,(Md.tree (aj ge) (A+130+8*p) 3 (l-2-8) z.2).2)
    else(18+(Md.tree (aj ge) (A+258) 8 (l-2-16) z.2).1,(Md.tree (aj ge) (A+258) 8 (l-2-16) z.2).2))
  (g2:=fun a x=>if a=false then(2+(Md.tree (aq gd o cap L) (A+2+8*p) 3 (l'-2) x).1,(Md.tree (aq gd o cap L) (A+2+8*p) 3 (l'-2) x).2)
   else
    let z:=(aq gd o cap L).au (A+1) (decide (16≤l'-2)) x
    if z.1=false then(10+(Md.tree (aq gd o cap L) (A+130+8*p) 3 (l'-2-8) z.2).1,(Md.tree (aq gd o cap L) (A+130+8*p) 3 (l'-2-8) z.2).2)
    else(18+(Md.tree (aq gd o cap L) (A+258) 8 (l'-2-16) z.2).1,(Md.tree (aq gd o cap L) (A+258) 8 (l'-2-16) z.2).2)) ?_
 intro a;cases a with
 | false=>exact eG (qe hA hS hl ge gd o cap (A+2+8*p) 3 (l-2) (l'-2)) fun a=>2+a
 | true=>
  refine df (fM hA hS hl ge gd o cap (A+1) (decide (16≤l-2)) (decide (16≤l'-2)))
   (g1:=fun a x=>if a=false then(10+(Md.tree (aj ge) (A+130+8*p) 3 (l-2-8) x).1,(Md.tree (aj ge) (A+130+8*p) 3 (l-2-8) x).2)
    else(18+(Md.tree (aj ge) (A+258) 8 (l-2-16) x).1,(Md.tree (aj ge) (A+258) 8 (l-2-16) x).2))
   (g2:=fun a x=>if a=false then(10+(Md.tree (aq gd o cap L) (A+130+8*p) 3 (l'-2-8) x).1,(Md.tree (aq gd o cap L) (A+130+8*p) 3 (l'-2-8) x).2)
    else(18+(Md.tree (aq gd o cap L) (A+258) 8 (l'-2-16) x).1,(Md.tree (aq gd o cap L) (A+258) 8 (l'-2-16) x).2)) ?_
  intro a;cases a with
  | false=>exact eG (qe hA hS hl ge gd o cap (A+130+8*p) 3 (l-2-8) (l'-2-8)) fun a=>10+a
  | true=>exact eG (qe hA hS hl ge gd o cap (A+258) 8 (l-2-16) (l'-2-16)) fun a=>18+a
theorem NM(l:Nat)(dd dd':Int):Good S L (Md.bM (aj ge) l dd) (Md.bM (aq gd o cap L) l dd'):=by
 have⟨d,hd⟩:=ex (((dd-1)%4294967296).toNat);obtain⟨d',hd'⟩: ∃d,((dd'-1)%4294967296).toNat=d:=⟨_,rfl⟩
 have key:=df (qe hA hS hl ge gd o cap (1460+64*min (l-2) 3) 6 (gr d:Nat) (gr d':Nat)) (g1:=Md.Gf (aj ge) d) (g2:=Md.Gf (aq gd o cap L) d') fun s=>by
  unfold Md.Gf;by_cases h4:s<4;·simp only[if_pos h4];exact ip (s+1)
  ·by_cases MY:s<14;·simp only[if_neg h4,if_pos MY];exact eG (Gg hA hS hl ge gd o cap (1716+32*s) (s/2-1) (d:Nat) (d':Nat)) fun a=>(2+s%2)*2^(s/2-1)+a+1
   ·simp only[if_neg h4,if_neg MY]
    exact df (JL hA hS hl ge gd o cap (d/16%2^(s/2-1-4)) (d'/16%2^(s/2-1-4)) (s/2-1-4) (Nat.mod_lt _ (Nat.pow_pos ak)))
     (g1:=fun q x=>((2+s%2)*2^(s/2-1)+q%2^(s/2-1-4)*16+(Md.rev (aj ge) 2164 4 (d:Nat) x).1+1,(Md.rev (aj ge) 2164 4 (d:Nat) x).2))
     (g2:=fun q x=>((2+s%2)*2^(s/2-1)+q%2^(s/2-1-4)*16+(Md.rev (aq gd o cap L) 2164 4 (d':Nat) x).1+1,(Md.rev (aq gd o cap L) 2164 4 (d':Nat) x).2)) fun q=>
      eG (Gg hA hS hl ge gd o cap 2164 4 (d:Nat) (d':Nat)) fun a=>(2+s%2)*2^(s/2-1)+q%2^(s/2-1-4)*16+a+1
 subst hd hd';exact key
theorem yQ(T like:Nat)(v v':Int): ∀n m al,Good S L (Md.gJ (aj ge) T like v n m al) (Md.gJ (aq gd o cap L) T like v' n m al)
 | 0,m,_=>ip m
 | n+1,m,al=>df (fM hA hS hl ge gd o cap (T+(if al then m+(256+256*(like/2^n%2))else m)) (Md.aQ v n) (Md.aQ v' n)) (g1:=fun a x=>Md.gJ (aj ge) T like v n (2*m+a.toNat) (al&&(a.toNat==like/2^n%2)) x) (g2:=fun a y=>Md.gJ (aq gd o cap L) T like v' n (2*m+a.toNat) (al&&(a.toNat==like/2^n%2)) y) fun a=>yQ T like v v' n (2*m+a.toNat) (al&&(a.toNat==like/2^n%2))
theorem SK(lc lp st:Nat)(a:Int)(H:List UInt8)(v v':Int):Good S L (Md.lit (aj ge) lc lp st a H v) (Md.lit (aq gd o cap L) lc lp st a H v'):=
 eG (yQ hA hS hl ge gd o cap (2180+768*uq lc lp H) (Md.nS H a) v v' 8 1 (decide (7≤st))) fun a=>UInt8.ofNat a
theorem JM(st:Nat)(q q':Int):Good S L (Md.which (aj ge) st q) (Md.which (aq gd o cap L) st q'):=by
 refine df (fM hA hS hl ge gd o cap (204+st) (q !=0) (q' !=0))
  (g1:=fun a x=>if a=false then(0,x)else
   let b:=(aj ge).au (216+st) (q !=1) x
   if b.1=false then(1,b.2)else
    let c:=(aj ge).au (228+st) (q !=2) b.2
    (2+c.1.toNat,c.2))
  (g2:=fun a x=>if a=false then(0,x)else
   let b:=(aq gd o cap L).au (216+st) (q' !=1) x
   if b.1=false then(1,b.2)else
    let c:=(aq gd o cap L).au (228+st) (q' !=2) b.2
    (2+c.1.toNat,c.2)) ?_
 intro a;cases a with
 | false=>exact ip 0
 | true=>
  refine df (fM hA hS hl ge gd o cap (216+st) (q !=1) (q' !=1))
   (g1:=fun b x=>if b=false then(1,x)else
    let c:=(aj ge).au (228+st) (q !=2) x
    (2+c.1.toNat,c.2))
   (g2:=fun b x=>if b=false then(1,x)else
    let c:=(aq gd o cap L).au (228+st) (q' !=2) x
    (2+c.1.toNat,c.2)) ?_
  intro b;cases b with
  | false=>exact ip 1
  | true=>exact eG (fM hA hS hl ge gd o cap (228+st) (q !=2) (q' !=2)) fun c=>2+c.toNat
theorem NP(st p:Nat)(l l' q q':Int):Good S L (Md.kP (aj ge) st p l q) (Md.kP (aq gd o cap L) st p l' q'):=by
 refine df (JM hA hS hl ge gd o cap st q q')
  (g1:=fun a x=>if a=0 then
    let s:=(aj ge).au (240+16*st+p) (l !=1) x
    if s.1=false then((0,1),s.2)else
     let n:=Md.len (aj ge) 946 p l s.2
     ((0,n.1),n.2)
   else
    let n:=Md.len (aj ge) 946 p l x
    ((a,n.1),n.2))
  (g2:=fun a x=>if a=0 then
    let s:=(aq gd o cap L).au (240+16*st+p) (l' !=1) x
    if s.1=false then((0,1),s.2)else
     let n:=Md.len (aq gd o cap L) 946 p l' s.2
     ((0,n.1),n.2)
   else
    let n:=Md.len (aq gd o cap L) 946 p l' x
    ((a,n.1),n.2)) ?_
 intro a;by_cases h0:a=0
 ·subst h0
  refine df (fM hA hS hl ge gd o cap (240+16*st+p) (l !=1) (l' !=1))
   (g1:=fun s x=>if s=false then((0,1),x)else
     let n:=Md.len (aj ge) 946 p l x
     ((0,n.1),n.2))
   (g2:=fun s x=>if s=false then((0,1),x)else
     let n:=Md.len (aq gd o cap L) 946 p l' x
     ((0,n.1),n.2)) ?_
  intro s;cases s with
  | false=>exact ip (0,1)
  | true=>exact eG (yP hA hS hl ge gd o cap 946 p l l') fun n=>(0,n)
 ·simp only[if_neg h0];exact eG (yP hA hS hl ge gd o cap 946 p l l') fun n=>(a,n)
end
namespace Md
def uE(io:Io)(lc lp pb st:Nat)(r:R4)(H:List UInt8)(k:Int)(b:UInt8)(l d q:Int)(x:io.S):(Sy×Nat×R4)×io.S:=
 let a:=io.au (16*st+H.length%2^pb) (k !=0) x
 if a.1=false then
  let z:=lit io lc lp st r.1 H (b.toNat:Nat) a.2
  ((⟨0,z.1,0,0,0⟩,bW st,r),z.2)
 else
  let c:=io.au (192+st) (k !=1) a.2
  if c.1=false then
   let n:=len io 432 (H.length%2^pb) l c.2
   let z:=bM io n.1 d n.2
   ((⟨1,0,n.1,z.1,0⟩,(if st<7 then 7 else 10),aY r 3 (z.1:Nat)),z.2)
  else
   let z:=kP io st (H.length%2^pb) l q c.2
   ((⟨2,0,z.1.2,0,z.1.1⟩,(if st<7 then(if z.1.2=1 then 9 else 8)else 11),aY r z.1.1 (r4 r.1 r.2.1 r.2.2.1 r.2.2.2 z.1.1)),z.2)
theorem sW(io:Io)(lc lp pb st:Nat)(r:R4)(H:List UInt8)(k:Int)(b:UInt8)(l d q:Int)(x:io.S):sym io lc lp pb st r H k b l d q x=((uE io lc lp pb st r H k b l d q x).1.1,(uE io lc lp pb st r H k b l d q x).1.2.1,(uE io lc lp pb st r H k b l d q x).1.2.2,(uE io lc lp pb st r H k b l d q x).2):=by
 unfold sym uE;by_cases h1:(io.au (16*st+H.length%2^pb) (k !=0) x).1=false;·simp only[h1,if_true]
 ·simp only[h1];by_cases h2:(io.au (192+st) (k !=1) (io.au (16*st+H.length%2^pb) (k !=0) x).2).1=false;·simp only[h2,if_true];rfl
  ·simp only[h2];rfl
end Md
section
variable{S:Rc.St}{L:List UInt8}(hA:pk S L)(hS:0<S.r)(hl:5+S.k≤L.length)(ge gd o cap:Nat)
include hA hS hl
theorem Co(lc lp pb st:Nat)(r:R4)(H:List UInt8)(k k':Int)(b b':UInt8)(l l' d d' q q':Int):Good S L (Md.uE (aj ge) lc lp pb st r H k b l d q) (Md.uE (aq gd o cap L) lc lp pb st r H k' b' l' d' q'):=by
 refine df (fM hA hS hl ge gd o cap (16*st+H.length%2^pb) (k !=0) (k' !=0))
  (g1:=fun a x=>if a=false then
    let z:=Md.lit (aj ge) lc lp st r.1 H (b.toNat:Nat) x
    (((⟨0,z.1,0,0,0⟩:Sy),bW st,r),z.2)
   else
    let c:=(aj ge).au (192+st) (k !=1) x
    if c.1=false then
     let n:=Md.len (aj ge) 432 (H.length%2^pb) l c.2
     let z:=Md.bM (aj ge) n.1 d n.2
     (((⟨1,0,n.1,z.1,0⟩:Sy),(if st<7 then 7 else 10:Nat),aY r 3 (z.1:Nat)),z.2)
    else
     let z:=Md.kP (aj ge) st (H.length%2^pb) l q c.2
     (((⟨2,0,z.1.2,0,z.1.1⟩:Sy),(if st<7 then(if z.1.2=1 then 9 else 8)else 11:Nat),aY r z.1.1 (r4 r.1 r.2.1 r.2.2.1 r.2.2.2 z.1.1)),z.2))
  (g2:=fun a x=>if a=false then
    let z:=Md.lit (aq gd o cap L) lc lp st r.1 H (b'.toNat:Nat) x
    (((⟨0,z.1,0,0,0⟩:Sy),bW st,r),z.2)
   else
    let c:=(aq gd o cap L).au (192+st) (k' !=1) x
    if c.1=false then
     let n:=Md.len (aq gd o cap L) 432 (H.length%2^pb) l' c.2
     let z:=Md.bM (aq gd o cap L) n.1 d' n.2
     (((⟨1,0,n.1,z.1,0⟩:Sy),(if st<7 then 7 else 10:Nat),aY r 3 (z.1:Nat)),z.2)
    else
     let z:=Md.kP (aq gd o cap L) st (H.length%2^pb) l' q' c.2
     (((⟨2,0,z.1.2,0,z.1.1⟩:Sy),(if st<7 then(if z.1.2=1 then 9 else 8)else 11:Nat),aY r z.1.1 (r4 r.1 r.2.1 r.2.2.1 r.2.2.2 z.1.1)),z.2)) ?_
 intro a;cases a with
 | false=>exact eG (SK hA hS hl ge gd o cap lc lp st r.1 H (b.toNat:Nat) (b'.toNat:Nat)) fun z=>((⟨0,z,0,0,0⟩:Sy),bW st,r)
 | true=>
  refine df (fM hA hS hl ge gd o cap (192+st) (k !=1) (k' !=1))
   (g1:=fun c x=>if c=false then
     let n:=Md.len (aj ge) 432 (H.length%2^pb) l x
     let z:=Md.bM (aj ge) n.1 d n.2
     (((⟨1,0,n.1,z.1,0⟩:Sy),(if st<7 then 7 else 10:Nat),aY r 3 (z.1:Nat)),z.2)
    else
     let z:=Md.kP (aj ge) st (H.length%2^pb) l q x
     (((⟨2,0,z.1.2,0,z.1.1⟩:Sy),(if st<7 then(if z.1.2=1 then 9 else 8)else 11:Nat),aY r z.1.1 (r4 r.1 r.2.1 r.2.2.1 r.2.2.2 z.1.1)),z.2))
   (g2:=fun c x=>if c=false then
     let n:=Md.len (aq gd o cap L) 432 (H.length%2^pb) l' x
     let z:=Md.bM (aq gd o cap L) n.1 d' n.2
     (((⟨1,0,n.1,z.1,0⟩:Sy),(if st<7 then 7 else 10:Nat),aY r 3 (z.1:Nat)),z.2)
    else
     let z:=Md.kP (aq gd o cap L) st (H.length%2^pb) l' q' x
     (((⟨2,0,z.1.2,0,z.1.1⟩:Sy),(if st<7 then(if z.1.2=1 then 9 else 8)else 11:Nat),aY r z.1.1 (r4 r.1 r.2.1 r.2.2.1 r.2.2.2 z.1.1)),z.2)) ?_
  intro c;cases c with
  | false=>
   refine df (yP hA hS hl ge gd o cap 432 (H.length%2^pb) l l')
    (g1:=fun n x=>(((⟨1,0,n,(Md.bM (aj ge) n d x).1,0⟩:Sy),(if st<7 then 7 else 10:Nat),aY r 3 ((Md.bM (aj ge) n d x).1:Nat)),(Md.bM (aj ge) n d x).2))
    (g2:=fun n x=>(((⟨1,0,n,(Md.bM (aq gd o cap L) n d' x).1,0⟩:Sy),(if st<7 then 7 else 10:Nat),aY r 3 ((Md.bM (aq gd o cap L) n d' x).1:Nat)),(Md.bM (aq gd o cap L) n d' x).2)) fun n=> ?_
   exact eG (NM hA hS hl ge gd o cap n d d') fun z=>((⟨1,0,n,z,0⟩:Sy),(if st<7 then 7 else 10:Nat),aY r 3 (z:Nat))
  | true=>exact eG (NP hA hS hl ge gd o cap st (H.length%2^pb) l l' q q') fun z=>((⟨2,0,z.2,0,z.1⟩:Sy),(if st<7 then(if z.2=1 then 9 else 8)else 11:Nat),aY r z.1 (r4 r.1 r.2.1 r.2.2.1 r.2.2.2 z.1))
theorem SL{lc lp pb st:Nat}{r:R4}{H:List UInt8}{k l d q:Int}{b:UInt8}{x z:PS}{s':Sy}{st':Nat}{r':R4}(hx:Fair x.1)(h:Md.sym (aj ge) lc lp pb st r H k b l d q x=(s',st',r',z))(hi:Rc.bq z.2 S){y:PD}(hs:SJ S L x y):
  ∃z':PD,Md.sym (aq gd o cap L) lc lp pb st r H 0 0 0 0 0 y=(s',st',r',z')∧SJ S L z z':=by
 obtain⟨_,_,h3⟩:=Co hA hS hl ge gd o cap lc lp pb st r H k 0 b 0 l 0 d 0 q 0 x hx;have e:=(Md.sW (aj ge) lc lp pb st r H k b l d q x).symm.trans h;have e1:=congrArg (fun t=>t.1) e;have e2:=congrArg (fun t=>t.2.1) e;have e3:=congrArg (fun t=>t.2.2.1) e;have e4:=congrArg (fun t=>t.2.2.2) e;obtain⟨k1,k2⟩:=h3 y hs (by rw[show(Md.uE (aj ge) lc lp pb st r H k b l d q x).2=z from e4];exact hi);refine⟨(Md.uE (aq gd o cap L) lc lp pb st r H 0 0 0 0 0 y).2,(Md.sW (aq gd o cap L) lc lp pb st r H 0 0 0 0 0 y).trans ?_,?_⟩;·exact Prod.ext ((congrArg (fun t=>t.1) k1).trans e1) (Prod.ext ((congrArg (fun t=>t.2.1) k1).trans e2) (Prod.ext ((congrArg (fun t=>t.2.2) k1).trans e3) rfl))
 ·rw[show(Md.uE (aj ge) lc lp pb st r H k b l d q x).2=z from e4]at k2;exact k2
theorem JN{lc lp pb st:Nat}{r:R4}{H:List UInt8}{k l d q:Int}{b:UInt8}{x z:PS}{s':Sy}{st':Nat}{r':R4}(hx:Fair x.1)(h:Md.sym (aj ge) lc lp pb st r H k b l d q x=(s',st',r',z)):Fair z.1∧(Rc.bq z.2 S→Rc.bq x.2 S):=by obtain⟨h1,h2,_⟩:=Co hA hS hl ge 0 0 0 lc lp pb st r H k 0 b 0 l 0 d 0 q 0 x hx;have e:=(Md.sW (aj ge) lc lp pb st r H k b l d q x).symm.trans h;have e4:(Md.uE (aj ge) lc lp pb st r H k b l d q x).2=z:=congrArg (fun t=>t.2.2.2) e;rw[e4]at h1 h2;exact⟨h1,h2⟩
end
end
end Go.Proofs.YtfcaoggfnkhfiaaGreatDoor
