import Derived.Test.YtgfpocdiojifoaaGreatDoorZ03
import Derived.Laws.BitsAllLaws
namespace Go.Proofs.YtgfpocdiojifoaaGreatDoor
set_option maxRecDepth 100000
set_option maxHeartbeats 8000000
open Go.RowKit Go.Proofs.Tryz
variable{io:Io}{X:List Nat}{C L k lc lp n p pb st:Nat}{r r':R4}{w w':World}
def ed(st:Nat):Nat:=if st<4 then 0 else if st<10 then st-3 else st-6
def tj(lc lp:Nat)(H:List UInt8):Nat:=H.length%2^lp*2^lc+(if 0<H.length then(H.getD (H.length-1) 0).toNat else 0)/2^(8-lc)
theorem Bu(H:List UInt8)(ks:lc≤8):tj lc lp H<2^(lc+lp):=by
 unfold tj;have h1:H.length%2^lp<2^lp:=Nat.mod_lt _ (Nat.pow_pos an);have h2:(if 0<H.length then(H.getD (H.length-1) 0).toNat else 0)/2^(8-lc)<2^lc:=by
  rw[Nat.div_lt_iff_lt_mul (Nat.pow_pos an),←Nat.pow_add,show lc+(8-lc)=8 by omega];split;·exact(H.getD (H.length-1) 0).toNat_lt
  ·decide
 have h3:(H.length%2^lp+1)*2^lc≤2^lp*2^lc:=Nat.mul_le_mul_right _ h1;rw[Nat.pow_add,Nat.mul_comm (2^lc)];rw[Nat.add_mul]at h3;omega
theorem Bv(st:Nat)(_:st<12)(w:World):Calls prog 223 #[.int .i64 (st:Nat)] w fun e w'=>e= .returned (.int .i64 (ed st:Nat))∧w=w':=by
 have⟨S,hS⟩:=ex (ed st);rw[hS];unfold ed at hS;by_cases h1:st<4;·rw[if_pos h1]at hS;subst hS;have Un:(st:Int)<4:=aa;go_enter func223,ntmps223;go_wp2_with fail;go_ret;exact⟨rfl,rfl⟩
 ·have Un: ¬(st:Int)<4:=by omega
  rw[if_neg h1]at hS;by_cases h2:st<10;·have Xa:(st:Int)<10:=(by omega);rw[if_pos h2]at hS;have HS:=hdd hS;clear hS;go_enter func223,ntmps223;go_wp2_with fail;go_ret;have:=HS.out;exact⟨aq,rfl⟩
  ·have Xa: ¬(st:Int)<10:=(by omega);rw[if_neg h2]at hS;have HS:=hdd hS;clear hS;go_enter func223,ntmps223;go_wp2_with fail;go_ret;have:=HS.out;exact⟨aq,rfl⟩
theorem mr(st a b:Nat)(w:World):Calls prog 227 #[.int .i64 (st:Nat),.int .i64 (a:Nat),.int .i64 (b:Nat)] w fun e w'=>e= .returned (.int .i64 ((if st<7 then a else b:Nat):Int))∧w=w':=by
 by_cases h1:st<7
 ·have Un:(st:Int)<7:=by omega
  rw[if_pos h1];go_enter func227,ntmps227;go_wp2_with fail;go_ret;exact⟨rfl,rfl⟩
 ·have Un: ¬(st:Int)<7:=by omega
  rw[if_neg h1];go_enter func227,ntmps227;go_wp2_with fail;go_ret;exact⟨rfl,rfl⟩
def zB(v:Value)(w:World)(e:Ending)(w':World):Prop:=e= .returned v∧Below w.heap.size w w'
theorem eN{a:Int}(h0: -9223372036854775808≤a)(h1:a≤9223372036854775807):wrap64 a=a:=by unfold wrap64;omega
theorem JY{u K:Nat}(ks:lc≤4)(wz:lp≤4)(hu:u<256)(hK:n%2^lp*2^lc+u/2^(8-lc)=K):wrap64 (wrap64 (bits .and .i64 (n:Int) (wrap64 (wrap64 (2^lp)-1))*2^lc)+(u:Int)/2^(8-lc))=(K:Int):=by
 have h1:1≤2^lp:=Nat.one_le_two_pow;have h2:2^lp≤2^4:=Nat.pow_le_pow_right aa wz;have h3:2^lc≤2^4:=Nat.pow_le_pow_right aa ks;have e1:wrap64 ((2:Int)^lp)=((2^lp:Nat):Int):=by rw[show(2:Int)^lp=((2^lp:Nat):Int) by simp];exact eN aa aa
 have e2:wrap64 (((2^lp:Nat):Int)-1)=((2^lp-1:Nat):Int):=by rw[eN aa aa];omega
 have e3:(n:Int)%((2^lp:Nat):Int)=((n%2^lp:Nat):Int):=aa;have h4:n%2^lp<2^lp:=Nat.mod_lt _ h1;have h5:n%2^lp*2^lc≤16*16:=Nat.mul_le_mul aa aa;have e4:((n%2^lp:Nat):Int)*2^lc=((n%2^lp*2^lc:Nat):Int):=ae;have e5:(u:Int)/2^(8-lc)=((u/2^(8-lc):Nat):Int):=ae;have h6:u/2^(8-lc)≤u:=Nat.div_le_self _ _;rw[e1,e2,nH _ _ aa,e3,e4,e5];generalize n%2^lp*2^lc=N at*;generalize u/2^(8-lc)=U at*;rw[eN (a:=(N:Int)) aa aa,eN aa aa];omega
theorem Uo{P:Nat→Nat}(hM:bV w C L lc lp pb st r P)(ks:lc≤4)(wz:lp≤4)(A:Option Addr)(H:List UInt8)(c:Nat)(hB:Bytes w A H)(hc:H.length≤c)(hH:H.length≤1000000000):
  Calls prog 222 #[PF C,.slice A H.length c] w (zB (.int .i64 (tj lc lp H:Nat)) w):=by
 obtain⟨c0,c1,_⟩:=hM.cells;have⟨K,hK⟩:=ex (tj lc lp H);rw[hK];unfold tj at hK;have tY:(H.length:Int)≤(c:Int):=aa;have YT:(H.length:Int)≤1000000000:=aa;by_cases h0:0<H.length
 ·have h0i:(0:Int)<(H.length:Int):=by omega
  rw[if_pos h0]at hK;obtain⟨b,off,rfl,_,bx⟩:=hB.addr h0;have cx:=bx (H.length-1) aa;rw[←cY]at cx;generalize H.getD (H.length-1) 0=u at*;have⟨y,hy⟩:=ex (H.length-1);rw[hy]at cx;have hyi:(H.length:Int)-1=(y:Int):=aa;have YU:(y:Int)<(H.length:Int):=aa;have HK:=hdd hK;clear hK bx hB hy;go_enter func222,ntmps222;go_wp2_with fail;go_quiet (fail);go_wp2_with fail;go_ret;have e:=JY ks wz (u:=u.toNat) u.toNat_lt HK.out;have e0:wrap64 ((u.toNat:Nat):Int)=((u.toNat:Nat):Int):=eN aa (ar u.toNat_lt);refine⟨?_,below_drewN (Below.refl _ _) _⟩;show Ending.returned (Value.int .i64 _)=_;rw[e0,e]
 ·have h0i: ¬(0:Int)<(H.length:Int):=by omega
  rw[if_neg h0]at hK;have HK:=hdd hK;clear hK hB;go_enter func222,ntmps222;go_wp2_with fail;go_quiet (fail);go_wp2_with fail;go_ret;have e:=JY ks wz (u:=0) an HK.out;rw[show(((0:Nat):Nat):Int)/2^(8-lc)=0 by simp,Int.add_zero]at e;refine⟨?_,below_drewN (Below.refl _ _) _⟩;show Ending.returned (Value.int .i64 _)=_;exact congrArg (fun n:Int=>Ending.returned (Value.int .i64 n)) e
theorem wA{W1:World}{v0 v1 v2 v3 v4:Value}(h:(w.alloc (.cells #[v0,v1,v2,v3,v4] 158)).alloc (.cells #[.int .i64 0,.int .u8 0,.int .i64 0,.int .i64 0,.int .i64 0] 158)=W1):
  (W1.cell? ⟨w.heap.size,0,none⟩=some v0∧W1.cell? ⟨w.heap.size,1,none⟩=some v1∧W1.cell? ⟨w.heap.size,2,none⟩=some v2∧W1.cell? ⟨w.heap.size,3,none⟩=some v3∧W1.cell? ⟨w.heap.size,4,none⟩=some v4)∧
  W1.heap[w.heap.size+1]? =some (.cells [Value.int .i64 0,.int .u8 0,.int .i64 0,.int .i64 0,.int .i64 0].toArray 158 (0,0)):=by
 have h0:W1.heap[w.heap.size]? =some (.cells [v0,v1,v2,v3,v4].toArray 158 (0,0)):=by rw[←h];exact(Below.heap_alloc _ _ _ ae).trans (heap_alloc_last w _)
 have h1:W1.heap[w.heap.size+1]? =some (.cells [Value.int .i64 0,.int .u8 0,.int .i64 0,.int .i64 0,.int .i64 0].toArray 158 (0,0)):=by rw[←h];have h:=heap_alloc_last (w.alloc (.cells #[v0,v1,v2,v3,v4] 158)) (.cells #[.int .i64 0,.int .u8 0,.int .i64 0,.int .i64 0,.int .i64 0] 158);simpa using h
 refine⟨⟨?_,?_,?_,?_,?_⟩,h1⟩<;>(rw[cell_of_row W1 _ _ _ _ _ h0];rfl)
theorem nI{x:io.S}(h:fZ io C L lc lp pb st r x X (w.drewN n) w'):fZ io C L lc lp pb st r x X w w':=by obtain⟨X',hM,bU,hX⟩:=h;exact⟨X',hM,az.mh bU,hX⟩
theorem MS.front{x:io.S}(h:MS io w C L lc lp pb st r x X)(hm:bV w' C L lc lp pb st r' x.1)(ho:az [C] w w'):MS io w' C L lc lp pb st r' x X:=
 ⟨hm,io.aI h.io ho.size (fun i hi=>ho.block i (io.lt h.io i hi) (fun e=>h.rv AU)),h.rv,h.uC⟩
theorem OX(io:Io){x:io.S}(hM:MS io w C L lc lp pb st r x X)(hp:p<16)(kk:Int)(b:UInt8)(l d q:Int)(OU:0≤l)(wq:l≤300)(hd0:0≤d)(ky:d≤4294967295)
  {n dd:Nat} {y Z:io.S} (iy:Md.len io 432 p l x=(n,y)) (iA:Md.de io n d y=(dd,Z)) (aR:io.ok x.2 (k+52)):
  Calls prog 205 #[PF C,io.v,.int .i64 (p:Nat),j2 kk b l d q] w (mm (2≤n∧n≤273∧1≤dd∧dd≤4294967296∧io.ok Z.2 k) (jy (j2 1 0 (n:Nat) (dd:Nat) 0) io C L lc lp pb (if st<7 then 7 else 10) (fp r 3 (dd:Nat)) Z X w)):=by
 have⟨ls,OY⟩:=ex ((if st<7 then 7 else 10));rw[OY];have Gx:=hdd OY;obtain⟨r',JZ⟩: ∃r',fp r 3 (dd:Nat)=r':=⟨_,rfl⟩
 rw[JZ];have HR':=hdd JZ;have⟨Q,hQ⟩:=ex ((2≤n∧n≤273∧1≤dd∧dd≤4294967296∧io.ok Z.2 k));rw[hQ];have HQ:=hdd hQ;clear OY JZ hQ;have ib:Hid (∀i∈C::L::X,i<w.heap.size):=hdd (by
  intro i hi;simp only[List.mem_cons]at hi;rcases hi with rfl | rfl | hi;·exact hM.mod.CS
  ·exact hM.mod.Br
  ·exact io.lt hM.io i hi)
 have⟨bs,pq⟩:=ex (w.heap.size+1);have jS:=hdd pq;clear pq;have⟨W1,dE⟩:=ex ((w.alloc (.cells #[.int .i64 kk,.int .u8 (b.toNat:Nat),.int .i64 l,.int .i64 d,.int .i64 q] 158)).alloc (.cells #[.int .i64 0,.int .u8 0,.int .i64 0,.int .i64 0,.int .i64 0] 158));have aC:Below w.heap.size w W1:=by rw[←dE];exact(ap).alloc ae _
 have fq:=hM.below aC;obtain⟨Tq,lY⟩:=wA dE;rw[jS.out]at lY;have vj:=hdd dE;have jd:=hdd fq;have eZ:=hdd Tq;have qX:=hdd lY;have cu:=hdd aC;have Xb:C≠bs:=fun e=>by have:=ib.out C ae;have:=jS.out;omega
 have NY:bs≠C:=fun e=>Xb e.symm;have jB:Hid (w.heap.size ∉ C::L::X∧bs ∉ C::L::X):=hdd ⟨fun h=>ar (ib.out _ h),fun h=>AW⟩;clear dE fq Tq lY aC hM;have ee:=hdd (Gw io (jd.out.drewN 1) iy (k:=k+42) aR (.inl rfl) hp OU wq);have pK:=hdd iA;have rz:(p:Int)<16:=aa;have bE:=eZ.out.2.2.1;clear iy iA aR;go_enter func205,ntmps205;go_upto_region 1 with fail;rw[vj.out,jS.out];refine wp_region_held_drew (S:=fun w2=>w2.cell? ⟨w.heap.size,2,none⟩=some (.int .i64 l)) ak bE (fun hS=> ?_);refine af 0 hS (h:=af 1 hS (h:=af 2 hS (h:=af 3 hS (h:=af 4 hS (h:=af 5 hS (h:=aZ 6 hS (h:= ?_)))))));refine aG 7 (fun K hK=> ?_);go_simp;refine ee.out.mono ?_;rintro e x4 ⟨⟨rfl,yR⟩,yP,oT,Xc⟩;obtain⟨X4,Gy,js,hX4⟩:=(show fZ io C L lc lp pb st r y X W1 x4 from nI yR)
 have Gz:=hdd js;have g4:=ao Gz.out jB.out.1 eZ.out.2.2.1;have yM:=hdd Gy;have HX4:=hdd hX4;have K6:=hdd Xc;have Tr:=hdd (And.intro yP oT);have arf:(n:Int)≤273:=aa;clear Gy js hX4 Xc yP oT;go_wp2_with fail;refine hK.out _ _ g4 (fun _=> ?_);clear hK K;refine af 8 g4 (h:= ?_);refine wpAnyH_done ak ?_ _;have g4':=ao Gz.out jB.out.1 eZ.out.2.2.2.1;clear hS g4 bE ee;have acs:=hdd (Uj io (yM.out.drewN 1) pK.out K6.out Tr.out.1 (ar Tr.out) hd0 ky);have bE:=g4';have arh:=HX4;go_upto_region 2 with fail;refine wp_region_held_drew (S:=fun w2=>w2.cell? ⟨w.heap.size,3,none⟩=some (.int .i64 d)) ak bE (fun hS=> ?_);refine af 0 hS (h:=af 1 hS (h:=af 2 hS (h:=af 3 hS (h:=af 4 hS (h:=af 5 hS (h:=aZ 6 hS (h:= ?_)))))));refine aG 7 (fun K hK=> ?_);go_simp;refine acs.out.mono ?_;rintro e x5 ⟨⟨rfl,FV⟩,ky,pL,Xd⟩;obtain⟨X5,Up,nJ,hX5⟩:=fZ.trans Gz.out HX4.out (show fZ io C L lc lp pb st r Z X4 x4 x5 from nI FV);have acu:=hdd nJ;have g5:=ao acu.out jB.out.1 eZ.out.2.2.2.1;have OZ:=hdd Up;have YV:=hdd hX5;have DQ:=hdd Xd;have HD5:=hdd (And.intro ky pL);clear Up nJ hX5 Xd ky pL FV;go_wp2_with fail;refine hK.out _ _ g5 (fun _=> ?_);clear hK K;refine af 8 g5 (h:= ?_);refine wpAnyH_done ak ?_ _;clear hS g5 bE acs g4';have CU:=hdd (tg OZ.out.mod 3 aa (dd:Nat));rw[HR'.out]at CU;have jb:Hid (∀i∈X5,i∈X∨W1.heap.size≤i):=YV;go_wp2_with fail;refine CU.out.mono ?_;rintro e x6 ⟨rfl,YW,mV⟩;have yB:=OZ.out.front YW mV;have jN:az (C::L::X) W1 x6:=acu.out.trans mV (fun i hi=> .inl (by simp at hi;simp[hi]));have Uq:=hdd yB;have mj:=hdd jN;obtain⟨_,_,_,c3,_⟩:=yB.mod.cells;have f3:=yB.mod.iW 3;have GA:=mr st 7 10 x6;rw[Gx.out]at GA;have NZ:=hdd GA;have lY:=(mj.out.block bs nx jB.out.2).trans qX.out;have z0:x6.cell? ⟨bs,0,none⟩=some (.int .i64 0):=vF;have z1:x6.cell? ⟨bs,1,none⟩=some (.int .u8 0):=vF;have z2:x6.cell? ⟨bs,2,none⟩=some (.int .i64 0):=vF;have z3:x6.cell? ⟨bs,3,none⟩=some (.int .i64 0):=vF;have z4:x6.cell? ⟨bs,4,none⟩=some (.int .i64 0):=vF;have zf: ∀i,x6.frozen? ⟨bs,i,none⟩=false:=fun i=>frozen_of_row _ _ _ _ _ lY;have zC:=zf 0;have zD:=zf 1;have CV:=zf 2;have CW:=zf 3;have YX:=zf 4;clear lY zf;clear YW mV yB jN GA CU;go_wp2_with fail;refine NZ.out.mono ?_;rintro e x7 ⟨rfl,rfl⟩;go_wp2_with fail;refine bodyPost_ret (v:=j2 1 0 (n:Nat) (dd:Nat) 0) (by simp[results,results205,go_sem,z0,z1,z2,z3,z4]) rfl ⟨⟨rfl,X5,?_,?_,?_⟩,by rw[←HQ.out];exact⟨Tr.out.1,Tr.out.2,HD5.out.1,HD5.out.2,DQ.out⟩⟩
 ·have jM:bs ∉ C::L::X5:=fun h=>by
   simp only[List.mem_cons]at h;rcases h with h | h | h;·exact NY h
   ·have:=ib.out L ae;have:=jS.out;omega
   ·rcases jb.out _ h with h | h;·have:=ib.out bs dS;have:=jS.out;omega
    ·have:=(cr qX.out);omega
  exact(((((Uq.out.ii (k:=3) (st':=ls) (r':=r') an rfl).aX jM _).aX jM _).aX jM _).aX jM _).aX jM _
 ·have h0:az (C::L::X) w x6:=(az.br cu.out).trans mj.out (fun i hi=> .inl hi);have hn:bs∈C::L::X∨w.heap.size≤bs:= .inr (ar jS.out);exact(((((h0.setCell (p:=⟨C,3,none⟩) (.inl ae) _).setCell (p:=⟨bs,0,none⟩) hn _).setCell (p:=⟨bs,1,none⟩) hn _).setCell (p:=⟨bs,2,none⟩) hn _).setCell (p:=⟨bs,3,none⟩) hn _).setCell (p:=⟨bs,4,none⟩) hn _
 ·intro i hi;rcases jb.out i hi with h | h;·exact .inl h
  ·exact .inr (Nat.le_trans cu.out.size h)
theorem bN{st':Nat}{x':io.S}{X1:List Nat}{w1 w2:World}(ho:az (C::L::X) w w1∧ ∀i∈X1,i∈X∨w.heap.size≤i)(h:fZ io C L lc lp pb st' r' x' X1 (w1.drewN n) w2):fZ io C L lc lp pb st' r' x' X w w2:=fZ.trans ho.1 ho.2 (nI h)
namespace Md
def which(io:Io)(st:Nat)(q:Int)(x:io.S):Nat×io.S:=
 let a:=io.au (204+st) (q !=0) x
 if a.1=false then(0,a.2)
 else
  let b:=io.au (216+st) (q !=1) a.2
  if b.1=false then(1,b.2)
  else
   let c:=io.au (228+st) (q !=2) b.2
   (2+c.1.toNat,c.2)
def uF(io:Io)(st p:Nat)(l q:Int)(x:io.S):(Nat×Nat)×io.S:=
 let w:=which io st q x
 if w.1=0 then
  let s:=io.au (240+16*st+p) (l !=1) w.2
  if s.1=false then((0,1),s.2)
  else
   let n:=len io 946 p l s.2
   ((0,n.1),n.2)
 else
  let n:=len io 946 p l w.2
  ((w.1,n.1),n.2)
end Md
theorem O0(io:Io){x:io.S}(hM:MS io w C L lc lp pb st r x X)(bJ:st<12){wh:Nat}{q:Int}{Z:io.S}(hR:Md.which io st q x=(wh,Z))(aR:io.ok x.2 (k+3)):
  Calls prog 228 #[PF C,io.v,.int .i64 q] w (mm (wh≤3∧io.ok Z.2 k) (jy (.int .i64 (wh:Nat)) io C L lc lp pb st r Z X w)):=by
 have⟨Q,hQ⟩:=ex ((wh≤3∧io.ok Z.2 k));rw[hQ];have HQ:=hdd hQ;have GB:(st:Int)<12:=aa;have iE:=hdd bJ;unfold Md.which at hR;obtain⟨⟨A,y⟩,hy⟩: ∃z,io.au (204+st) (q !=0) x=z:=⟨_,rfl⟩
 obtain⟨h1,jA⟩:=ml io (hM.drewN 1) hy (at_:=204) (j:=st) (len:=12) (cp:=12) (b:=C) (off:=212) rfl (k:=k+2) aR (Md.lF rfl aa) bJ aa aa;simp only[hy]at hR;have H1:=hdd h1;have kv:=hdd jA;have HR:=hdd hR;have acv:az (C::L::X) w w∧ ∀i∈X,i∈X∨w.heap.size≤i:=⟨az.refl _ _,fun i hi=> .inl hi⟩
 have YY:=hdd acv;have bE:=hM.mod.cells.2.2.2.1;have lu:=bE;clear hy hR h1 jA aR hQ hM bJ acv;go_enter func228,ntmps228;go_upto_region 2 with fail;refine wp_region_held_drew (S:=fun w2=>w2.cell? ⟨C,3,none⟩=some (.int .i64 (st:Nat))) ak bE (fun hS=> ?_);refine af 0 hS (h:=af 1 hS (h:=af 2 hS (h:=af 3 hS (h:=af 4 hS (h:=af 5 hS (h:=af 6 hS (h:=af 7 hS (h:=aZ 8 hS (h:=af 9 hS (h:=af 10 hS (h:= ?_)))))))))));refine aG 11 (fun K hK=> ?_);go_simp;refine H1.out.mono ?_;rintro e x1 ⟨rfl,O1⟩;obtain⟨X1,GC,zE,O2⟩:=bN YY.out O1;have GD:=hdd GC;have rD:=hdd (And.intro zE O2);have Xe:=GC.mod.cells.2.2.2.1;clear GC zE O2 O1;go_wp2_with fail;refine hK.out _ _ Xe (fun _=> ?_);clear hK K;refine af 12 Xe (h:=af 13 Xe (h:= ?_));refine wpAnyH_done ak ?_ _;clear hS bE lu H1;cases A with
 | false=>
  have hR:=HR.out;simp only[if_true]at hR;injection hR with iy iA;have mU:=hdd (And.intro iy.symm iA.symm);clear iy iA;rw[show dl false=0 from rfl];go_wp2_with fail;go_ret;obtain⟨e1,e2⟩:=mU.out;subst e1 e2;exact⟨⟨rfl,X1,GD.out,rD.out.1,rD.out.2⟩,by rw[←HQ.out];exact⟨aa,io.le kv.out aa⟩⟩
 | true=>
  have hR:=HR.out;simp only[Bool.true_eq_false,if_false]at hR;obtain⟨⟨B,y2⟩,hy⟩: ∃z,io.au (216+st) (q !=1) y=z:=⟨_,rfl⟩
  obtain⟨h1,jA⟩:=ml io (GD.out.drewN 1) hy (at_:=216) (j:=st) (len:=12) (cp:=12) (b:=C) (off:=224) rfl (k:=k+1) kv.out (Md.lF rfl aa) iE.out aa aa;simp only[hy]at hR;have H1:=hdd h1;have d9:=hdd jA;have pK:=hdd hR;clear hy hR h1 jA;rw[show dl true=1 from rfl];have bE:=GD.out.mod.cells.2.2.2.1;go_upto_region 4 with fail;refine wp_region_held_drew (S:=fun w2=>w2.cell? ⟨C,3,none⟩=some (.int .i64 (st:Nat))) ak bE (fun hS=> ?_);refine af 0 hS (h:=af 1 hS (h:=af 2 hS (h:=af 3 hS (h:=af 4 hS (h:=af 5 hS (h:=af 6 hS (h:=af 7 hS (h:=aZ 8 hS (h:=af 9 hS (h:=af 10 hS (h:= ?_)))))))))));refine aG 11 (fun K hK=> ?_);go_simp;refine H1.out.mono ?_;rintro e x2 ⟨rfl,O3⟩;obtain⟨X2,GE,zF,O4⟩:=bN rD.out O3;have K7:=hdd GE;have nm:=hdd (And.intro zF O4);have Xf:=GE.mod.cells.2.2.2.1;clear GE zF O4 O3;go_wp2_with fail;refine hK.out _ _ Xf (fun _=> ?_);clear hK K;refine af 12 Xf (h:=af 13 Xf (h:= ?_));refine wpAnyH_done ak ?_ _;clear hS bE H1;cases B with
  | false=>
   have hR:=pK.out;simp only[if_true]at hR;injection hR with iy iA;have mU:=hdd (And.intro iy.symm iA.symm);clear iy iA;rw[show dl false=0 from rfl];go_wp2_with fail;go_ret;obtain⟨e1,e2⟩:=mU.out;subst e1 e2;exact⟨⟨rfl,X2,K7.out,nm.out.1,nm.out.2⟩,by rw[←HQ.out];exact⟨aa,io.le d9.out aa⟩⟩
  | true=>
   have hR:=pK.out;simp only[Bool.true_eq_false,if_false]at hR;obtain⟨⟨D,y3⟩,hy⟩: ∃z,io.au (228+st) (q !=2) y2=z:=⟨_,rfl⟩
   obtain⟨h1,jA⟩:=ml io (K7.out.drewN 1) hy (at_:=228) (j:=st) (len:=12) (cp:=12) (b:=C) (off:=236) rfl (k:=k) d9.out (Md.lF rfl aa) iE.out aa aa;simp only[hy]at hR;injection hR with iy iA;have mU:=hdd (And.intro iy.symm iA.symm);have H1:=hdd h1;have GF:=hdd jA;clear hy iy iA h1 jA;rw[show dl true=1 from rfl];have bE:=K7.out.mod.cells.2.2.2.1;go_upto_region 1 with fail;refine wp_region_held_drew (S:=fun w2=>w2.cell? ⟨C,3,none⟩=some (.int .i64 (st:Nat))) ak bE (fun hS=> ?_);refine af 0 hS (h:=af 1 hS (h:=af 2 hS (h:=af 3 hS (h:=af 4 hS (h:=af 5 hS (h:=af 6 hS (h:=af 7 hS (h:=aZ 8 hS (h:=af 9 hS (h:=af 10 hS (h:= ?_)))))))))));refine aG 11 (fun K hK=> ?_);go_simp;refine H1.out.mono ?_;rintro e x3 ⟨rfl,acw⟩;obtain⟨X3,YZ,Xg,acx⟩:=bN nm.out acw;have aiG:=hdd YZ;have acy:=hdd (And.intro Xg acx);have gx3:=YZ.mod.cells.2.2.2.1;clear YZ Xg acx acw;go_wp2_with fail;refine hK.out _ _ gx3 (fun _=> ?_);clear hK K;refine af 12 gx3 (h:=af 13 gx3 (h:= ?_));refine wpAnyH_done ak ?_ _;clear hS bE H1;have hB:dl D=(D.toNat:Int):=(by cases D<;>rfl);have hBl:D.toNat≤1:=(by cases D<;>decide);go_wp2_with fail;go_ret;obtain⟨e1,e2⟩:=mU.out;subst e1 e2;refine⟨⟨?_,X3,aiG.out,acy.out.1,acy.out.2⟩,by rw[←HQ.out];exact⟨aa,GF.out⟩⟩;refine congrArg (fun n:Int=>Ending.returned (Value.int .i64 n)) ?_;simp only[hB,IntKind.wrap_i64];omega
theorem Ur(io:Io){x:io.S}(hM:MS io w C L lc lp pb st r x X)(bJ:st<12)(hp:p<16)(kk:Int)(b:UInt8)(l d q:Int)(OU:0≤l)(wq:l≤300)
  {wh n:Nat} {Z:io.S} (hR:Md.uF io st p l q x=((wh,n),Z)) (aR:io.ok x.2 (k+14)):
  Calls prog 206 #[PF C,io.v,.int .i64 (p:Nat),j2 kk b l d q] w (mm (wh≤3∧1≤n∧n≤273∧(n=1→wh=0)∧io.ok Z.2 k) (jy (j2 2 0 (n:Nat) 0 (wh:Nat)) io C L lc lp pb (if st<7 then(if n=1 then 9 else 8)else 11) (fp r wh (r4 r.1 r.2.1 r.2.2.1 r.2.2.2 wh)) Z X w)):=by
 have⟨ls,OY⟩:=ex ((if st<7 then(if n=1 then 9 else 8)else 11));rw[OY];have Gx:=hdd OY;obtain⟨r',JZ⟩: ∃r',fp r wh (r4 r.1 r.2.1 r.2.2.1 r.2.2.2 wh)=r':=⟨_,rfl⟩
 rw[JZ];have HR':=hdd JZ;have⟨Q,hQ⟩:=ex ((wh≤3∧1≤n∧n≤273∧(n=1→wh=0)∧io.ok Z.2 k));rw[hQ];have HQ:=hdd hQ;clear OY JZ hQ;have ib:Hid (∀i∈C::L::X,i<w.heap.size):=hdd (by
  intro i hi;simp only[List.mem_cons]at hi;rcases hi with rfl | rfl | hi;·exact hM.mod.CS
  ·exact hM.mod.Br
  ·exact io.lt hM.io i hi)
 have⟨bs,pq⟩:=ex (w.heap.size+1);have jS:=hdd pq;clear pq;have⟨W1,dE⟩:=ex ((w.alloc (.cells #[.int .i64 kk,.int .u8 (b.toNat:Nat),.int .i64 l,.int .i64 d,.int .i64 q] 158)).alloc (.cells #[.int .i64 0,.int .u8 0,.int .i64 0,.int .i64 0,.int .i64 0] 158));have aC:Below w.heap.size w W1:=by rw[←dE];exact(ap).alloc ae _
 have fq:=hM.below aC;obtain⟨Tq,lY⟩:=wA dE;rw[jS.out]at lY;have vj:=hdd dE;have jd:=hdd fq;have eZ:=hdd Tq;have qX:=hdd lY;have cu:=hdd aC;have Xb:C≠bs:=fun e=>by have:=ib.out C ae;have:=jS.out;omega
 have NY:bs≠C:=fun e=>Xb e.symm;have jB:Hid (w.heap.size ∉ C::L::X∧bs ∉ C::L::X):=hdd ⟨fun h=>ar (ib.out _ h),fun h=>AW⟩;clear dE fq Tq lY aC hM;unfold Md.uF at hR;obtain⟨⟨v,y⟩,hy⟩: ∃z,Md.which io st q x=z:=⟨_,rfl⟩
 simp only[hy]at hR;have HWH:=hdd (O0 io jd.out bJ hy (k:=k+11) aR);have rz:(p:Int)<16:=aa;have GB:(st:Int)<12:=aa;have kJ:=eZ.out.2.2.2.2;have HR:=hdd hR;clear hy hR aR;go_enter func206,ntmps206;go_upto_region 1 with fail;rw[vj.out,jS.out];go_wp2_with fail;refine HWH.out.mono ?_;rintro e x4 ⟨⟨rfl,yR⟩,hv3,Xc⟩;obtain⟨X4,Gy,js,hX4⟩:=yR;have yM:=hdd Gy;have CX:=hdd (And.intro js hX4);have K6:=hdd Xc;have bE:=And.intro Gy.mod.cells.2.2.2.1 (ao js jB.out.1 eZ.out.2.2.1);clear Gy js hX4 Xc HWH kJ;by_cases hv:v=0
 ·subst hv;have hR:=HR.out;rw[if_pos rfl]at hR;obtain⟨⟨B,y2⟩,hy⟩: ∃z,io.au (240+16*st+p) (l !=1) y=z:=⟨_,rfl⟩
  obtain⟨h1,jA⟩:=ml io (yM.out.drewN 1) hy (at_:=240+16*st) (j:=p) (len:=16) (cp:=16) (b:=C) (off:=248+st*16) rfl (k:=k+10) K6.out (Md.lF aa aa) hp aa aa;simp only[hy]at hR;have pI:=hdd h1;have DQ:=hdd jA;have pK:=hdd hR;clear hy hR h1 jA;go_upto_region 2 with fail;refine wp_region_held_drew (S:=fun w2=>w2.cell? ⟨C,3,none⟩=some (.int .i64 (st:Nat))∧w2.cell? ⟨w.heap.size,2,none⟩=some (.int .i64 l)) ak bE (fun hS=> ?_);refine af 0 hS (h:=af 1 hS (h:=af 2 hS (h:=af 3 hS (h:=af 4 hS (h:=af 5 hS (h:=af 6 hS (h:=af 7 hS (h:=aZ 8 hS (h:=af 9 hS (h:=af 10 hS (h:=af 11 hS (h:= ?_))))))))))));refine af 12 hS (h:=af 13 hS (h:=af 14 hS (h:=aZ 15 hS (h:=af 16 hS (h:= ?_)))));refine aG 17 (fun K hK=> ?_);go_simp;refine pI.out.mono ?_;rintro e x5 ⟨rfl,FV⟩;obtain⟨X5,Up,nJ,hX5⟩:=bN CX.out FV;have OZ:=hdd Up;have CY:=hdd (And.intro nJ hX5);have g5:=And.intro Up.mod.cells.2.2.2.1 (ao nJ jB.out.1 eZ.out.2.2.1);clear Up nJ hX5 FV;go_wp2_with fail;refine hK.out _ _ g5 (fun _=> ?_);clear hK K;refine af 18 g5 (h:=af 19 g5 (h:= ?_));refine wpAnyH_done ak ?_ _;clear hS bE pI g5;cases B with
  | false=>
   have hR:=pK.out;simp only[if_true]at hR;injection hR with iy iA;injection iy with iy GG;have mU:Hid (wh=0∧n=1∧Z=y2):=hdd ⟨iy.symm,GG.symm,iA.symm⟩;clear iy iA GG;rw[show dl false=0 from rfl];obtain⟨_,_,_,c3,_⟩:=OZ.out.mod.cells;have f3:=OZ.out.mod.iW 3;have GA:=mr st 9 11 x5;rw[show(if st<7 then 9 else 11)=ls from by rw[←Gx.out,mU.out.2.1];rfl]at GA;have NZ:=hdd GA;have mj:Hid (az (C::L::X) W1 x5):=hdd CY.out.1;have jb:Hid (∀i∈X5,i∈X∨W1.heap.size≤i):=hdd CY.out.2;have Xh:Hid (r'=r):=hdd (by rw[←HR'.out,mU.out.1];rfl);have lY:=(mj.out.block bs nx jB.out.2).trans qX.out;have z0:x5.cell? ⟨bs,0,none⟩=some (.int .i64 0):=vG;have z1:x5.cell? ⟨bs,1,none⟩=some (.int .u8 0):=vG;have z2:x5.cell? ⟨bs,2,none⟩=some (.int .i64 0):=vG;have z3:x5.cell? ⟨bs,3,none⟩=some (.int .i64 0):=vG;have z4:x5.cell? ⟨bs,4,none⟩=some (.int .i64 0):=vG;have zf: ∀i,x5.frozen? ⟨bs,i,none⟩=false:=fun i=>frozen_of_row _ _ _ _ _ lY;have zC:=zf 0;have zD:=zf 1;have CV:=zf 2;have CW:=zf 3;have YX:=zf 4;clear lY zf;clear GA;go_wp2_with fail;refine NZ.out.mono ?_;rintro e x8 ⟨rfl,rfl⟩;go_wp2_with fail;rw[mU.out.2.2,Xh.out];refine bodyPost_ret (v:=j2 2 0 (n:Nat) 0 (wh:Nat)) (by simp[results,results206,go_sem,mU.out.1,mU.out.2.1,z0,z1,z2,z3,z4]) rfl ⟨⟨rfl,X5,?_,?_,?_⟩,by rw[←HQ.out,mU.out.2.2];have:=mU.out;exact⟨aa,aa,aa,aa,io.le DQ.out aa⟩⟩
   ·have jM:bs ∉ C::L::X5:=fun h=>by
     simp only[List.mem_cons]at h;rcases h with h | h | h;·exact NY h
     ·have:=ib.out L ae;have:=jS.out;omega
     ·rcases jb.out _ h with h | h;·have:=ib.out bs dS;have:=jS.out;omega
      ·have:=(cr qX.out);omega
    exact(((((OZ.out.ii (k:=3) (st':=ls) (r':=r) an rfl).aX jM _).aX jM _).aX jM _).aX jM _).aX jM _
   ·have h0:az (C::L::X) w x5:=(az.br cu.out).trans mj.out (fun i hi=> .inl hi);have hn:bs∈C::L::X∨w.heap.size≤bs:= .inr (ar jS.out);exact(((((h0.setCell (p:=⟨C,3,none⟩) (.inl ae) _).setCell (p:=⟨bs,0,none⟩) hn _).setCell (p:=⟨bs,1,none⟩) hn _).setCell (p:=⟨bs,2,none⟩) hn _).setCell (p:=⟨bs,3,none⟩) hn _).setCell (p:=⟨bs,4,none⟩) hn _
   ·intro i hi;rcases jb.out i hi with h | h;·exact .inl h
    ·exact .inr (Nat.le_trans cu.out.size h)
  | true=>
   have hR:=pK.out;simp only[Bool.true_eq_false,if_false]at hR;obtain⟨⟨n2,z⟩,hz⟩: ∃q,Md.len io 946 p l y2=q:=⟨_,rfl⟩
   simp only[hz]at hR;injection hR with iy iA;injection iy with iy GG;subst iy iA GG;have HZ:=hdd hz;clear hz;rw[show dl true=1 from rfl];have bE:=ao CY.out.1 jB.out.1 eZ.out.2.2.1;have ee:=hdd (Gw io (OZ.out.drewN 1) HZ.out (k:=k) (io.le DQ.out aa) (.inr rfl) hp OU wq);go_upto_region 5 with fail;refine wp_region_held_drew (S:=fun w2=>w2.cell? ⟨w.heap.size,2,none⟩=some (.int .i64 l)) ak bE (fun hS=> ?_);refine af 0 hS (h:=af 1 hS (h:=af 2 hS (h:=af 3 hS (h:=af 4 hS (h:=af 5 hS (h:=aZ 6 hS (h:= ?_)))))));refine aG 7 (fun K hK=> ?_);go_simp;refine ee.out.mono ?_;rintro e x6 ⟨⟨rfl,yQ⟩,yP,oT,ok6⟩;obtain⟨X6,yB,jN,hX6⟩:=bN CY.out yQ;have g6:=ao jN jB.out.1 eZ.out.2.2.1;have Uq:=hdd yB;have Ts:=hdd (And.intro jN hX6);have TR:=hdd ok6;have NR:=hdd (And.intro yP oT);have aiJ:(n2:Int)≤273:=aa;clear yB jN hX6 ok6 yP oT yQ;go_wp2_with fail;refine hK.out _ _ g6 (fun _=> ?_);clear hK K;refine af 8 g6 (h:= ?_);refine wpAnyH_done ak ?_ _;clear hS bE ee g6;obtain⟨_,_,_,_,c4,c5,c6,c7⟩:=Uq.out.mod.cells;have CU:=hdd (tg Uq.out.mod 0 aa (r4 r.1 r.2.1 r.2.2.1 r.2.2.2 0));rw[HR'.out]at CU;have jb:Hid (∀i∈X6,i∈X∨W1.heap.size≤i):=hdd Ts.out.2;have O5:x6.cell? ⟨C,4+0,none⟩=some (.int .i64 (r4 r.1 r.2.1 r.2.2.1 r.2.2.2 0)):=by
    have h3:0≤3:=aa;rcases(by omega:0=0∨0=1∨0=2∨0=3)with h | h | h | h;·rw[h];exact c4
    ·rw[h];exact c5
    ·rw[h];exact c6
    ·rw[h];exact c7
   have⟨RQ,hRQ⟩:=ex (r4 r.1 r.2.1 r.2.2.1 r.2.2.2 0);rw[hRQ]at O5 CU;clear hRQ c4 c5 c6 c7;go_wp2_with fail;refine CU.out.mono ?_;rintro e x7 ⟨rfl,Us,tk⟩;have Ut:=Uq.out.front Us tk;have O6:az (C::L::X) W1 x7:=Ts.out.1.trans tk (fun i hi=> .inl (by simp at hi;simp[hi]));have HM7:=hdd Ut;have mj:=hdd O6;obtain⟨_,_,_,c3,_⟩:=Ut.mod.cells;have f3:=Ut.mod.iW 3;have GA:=mr st 8 11 x7;rw[show(if st<7 then 8 else 11)=ls from by rw[←Gx.out];split;rw[if_neg (ar NR.out.1)];rfl]at GA;have NZ:=hdd GA;have lY:=(mj.out.block bs nx jB.out.2).trans qX.out;have z0:x7.cell? ⟨bs,0,none⟩=some (.int .i64 0):=kY;have z1:x7.cell? ⟨bs,1,none⟩=some (.int .u8 0):=kY;have z2:x7.cell? ⟨bs,2,none⟩=some (.int .i64 0):=kY;have z3:x7.cell? ⟨bs,3,none⟩=some (.int .i64 0):=kY;have z4:x7.cell? ⟨bs,4,none⟩=some (.int .i64 0):=kY;have zf: ∀i,x7.frozen? ⟨bs,i,none⟩=false:=fun i=>frozen_of_row _ _ _ _ _ lY;have zC:=zf 0;have zD:=zf 1;have CV:=zf 2;have CW:=zf 3;have YX:=zf 4;clear lY zf;clear Us tk Ut O6 GA CU O5;go_wp2_with fail;refine NZ.out.mono ?_;rintro e x8 ⟨rfl,rfl⟩;go_wp2_with fail;refine bodyPost_ret (v:=j2 2 0 (n2:Nat) 0 ((0:Nat):Int)) (by simp[results,results206,go_sem,z0,z1,z2,z3,z4]) rfl ⟨⟨rfl,X6,?_,?_,?_⟩,by rw[←HQ.out];have:=NR.out;exact⟨aa,aa,aa,aa,TR.out⟩⟩
   ·have jM:bs ∉ C::L::X6:=fun h=>by
     simp only[List.mem_cons]at h;rcases h with h | h | h;·exact NY h
     ·have:=ib.out L ae;have:=jS.out;omega
     ·rcases jb.out _ h with h | h;·have:=ib.out bs dS;have:=jS.out;omega
      ·have:=(cr qX.out);omega
    exact(((((HM7.out.ii (k:=3) (st':=ls) (r':=r') an rfl).aX jM _).aX jM _).aX jM _).aX jM _).aX jM _
   ·have h0:az (C::L::X) w x7:=(az.br cu.out).trans mj.out (fun i hi=> .inl hi);have hn:bs∈C::L::X∨w.heap.size≤bs:= .inr (ar jS.out);exact(((((h0.setCell (p:=⟨C,3,none⟩) (.inl ae) _).setCell (p:=⟨bs,0,none⟩) hn _).setCell (p:=⟨bs,1,none⟩) hn _).setCell (p:=⟨bs,2,none⟩) hn _).setCell (p:=⟨bs,3,none⟩) hn _).setCell (p:=⟨bs,4,none⟩) hn _
   ·intro i hi;rcases jb.out i hi with h | h;·exact .inl h
    ·exact .inr (Nat.le_trans cu.out.size h)
 ·have hR:=HR.out;rw[if_neg hv]at hR;have hvb:((v:Int)==0)=false:=beq_eq_false_iff_ne.2 aa;have hvi:(v:Int)<4:=aa;obtain⟨⟨n2,z⟩,hz⟩: ∃q,Md.len io 946 p l y=q:=⟨_,rfl⟩
  simp only[hz]at hR;injection hR with iy iA;injection iy with iy GG;subst iy iA GG;have HZ:=hdd hz;clear hz;go_upto_region 2 with fail;refine wp_region_held_drew (S:=fun w2=>w2.cell? ⟨C,3,none⟩=some (.int .i64 (st:Nat))∧w2.cell? ⟨w.heap.size,2,none⟩=some (.int .i64 l)) ak bE (fun hS=> ?_);refine af 0 hS (h:=af 1 hS (h:=af 2 hS (h:=cJ 3 hS (h:=cJ 4 hS (h:=cJ 5 hS (h:=cJ 6 hS (h:=cJ 7 hS (h:=cJ 8 hS (h:=cJ 9 hS (h:=cJ 10 hS (h:=cJ 11 hS (h:= ?_))))))))))));refine cJ 12 hS (h:=cJ 13 hS (h:=cJ 14 hS (h:=cJ 15 hS (h:=cJ 16 hS (h:=cJ 17 hS (h:=cJ 18 hS (h:=af 19 hS (h:= ?_))))))));refine wpAnyH_done ak ?_ _;clear hS bE;have bE:=ao CX.out.1 jB.out.1 eZ.out.2.2.1;have ee:=hdd (Gw io (yM.out.drewN 2) HZ.out (k:=k) (io.le K6.out aa) (.inr rfl) hp OU wq);go_upto_region 5 with fail;refine wp_region_held_drew (S:=fun w2=>w2.cell? ⟨w.heap.size,2,none⟩=some (.int .i64 l)) ak bE (fun hS=> ?_);refine af 0 hS (h:=af 1 hS (h:=af 2 hS (h:=af 3 hS (h:=af 4 hS (h:=af 5 hS (h:=aZ 6 hS (h:= ?_)))))));refine aG 7 (fun K hK=> ?_);go_simp;refine ee.out.mono ?_;rintro e x6 ⟨⟨rfl,yQ⟩,yP,oT,ok6⟩;obtain⟨X6,yB,jN,hX6⟩:=bN CX.out yQ;have g6:=ao jN jB.out.1 eZ.out.2.2.1;have Uq:=hdd yB;have Ts:=hdd (And.intro jN hX6);have TR:=hdd ok6;have NR:=hdd (And.intro yP oT);have aiJ:(n2:Int)≤273:=aa;clear yB jN hX6 ok6 yP oT yQ;go_wp2_with fail;refine hK.out _ _ g6 (fun _=> ?_);clear hK K;refine af 8 g6 (h:= ?_);refine wpAnyH_done ak ?_ _;clear hS bE ee g6;obtain⟨_,_,_,_,c4,c5,c6,c7⟩:=Uq.out.mod.cells;have CU:=hdd (tg Uq.out.mod v aa (r4 r.1 r.2.1 r.2.2.1 r.2.2.2 v));rw[HR'.out]at CU;have jb:Hid (∀i∈X6,i∈X∨W1.heap.size≤i):=hdd Ts.out.2;have O5:x6.cell? ⟨C,4+v,none⟩=some (.int .i64 (r4 r.1 r.2.1 r.2.2.1 r.2.2.2 v)):=by
   have h3:v≤3:=aa;rcases(by omega:v=0∨v=1∨v=2∨v=3)with h | h | h | h;·rw[h];exact c4
   ·rw[h];exact c5
   ·rw[h];exact c6
   ·rw[h];exact c7
  have⟨RQ,hRQ⟩:=ex (r4 r.1 r.2.1 r.2.2.1 r.2.2.2 v);rw[hRQ]at O5 CU;clear hRQ c4 c5 c6 c7;go_wp2_with fail;refine CU.out.mono ?_;rintro e x7 ⟨rfl,Us,tk⟩;have Ut:=Uq.out.front Us tk;have O6:az (C::L::X) W1 x7:=Ts.out.1.trans tk (fun i hi=> .inl (by simp at hi;simp[hi]));have HM7:=hdd Ut;have mj:=hdd O6;obtain⟨_,_,_,c3,_⟩:=Ut.mod.cells;have f3:=Ut.mod.iW 3;have GA:=mr st 8 11 x7;rw[show(if st<7 then 8 else 11)=ls from by rw[←Gx.out];split;rw[if_neg (ar NR.out.1)];rfl]at GA;have NZ:=hdd GA;have lY:=(mj.out.block bs nx jB.out.2).trans qX.out;have z0:x7.cell? ⟨bs,0,none⟩=some (.int .i64 0):=kY;have z1:x7.cell? ⟨bs,1,none⟩=some (.int .u8 0):=kY;have z2:x7.cell? ⟨bs,2,none⟩=some (.int .i64 0):=kY;have z3:x7.cell? ⟨bs,3,none⟩=some (.int .i64 0):=kY;have z4:x7.cell? ⟨bs,4,none⟩=some (.int .i64 0):=kY;have zf: ∀i,x7.frozen? ⟨bs,i,none⟩=false:=fun i=>frozen_of_row _ _ _ _ _ lY;have zC:=zf 0;have zD:=zf 1;have CV:=zf 2;have CW:=zf 3;have YX:=zf 4;clear lY zf;clear Us tk Ut O6 GA CU O5;go_wp2_with fail;refine NZ.out.mono ?_;rintro e x8 ⟨rfl,rfl⟩;go_wp2_with fail;refine bodyPost_ret (v:=j2 2 0 (n2:Nat) 0 ((v:Nat):Int)) (by simp[results,results206,go_sem,z0,z1,z2,z3,z4]) rfl ⟨⟨rfl,X6,?_,?_,?_⟩,by rw[←HQ.out];have:=NR.out;exact⟨aa,aa,aa,aa,TR.out⟩⟩
  ·have jM:bs ∉ C::L::X6:=fun h=>by
    simp only[List.mem_cons]at h;rcases h with h | h | h;·exact NY h
    ·have:=ib.out L ae;have:=jS.out;omega
    ·rcases jb.out _ h with h | h;·have:=ib.out bs dS;have:=jS.out;omega
     ·have:=(cr qX.out);omega
   exact(((((HM7.out.ii (k:=3) (st':=ls) (r':=r') an rfl).aX jM _).aX jM _).aX jM _).aX jM _).aX jM _
  ·have h0:az (C::L::X) w x7:=(az.br cu.out).trans mj.out (fun i hi=> .inl hi);have hn:bs∈C::L::X∨w.heap.size≤bs:= .inr (ar jS.out);exact(((((h0.setCell (p:=⟨C,3,none⟩) (.inl ae) _).setCell (p:=⟨bs,0,none⟩) hn _).setCell (p:=⟨bs,1,none⟩) hn _).setCell (p:=⟨bs,2,none⟩) hn _).setCell (p:=⟨bs,3,none⟩) hn _).setCell (p:=⟨bs,4,none⟩) hn _
  ·intro i hi;rcases jb.out i hi with h | h;·exact .inl h
   ·exact .inr (Nat.le_trans cu.out.size h)
theorem Y7(x:UInt8)(j:Nat):(bits .and .u8 ((x.toNat:Nat)/2^j) 1==1)=Md.aL (x.toNat:Nat) j:=by have hle:x.toNat/2^j≤x.toNat:=Nat.div_le_self _ _;have hx:=x.toNat_lt;have e:((x.toNat:Nat):Int)/2^j=((x.toNat/2^j:Nat):Int):=ae;unfold Md.aL;rw[e,show(1:Int)=((1:Nat):Int)from rfl,u8_and_nat _ _ aa aa,nat_mask1,Bool.eq_iff_iff];simp
namespace Md
def f5(io:Io)(T like:Nat)(v:Int):Nat→Nat→Bool→io.S→Nat×io.S
 | 0,m,_,x=>(m,x)
 | n+1,m,al,x=>
  f5 io T like v n (2*m+(io.au (T+(if al then m+(256+256*(like/2^n%2))else m)) (aL v n) x).1.toNat) (al&&((io.au (T+(if al then m+(256+256*(like/2^n%2))else m)) (aL v n) x).1.toNat==like/2^n%2))
   (io.au (T+(if al then m+(256+256*(like/2^n%2))else m)) (aL v n) x).2
def jC(H:List UInt8)(a:Int):Nat:=if a≤(H.length:Int)then(H.getD (H.length-a.toNat) 0).toNat else 0
def lit(io:Io)(lc lp st:Nat)(a:Int)(H:List UInt8)(v:Int)(x:io.S):UInt8×io.S:=
 (UInt8.ofNat (f5 io (2180+768*tj lc lp H) (jC H a) v 8 1 (decide (7≤st)) x).1,(f5 io (2180+768*tj lc lp H) (jC H a) v 8 1 (decide (7≤st)) x).2)
theorem wB(H:List UInt8)(a:Int):jC H a<256:=by
 unfold jC;split;·exact(H.getD _ 0).toNat_lt
 ·decide
end Md
theorem Y8(io:Io){x:io.S}(hM:MS io w C L lc lp pb st r x X)(ks:lc≤4)(wz:lp≤4)(bJ:st<12)(hr:1≤r.1)(A:Option Addr)(H:List UInt8)(c:Nat)(hB:Bytes w A H)(hc:H.length≤c)(hH:H.length≤1000000000)
  (kk:Int) (b:UInt8) (l d q:Int) {R:UInt8} {Z:io.S} (hR:Md.lit io lc lp st r.1 H (b.toNat:Nat) x=(R,Z)) (aR:io.ok x.2 (k+8)):
  Calls prog 204 #[PF C,io.v,.slice A H.length c,j2 kk b l d q] w (mm (io.ok Z.2 k) (jy (j2 0 R 0 0 0) io C L lc lp pb (ed st) r Z X w)):=by
 have⟨ls,OY⟩:=ex (ed st);rw[OY];have Gx:=hdd OY;clear OY;have⟨bs,pq⟩:=ex (w.heap.size+1);have jS:=hdd pq;clear pq;have YT:(H.length:Int)≤1000000000:=aa;have tY:(H.length:Int)≤(c:Int):=aa;have⟨W1,dE⟩:=ex ((w.alloc (.cells #[.int .i64 kk,.int .u8 (b.toNat:Nat),.int .i64 l,.int .i64 d,.int .i64 q] 158)).alloc (.cells #[.int .i64 0,.int .u8 0,.int .i64 0,.int .i64 0,.int .i64 0] 158));have ib:Hid (∀i∈C::L::X,i<w.heap.size):=hdd (by
  intro i hi;simp only[List.mem_cons]at hi;rcases hi with rfl | rfl | hi;·exact hM.mod.CS
  ·exact hM.mod.Br
  ·exact io.lt hM.io i hi)
 have aC:Below w.heap.size w W1:=by rw[←dE];exact(ap).alloc ae _
 have fq:=hM.below aC;have vj:=hdd dE;have jd:=hdd fq;have Xi:=fq.mod.lit;have rE: ∀w',Below W1.heap.size W1 w'→w'.cell? ⟨C,440,none⟩=some (.slice (some ⟨L,0,none⟩) (2^(lc+lp):Nat) (2^(lc+lp):Nat)):=fun w' h=>(h.cell (p:=⟨C,440,none⟩) fq.mod.CS).trans Xi;have Bw:=hdd rE;have iG:=hdd (hB.below aC);have tQ:=Bu (lp:=lp) H (show lc≤8 by omega);have⟨K,hK⟩:=ex (tj lc lp H);have acE:=hdd (fun(n:Nat)=>show Calls prog 222 #[PF C,.slice A H.length c] (W1.drewN n) (zB (.int .i64 (K:Nat)) (W1.drewN n))from by
  rw[←hK];exact Uo (jd.out.drewN n).mod ks wz A H c (iG.out.drewN n) hc hH)
 rw[hK]at tQ;unfold Md.lit at hR;rw[hK]at hR;injection hR with iy iA;have HR:=hdd (And.intro iy iA);have cu:=hdd aC;have aiM:(K:Int)<((2^(lc+lp):Nat):Int):=aa;have h2s:2^(lc+lp)≤2^8:=Nat.pow_le_pow_right aa aa;have Uu:=hdd (And.intro tQ h2s);obtain⟨N2,pu⟩: ∃N,2^(lc+lp)=N:=⟨_,rfl⟩
 have K8:=hdd pu;rw[pu]at Bw aiM;clear dE fq Xi rE hB aC hK tQ iy iA h2s hM pu;have bE:Below W1.heap.size W1 (W1.drewN 1):=below_drewN (Below.refl _ _) _;go_enter func204,ntmps204;go_upto_region 1 with fail;rw[vj.out,jS.out];refine wp_region_held_drew (S:=fun w2=>Below W1.heap.size W1 w2) ak bE (fun hS=> ?_);refine af 0 hS (h:=af 1 hS (h:=af 2 hS (h:=bq 3 Bw.out hS (h:=af 4 hS (h:=af 5 hS (h:= ?_))))));refine aG 6 (fun K hK=> ?_);go_simp;refine(acE.out _).mono ?_;rintro e x4 ⟨rfl,kb4⟩;have g4:=aO bE kb4;go_wp2_with fail;refine hK.out _ _ g4 (fun _=> ?_);clear hK K;refine af 7 g4 (h:=af 8 g4 (h:=af 9 g4 (h:= ?_)));refine wpAnyH_done ak ?_ _;have yM:=hdd (jd.out.below g4);have HG4:=hdd (aO cu.out g4);have aiN:=hdd (iG.out.below g4);have O7:Hid (W1.heap.size≤x4.heap.size):=hdd g4.size;have zG:W1.cell? ⟨w.heap.size,1,none⟩=some (.int .u8 (b.toNat:Nat)):=by
  have h:W1.heap[w.heap.size]? =some (.cells [Value.int .i64 kk,.int .u8 (b.toNat:Nat),.int .i64 l,.int .i64 d,.int .i64 q].toArray 158 (0,0)):=by rw[←vj.out];exact(Below.heap_alloc _ _ _ ae).trans (heap_alloc_last w _)
  rw[cell_of_row W1 _ _ _ _ _ h];rfl
 have Xj:Hid (x4.cell? ⟨w.heap.size,1,none⟩=some (.int .u8 (b.toNat:Nat))):=hdd ((g4.cell (p:=⟨w.heap.size,1,none⟩) (by rw[←vj.out];simp;omega)).trans zG);have qX:Hid (x4.heap[bs]? =some (.cells [Value.int .i64 0,.int .u8 0,.int .i64 0,.int .i64 0,.int .i64 0].toArray 158 (0,0))):=hdd (by rw[←jS.out];exact(g4.block _ (by rw[←vj.out];simp)).trans (by rw[←vj.out];have h:=heap_alloc_last (w.alloc (.cells #[.int .i64 kk,.int .u8 (b.toNat:Nat),.int .i64 l,.int .i64 d,.int .i64 q] 158)) (.cells #[.int .i64 0,.int .u8 0,.int .i64 0,.int .i64 0,.int .i64 0] 158);simpa using h));obtain⟨_,_,_,c3,c4,_⟩:=yM.out.mod.cells;have⟨LK,yS⟩:=ex (Md.jC H r.1);have Y9:LK<256:=by rw[←yS];exact Md.wB H r.1
 have GH:=hdd yS;rw[yS]at HR;clear hS g4 kb4 bE zG yS acE Bw jd;go_upto_if 35 with fail;go_cut [10] (fun N0 wx=>x4=wx∧N0= .int .i64 (LK:Nat));case first=>
  by_cases J0:r.1≤(H.length:Int)
  ·obtain⟨z,hz⟩: ∃z:Nat,(H.length:Int)-r.1=(z:Int):=⟨((H.length:Int)-r.1).toNat,aa⟩
   have Uv:(z:Int)<(H.length:Int):=aa;obtain⟨bb,off,rfl,_,bx⟩:=aiN.out.addr aa;have cx:=bx z aa;rw[←cY]at cx;have Za:Hid (((H.getD z 0).toNat:Int)=(LK:Int)):=hdd (by
    rw[←GH.out];unfold Md.jC;rw[if_pos J0,show H.length-r.1.toNat=z by omega])
   generalize H.getD z 0=u at*;clear bx;go_wp2_with fail;go_meet;exact⟨rfl,congrArg (Value.int .i64) (by rw[←Za.out];exact eN aa (ar u.toNat_lt))⟩
  ·have Za:Hid ((0:Int)=(LK:Int)):=hdd (by
    rw[←GH.out];unfold Md.jC;rw[if_neg J0];rfl)
   go_wp2_with fail;go_meet;exact⟨rfl,congrArg (Value.int .i64) Za.out⟩
 case rest=>
  obtain⟨rfl,rfl⟩:=hcut;have ku:=fun y=>kI y;have WW:=fun j=>Y7 b j;have aiO:Hid (768*K+768≤768*2^(lc+lp)):=hdd (by have:=Uu.out.1;rw[K8.out]at this ⊢;omega);go_upto_region 8 with fail;have acF:(decide ((7:Int)≤(st:Int)))=decide (7≤st):=decide_eq_decide.2 aa;rw[acF];have⟨AL,hAL⟩:=ex (decide (7≤st));rw[hAL]at HR ⊢;clear acF hAL c3 c4;go_wp2_with fail;go_loopw [12,13,14] (fun as_ ms i wr=> ∃(j m:Nat) (al:Bool) (x':io.S) (X':List Nat),j≤8∧as_= .bool al∧ms= .int .i64 (m:Nat)∧i= .int .i64 ((j:Int)-1)∧2^(8-j)≤m∧m<2^(8-j)*2∧Hid (io.ok x'.2 (k+j))∧Hid (Md.f5 io (2180+768*K) LK (b.toNat:Nat) j m al x'=Md.f5 io (2180+768*K) LK (b.toNat:Nat) 8 1 AL x)∧Hid (MS io wr C L lc lp pb st r x' X'∧az (C::L::X) x4 wr∧ ∀i∈X',i∈X∨x4.heap.size≤i)) (fun _ _ i _=>(intOf i+1).toNat);case atStart=>exact⟨8,1,AL,x,X,Nat.le_refl _,rfl,rfl,aq,an,an,hdd aR,hdd rfl,hdd ⟨yM.out,az.refl _ _,fun i hi=> .inl hi⟩⟩
  case round=>
   obtain⟨j,m,al,x',X',hj,rfl,rfl,rfl,fX,eY,oR,HT,HM⟩:=hrel;have jB:w.heap.size ∉ C::L::X:=fun h=>ar (ib.out _ h);cases j with
   | zero=>
    have Xh:Hid (Z=x'∧R=UInt8.ofNat m):=hdd (by
     have h:=HR.out;rw[←HT.out]at h;exact⟨h.2.symm,h.1.symm⟩)
    obtain⟨_,_,_,c3,_⟩:=HM.out.1.mod.cells;have f3:=HM.out.1.mod.iW 3;have GI:=Bv st bJ wr;rw[Gx.out]at GI;have yT:=hdd GI;have yR:=HG4.out.size;have lY:=(HM.out.2.1.block (bs) nx (fun h=>AW)).trans qX.out;have z0:wr.cell? ⟨bs,0,none⟩=some (.int .i64 0):=vH;have z1:wr.cell? ⟨bs,1,none⟩=some (.int .u8 0):=vH;have z2:wr.cell? ⟨bs,2,none⟩=some (.int .i64 0):=vH;have z3:wr.cell? ⟨bs,3,none⟩=some (.int .i64 0):=vH;have z4:wr.cell? ⟨bs,4,none⟩=some (.int .i64 0):=vH;have zf: ∀i,wr.frozen? ⟨bs,i,none⟩=false:=fun i=>frozen_of_row _ _ _ _ _ lY;have zC:=zf 0;have zD:=zf 1;have CV:=zf 2;have CW:=zf 3;have YX:=zf 4;have Xb:C≠bs:=fun e=>(by have:=ib.out C ae;have:=jS.out;omega);have NY:bs≠C:=fun e=>Xb e.symm;clear GI yR lY zf;go_wp2_with fail;refine yT.out.mono ?_;rintro e w2 ⟨rfl,rfl⟩;have hRv:((R.toNat:Nat):Int)=(m:Int)%256:=(by rw[Xh.out.2,UInt8.toNat_ofNat'];simp);go_wp2_with fail;refine bodyPost_ret (v:=j2 0 R 0 0 0) (by simp[results,results204,go_sem,hRv,z0,z1,z2,z3,z4]) rfl ⟨⟨rfl,X',?_,?_,?_⟩,?_⟩
    ·have pq:=jS.out;have Zb:=(cr qX.out)
     have jM:bs ∉ C::L::X':=fun h=>by
      simp only[List.mem_cons]at h;rcases h with h | h | h;·exact NY h
      ·have:=ib.out L ae;omega
      ·rcases HM.out.2.2 _ h with h | h;·have:=ib.out bs dS;omega
       ·omega
     rw[Xh.out.1];exact(((((HM.out.1.ii (k:=3) (st':=ls) (r':=r) an rfl).aX jM _).aX jM _).aX jM _).aX jM _).aX jM _
    ·have pq:=jS.out;have h0:az (C::L::X) w wr:=(az.br HG4.out).trans HM.out.2.1 (fun i hi=> .inl hi);have hn:bs∈C::L::X∨w.heap.size≤bs:= .inr aa;exact(((((h0.setCell (p:=⟨C,3,none⟩) (.inl ae) _).setCell (p:=⟨bs,0,none⟩) hn _).setCell (p:=⟨bs,1,none⟩) hn _).setCell (p:=⟨bs,2,none⟩) hn _).setCell (p:=⟨bs,3,none⟩) hn _).setCell (p:=⟨bs,4,none⟩) hn _
    ·intro i hi;rcases HM.out.2.2 i hi with h | h;·exact .inl h
     ·exact .inr (Nat.le_trans HG4.out.size h)
    ·rw[Xh.out.1];exact oR.out
   | succ j=>
    have arj:wr.cell? ⟨w.heap.size,1,none⟩=some (.int .u8 (b.toNat:Nat)):=ao HM.out.2.1 jB Xj.out;have lG:m<256:=(by have e:2^(8-(j+1))*2=2^(8-j):=l8;have:2^(8-j)≤2^8:=Nat.pow_le_pow_right aa aa;omega);have⟨lb,Zc⟩:=ex (LK/2^j%2);have Xk:lb=0∨lb=1:=aa;have Uw:(LK:Int)/2^j%2=(lb:Int):=(by rw[←Zc];simp);have⟨jj,hjj⟩:=ex ((if al then m+(256+256*lb)else m));have aiP:jj<768:=(by rw[←hjj];split<;>omega);obtain⟨⟨B,y⟩,hz⟩: ∃z,io.au (2180+768*K+jj) (Md.aL (b.toNat:Nat) j) x'=z:=⟨_,rfl⟩
    obtain⟨h1,jA⟩:=ml io HM.out.1 hz (at_:=2180+768*K) (j:=jj) (len:=768) (cp:=768) (b:=L) (off:=K*768) rfl (k:=k+j) oR.out (Md.OT aa (by have:=aiO.out;omega)) aiP aa aa;have kZ:Hid (Md.f5 io (2180+768*K) LK (b.toNat:Nat) j (2*m+B.toNat) (al&&(B.toNat==lb)) y=Md.f5 io (2180+768*K) LK (b.toNat:Nat) 8 1 AL x):=hdd (by
     rw[←HT.out];conv=>rhs;unfold Md.f5
     rw[Zc,hjj,hz])
    have H1:=hdd h1;have kv:=hdd jA;have cu:=hdd fX;have dY:=hdd eY;have th:(m:Int)<256:=aa;have hj8:(j:Int)<8:=aa;have h2: ∀B:Bool,B.toNat≤1:=fun B=>(by cases B<;>decide);have e2:2^(8-j)=2^(8-(j+1))*2:=l8;have TS:=hdd e2;clear h1 jA fX eY hz Zc lG e2;cases al;case false=>
     simp only[Bool.false_eq_true,if_false]at hjj;subst hjj;rcases Xk with rfl | rfl
     ·skip;go_wp2_with fail;refine H1.out.mono ?_;rintro e w2 ⟨rfl,kr⟩;have vk:=hdd (fZ.trans HM.out.2.1 HM.out.2.2 kr);clear kr;cases B;case false=>rw[show dl false=0 from rfl];go_wp2_with fail;obtain⟨X3,lZ,cK,pJ⟩:=vk.out;exact⟨⟨j,2*m+0,false,y,X3,aa,rfl,aq,aq,ny,nz,kv,kZ,hdd ⟨lZ,cK,pJ⟩⟩,ia⟩
      case true=>rw[show dl true=1 from rfl];go_wp2_with fail;obtain⟨X3,lZ,cK,pJ⟩:=vk.out;exact⟨⟨j,2*m+1,false,y,X3,aa,rfl,aq,aq,ny,nz,kv,kZ,hdd ⟨lZ,cK,pJ⟩⟩,ia⟩
     ·skip;go_wp2_with fail;refine H1.out.mono ?_;rintro e w2 ⟨rfl,kr⟩;have vk:=hdd (fZ.trans HM.out.2.1 HM.out.2.2 kr);clear kr;cases B;case false=>rw[show dl false=0 from rfl];go_wp2_with fail;obtain⟨X3,lZ,cK,pJ⟩:=vk.out;exact⟨⟨j,2*m+0,false,y,X3,aa,rfl,aq,aq,ny,nz,kv,kZ,hdd ⟨lZ,cK,pJ⟩⟩,ia⟩
      case true=>rw[show dl true=1 from rfl];go_wp2_with fail;obtain⟨X3,lZ,cK,pJ⟩:=vk.out;exact⟨⟨j,2*m+1,false,y,X3,aa,rfl,aq,aq,ny,nz,kv,kZ,hdd ⟨lZ,cK,pJ⟩⟩,ia⟩
    case true=>
     simp only[if_true]at hjj;rcases Xk with rfl | rfl
     ·have aiQ:(m:Int)+256=(jj:Int):=(by omega);go_wp2_with fail;refine H1.out.mono ?_;rintro e w2 ⟨rfl,kr⟩;have vk:=hdd (fZ.trans HM.out.2.1 HM.out.2.2 kr);clear kr;cases B;case false=>rw[show dl false=0 from rfl];go_wp2_with fail;obtain⟨X3,lZ,cK,pJ⟩:=vk.out;exact⟨⟨j,2*m+0,true,y,X3,aa,rfl,aq,aq,ny,nz,kv,kZ,hdd ⟨lZ,cK,pJ⟩⟩,ia⟩
      case true=>rw[show dl true=1 from rfl];go_wp2_with fail;obtain⟨X3,lZ,cK,pJ⟩:=vk.out;exact⟨⟨j,2*m+1,false,y,X3,aa,rfl,aq,aq,ny,nz,kv,kZ,hdd ⟨lZ,cK,pJ⟩⟩,ia⟩
     ·have aiQ:(m:Int)+512=(jj:Int):=(by omega);go_wp2_with fail;refine H1.out.mono ?_;rintro e w2 ⟨rfl,kr⟩;have vk:=hdd (fZ.trans HM.out.2.1 HM.out.2.2 kr);clear kr;cases B;case false=>rw[show dl false=0 from rfl];go_wp2_with fail;obtain⟨X3,lZ,cK,pJ⟩:=vk.out;exact⟨⟨j,2*m+0,false,y,X3,aa,rfl,aq,aq,ny,nz,kv,kZ,hdd ⟨lZ,cK,pJ⟩⟩,ia⟩
      case true=>rw[show dl true=1 from rfl];go_wp2_with fail;obtain⟨X3,lZ,cK,pJ⟩:=vk.out;exact⟨⟨j,2*m+1,true,y,X3,aa,rfl,aq,aq,ny,nz,kv,kZ,hdd ⟨lZ,cK,pJ⟩⟩,ia⟩
def dL(r:R4):Prop:=(1≤r.1∧1≤r.2.1∧1≤r.2.2.1∧1≤r.2.2.2)∧(r.1≤4294967296∧r.2.1≤4294967296∧r.2.2.1≤4294967296∧r.2.2.2≤4294967296)
theorem dL.front(h:dL r){d:Int}(h1:1≤d)(h2:d≤4294967296):dL (fp r n d):=by
 obtain⟨⟨a1,a2,a3,a4⟩,b1,b2,b3,b4⟩:=h;unfold fp;split;·exact⟨⟨h1,a2,a3,a4⟩,h2,b2,b3,b4⟩
 ·exact⟨⟨h1,a1,a3,a4⟩,h2,b1,b3,b4⟩
 ·exact⟨⟨h1,a1,a2,a4⟩,h2,b1,b2,b4⟩
 ·exact⟨⟨h1,a1,a2,a3⟩,h2,b1,b2,b3⟩
theorem dL.at_(h:dL r)(n:Nat):1≤r4 r.1 r.2.1 r.2.2.1 r.2.2.2 n∧r4 r.1 r.2.1 r.2.2.1 r.2.2.2 n≤4294967296:=by
 obtain⟨⟨a1,a2,a3,a4⟩,b1,b2,b3,b4⟩:=h;unfold r4;split;·exact⟨a1,b1⟩
 ·exact⟨a2,b2⟩
 ·exact⟨a3,b3⟩
 ·exact⟨a4,b4⟩
theorem Bytes.only{A:Option Addr}{l:List UInt8}(h:Bytes w A l)(ho:az X w w')(hX: ∀a,A=some a→a.block ∉ X):Bytes w' A l:=
 h.aI ho.size fun p hp aF=>by
  have hb:p.block ∉ X:=by
   cases A with
   | none=>simp at hp
   | some a=>simp at hp;rw[←hp];exact hX a rfl
  unfold World.cell?;rw[ho.block _ aF hb]
theorem DR(h:st<12):ed st<12:=by unfold ed;split;omega;split<;>omega
namespace Md
def sym(io:Io)(lc lp pb st:Nat)(r:R4)(H:List UInt8)(k:Int)(b:UInt8)(l d q:Int)(x:io.S):Sy×Nat×R4×io.S:=
 let p:=H.length%2^pb
 let a:=io.au (16*st+p) (k !=0) x
 if a.1=false then
  let z:=lit io lc lp st r.1 H (b.toNat:Nat) a.2
  (⟨0,z.1,0,0,0⟩,ed st,r,z.2)
 else
  let c:=io.au (192+st) (k !=1) a.2
  if c.1=false then
   let n:=len io 432 p l c.2
   let z:=de io n.1 d n.2
   (⟨1,0,n.1,z.1,0⟩,(if st<7 then 7 else 10),fp r 3 (z.1:Nat),z.2)
  else
   let z:=uF io st p l q c.2
   (⟨2,0,z.1.2,0,z.1.1⟩,(if st<7 then(if z.1.2=1 then 9 else 8)else 11),fp r z.1.1 (r4 r.1 r.2.1 r.2.2.1 r.2.2.2 z.1.1),z.2)
end Md
theorem Ux(yU:pb≤4):bits .and .i64 (n:Int) (wrap64 (wrap64 (2^pb)-1))=((n%2^pb:Nat):Int):=by
 have h1:1≤2^pb:=Nat.one_le_two_pow;have h2:2^pb≤2^4:=Nat.pow_le_pow_right aa yU;have e1:wrap64 ((2:Int)^pb)=((2^pb:Nat):Int):=by rw[show(2:Int)^pb=((2^pb:Nat):Int) by simp];exact eN aa aa
 have e2:wrap64 (((2^pb:Nat):Int)-1)=((2^pb-1:Nat):Int):=by rw[eN aa aa];omega
 rw[e1,e2,nH _ _ aa];omega
theorem Zd(io:Io){x:io.S}(hM:MS io w C L lc lp pb st r x X)(ks:lc≤4)(wz:lp≤4)(yU:pb≤4)(bJ:st<12)(hr:dL r)(A:Option Addr)(H:List UInt8)(c:Nat)(hB:Bytes w A H)(hc:H.length≤c)(hH:H.length≤1000000000)(hHX: ∀a,A=some a→a.block ∉ C::L::X)
  (kk:Int) (b:UInt8) (l d q:Int) (DS:(io.au (16*st+H.length%2^pb) (kk !=0) x).1=true→0≤l∧l≤300)
  (GJ:(io.au (16*st+H.length%2^pb) (kk !=0) x).1=true→(io.au (192+st) (kk !=1) (io.au (16*st+H.length%2^pb) (kk !=0) x).2).1=false→0≤d∧d≤4294967295) {s':Sy} {st':Nat} {r':R4} {Z:io.S} (hR:Md.sym io lc lp pb st r H kk b l d q x=(s',st',r',Z)) (aR:io.ok x.2 (k+54)):
  Calls prog 164 #[PF C,io.v,.slice A H.length c,j2 kk b l d q] w (mm (s'.k≤2∧s'.r≤3∧s'.l≤273∧(s'.d:Int)≤4294967296∧st'<12∧dL r'∧io.ok Z.2 k) (jy s'.val io C L lc lp pb st' r' Z X w)):=by
 have⟨Q,hQ⟩:=ex ((s'.k≤2∧s'.r≤3∧s'.l≤273∧(s'.d:Int)≤4294967296∧st'<12∧dL r'∧io.ok Z.2 k));rw[hQ];have HQ:=hdd hQ;have HGR:=hdd hr;have HHX:=hdd hHX;clear hQ;have⟨p,wC⟩:=ex (H.length%2^pb);have qg:p<16:=by have h1:1≤2^pb:=Nat.one_le_two_pow;have h2:2^pb≤2^4:=Nat.pow_le_pow_right aa yU;have:=Nat.mod_lt H.length h1;omega
 have vU:=Ux (n:=H.length) yU;unfold Md.sym at hR;simp only[wC]at hR vU DS GJ;have rz:(p:Int)<16:=aa;have GB:(st:Int)<12:=aa;have tY:(H.length:Int)≤(c:Int):=aa;have YT:(H.length:Int)≤1000000000:=aa;have aiR:=hdd hB;have ib:Hid (∀i∈C::L::X,i<w.heap.size):=hdd (by
  intro i hi;simp only[List.mem_cons]at hi;rcases hi with rfl | rfl | hi;·exact hM.mod.CS
  ·exact hM.mod.Br
  ·exact io.lt hM.io i hi)
 have⟨bs,pq⟩:=ex (w.heap.size+1);have jS:=hdd pq;clear pq;have⟨W1,dE⟩:=ex ((w.alloc (.cells #[.int .i64 kk,.int .u8 (b.toNat:Nat),.int .i64 l,.int .i64 d,.int .i64 q] 158)).alloc (.cells #[.int .i64 0,.int .u8 0,.int .i64 0,.int .i64 0,.int .i64 0] 158));have aC:Below w.heap.size w W1:=by rw[←dE];exact(ap).alloc ae _
 have fq:=hM.below aC;obtain⟨Tq,lY⟩:=wA dE;rw[jS.out]at lY;have vj:=hdd dE;have jd:=hdd fq;have eZ:=hdd Tq;have qX:=hdd lY;have cu:=hdd aC;have Xb:C≠bs:=fun e=>by have:=ib.out C ae;have:=jS.out;omega
 have NY:bs≠C:=fun e=>Xb e.symm;have jB:Hid (w.heap.size ∉ C::L::X∧bs ∉ C::L::X):=hdd ⟨fun h=>ar (ib.out _ h),fun h=>AW⟩;clear dE fq Tq lY aC hM;have iG:=hdd (aiR.out.below cu.out);obtain⟨⟨B,y⟩,hy⟩: ∃z,io.au (16*st+p) (kk !=0) x=z:=⟨_,rfl⟩
 obtain⟨h1,jA⟩:=ml io (jd.out.drewN 1) hy (at_:=16*st) (j:=p) (len:=16) (cp:=16) (b:=C) (off:=8+st*16) rfl (k:=k+53) aR (Md.lF aa aa) qg aa aa;simp only[hy]at hR DS GJ;have HRL:=hdd DS;have O8:=hdd GJ;clear DS GJ;have H1:=hdd h1;have kv:=hdd jA;have HR:=hdd hR;have YY:Hid (az (C::L::X) W1 W1∧ ∀i∈X,i∈X∨W1.heap.size≤i):=hdd ⟨az.refl _ _,fun i hi=> .inl hi⟩;have c2:=jd.out.mod.cells.2.2.1;have bE:=And.intro jd.out.mod.cells.2.2.2.1 eZ.out.1;have HP:=hdd wC;clear hy hR h1 jA aR wC hB hr hHX;go_enter func164,ntmps164;go_upto_region 1 with fail;rw[vj.out,jS.out];go_upto_region 5 with fail;refine wp_region_held_drew (S:=fun w2=>w2.cell? ⟨C,3,none⟩=some (.int .i64 (st:Nat))∧w2.cell? ⟨w.heap.size,0,none⟩=some (.int .i64 kk)) ak bE (fun hS=> ?_);refine af 0 hS (h:=af 1 hS (h:=af 2 hS (h:=af 3 hS (h:=af 4 hS (h:=aZ 5 hS (h:=af 6 hS (h:=af 7 hS (h:=af 8 hS (h:=af 9 hS (h:=af 10 hS (h:=af 11 hS (h:= ?_))))))))))));refine aZ 12 hS (h:=af 13 hS (h:= ?_));refine aG 14 (fun K hK=> ?_);go_simp;refine H1.out.mono ?_;rintro e x1 ⟨rfl,O1⟩;obtain⟨X1,GC,zE,O2⟩:=bN YY.out O1;have GD:=hdd GC;have rD:=hdd (And.intro zE O2);have Xe:=And.intro GC.mod.cells.2.2.2.1 (ao zE jB.out.1 eZ.out.1);clear GC zE O2 O1;go_wp2_with fail;refine hK.out _ _ Xe (fun _=> ?_);clear hK K;refine af 15 Xe (h:=af 16 Xe (h:= ?_));refine wpAnyH_done ak ?_ _;clear hS bE H1 c2 Xe;cases B with
 | false=>
  have hR:=HR.out;simp only[if_true]at hR;obtain⟨⟨R,Z2⟩,hz⟩: ∃q,Md.lit io lc lp st r.1 H (b.toNat:Nat) y=q:=⟨_,rfl⟩
  simp only[hz]at hR;have HE:Hid (s'=⟨0,R,0,0,0⟩∧st'=ed st∧r'=r∧Z=Z2):=hdd (by
   injection hR with e1 e2;injection e2 with e2 e3;injection e3 with e3 e4;exact⟨e1.symm,e2.symm,e3.symm,e4.symm⟩)
  have HC:=hdd (Y8 io GD.out ks wz bJ HGR.out.1.1 A H c (iG.out.only rD.out.1 HHX.out) hc hH kk b l d q hz (k:=k) (io.le kv.out aa));clear hR hz;rw[show dl false=0 from rfl];have y0:=ao rD.out.1 jB.out.1 eZ.out.1;have y1:=ao rD.out.1 jB.out.1 eZ.out.2.1;have y2:=ao rD.out.1 jB.out.1 eZ.out.2.2.1;have y3:=ao rD.out.1 jB.out.1 eZ.out.2.2.2.1;have y4:=ao rD.out.1 jB.out.1 eZ.out.2.2.2.2;go_wp2_with fail;refine HC.out.mono ?_;rintro e x9 ⟨⟨rfl,K9⟩,okz⟩;have N1:=fZ.trans rD.out.1 rD.out.2 K9;clear K9 y0 y1 y2 y3 y4;obtain⟨X9,Xl,wD,Xm⟩:=N1;have HM9:=hdd Xl;have mj:=hdd wD;have jb:Hid (∀i∈X9,i∈X∨W1.heap.size≤i):=hdd Xm;have lY:=(mj.out.block bs nx jB.out.2).trans qX.out;have z0:x9.cell? ⟨bs,0,none⟩=some (.int .i64 0):=gr;have z1:x9.cell? ⟨bs,1,none⟩=some (.int .u8 0):=gr;have z2:x9.cell? ⟨bs,2,none⟩=some (.int .i64 0):=gr;have z3:x9.cell? ⟨bs,3,none⟩=some (.int .i64 0):=gr;have z4:x9.cell? ⟨bs,4,none⟩=some (.int .i64 0):=gr;have zf: ∀i,x9.frozen? ⟨bs,i,none⟩=false:=fun i=>frozen_of_row _ _ _ _ _ lY;have zC:=zf 0;have zD:=zf 1;have CV:=zf 2;have CW:=zf 3;have YX:=zf 4;clear lY zf;clear Xl wD Xm;go_wp2_with fail;refine bodyPost_ret (v:=j2 0 R 0 0 0) Ga rfl ⟨⟨?_,X9,?_,?_,?_⟩,?_⟩;·rw[HE.out.1];rfl
  ·have jM:bs ∉ C::L::X9:=fun h=>by
    simp only[List.mem_cons]at h;rcases h with h | h | h;·exact NY h
    ·have:=ib.out L ae;have:=jS.out;omega
    ·rcases jb.out _ h with h | h;·have:=ib.out bs dS;have:=jS.out;omega
     ·have:=(cr qX.out);omega
   rw[HE.out.2.1,HE.out.2.2.1,HE.out.2.2.2];exact((((HM9.out.aX jM _).aX jM _).aX jM _).aX jM _).aX jM _
  ·have h0:az (C::L::X) w x9:=(az.br cu.out).trans mj.out (fun i hi=> .inl hi);have hn:bs∈C::L::X∨w.heap.size≤bs:= .inr (ar jS.out);exact((((h0.setCell (p:=⟨bs,0,none⟩) hn _).setCell (p:=⟨bs,1,none⟩) hn _).setCell (p:=⟨bs,2,none⟩) hn _).setCell (p:=⟨bs,3,none⟩) hn _).setCell (p:=⟨bs,4,none⟩) hn _
  ·intro i hi;rcases jb.out i hi with h | h;·exact .inl h
   ·exact .inr (Nat.le_trans cu.out.size h)
  ·rw[←HQ.out,HE.out.1,HE.out.2.1,HE.out.2.2.1,HE.out.2.2.2];exact⟨ae,ae,ae,ae,DR bJ,HGR.out,okz⟩
 | true=>
  have hR:=HR.out;simp only[Bool.true_eq_false,if_false]at hR;obtain⟨⟨B2,y2⟩,hy⟩: ∃z,io.au (192+st) (kk !=1) y=z:=⟨_,rfl⟩
  obtain⟨h1,jA⟩:=ml io (GD.out.drewN 1) hy (at_:=192) (j:=st) (len:=12) (cp:=12) (b:=C) (off:=200) rfl (k:=k+52) kv.out (Md.lF rfl aa) bJ aa aa;have GJ:=O8.out ae;simp only[hy]at hR GJ;have acK:=hdd GJ;clear GJ;have H2:=hdd h1;have d9:=hdd jA;have pK:=hdd hR;have bE:=And.intro GD.out.mod.cells.2.2.2.1 (ao rD.out.1 jB.out.1 eZ.out.1);clear hy hR h1 jA;rw[show dl true=1 from rfl];go_upto_region 7 with fail;refine wp_region_held_drew (S:=fun w2=>w2.cell? ⟨C,3,none⟩=some (.int .i64 (st:Nat))∧w2.cell? ⟨w.heap.size,0,none⟩=some (.int .i64 kk)) ak bE (fun hS=> ?_);refine af 0 hS (h:=af 1 hS (h:=af 2 hS (h:=af 3 hS (h:=af 4 hS (h:=af 5 hS (h:=af 6 hS (h:=af 7 hS (h:=aZ 8 hS (h:=af 9 hS (h:=aZ 10 hS (h:=af 11 hS (h:= ?_))))))))))));refine aG 12 (fun K hK=> ?_);go_simp;refine H2.out.mono ?_;rintro e x2 ⟨rfl,O3⟩;obtain⟨X2,GE,zF,O4⟩:=bN rD.out O3;have K7:=hdd GE;have nm:=hdd (And.intro zF O4);have Xf:=And.intro GE.mod.cells.2.2.2.1 (ao zF jB.out.1 eZ.out.1);clear GE zF O4 O3;go_wp2_with fail;refine hK.out _ _ Xf (fun _=> ?_);clear hK K;refine af 13 Xf (h:=af 14 Xf (h:= ?_));refine wpAnyH_done ak ?_ _;clear hS bE H2 Xf;cases B2 with
  | false=>
   have hR:=pK.out;simp only[if_true]at hR;obtain⟨⟨n,y3⟩,hn⟩: ∃q,Md.len io 432 p l y2=q:=⟨_,rfl⟩
   simp only[hn]at hR;obtain⟨⟨dd,Z2⟩,hz⟩: ∃q,Md.de io n d y3=q:=⟨_,rfl⟩
   simp only[hz]at hR;have HE:Hid (s'=⟨1,0,n,dd,0⟩∧st'=(if st<7 then 7 else 10)∧r'=fp r 3 (dd:Nat)∧Z=Z2):=hdd (by
    injection hR with e1 e2;injection e2 with e2 e3;injection e3 with e3 e4;exact⟨e1.symm,e2.symm,e3.symm,e4.symm⟩)
   have HC:=hdd (OX io K7.out qg kk b l d q (HRL.out ae).1 (HRL.out ae).2 (acK.out ae).1 (acK.out ae).2 hn hz (k:=k) d9.out);clear hR hz hn;rw[show dl false=0 from rfl];have y0:=ao nm.out.1 jB.out.1 eZ.out.1;have y1:=ao nm.out.1 jB.out.1 eZ.out.2.1;have y2:=ao nm.out.1 jB.out.1 eZ.out.2.2.1;have y3:=ao nm.out.1 jB.out.1 eZ.out.2.2.2.1;have y4:=ao nm.out.1 jB.out.1 eZ.out.2.2.2.2;go_wp2_with fail;refine HC.out.mono ?_;rintro e x9 ⟨⟨rfl,K9⟩,oT,DT,ky,pL,okz⟩;have N1:=fZ.trans nm.out.1 nm.out.2 K9;have O9:=hdd (And.intro DT (And.intro ky pL));clear K9 y0 y1 y2 y3 y4 oT DT ky pL;obtain⟨X9,Xl,wD,Xm⟩:=N1;have HM9:=hdd Xl;have mj:=hdd wD;have jb:Hid (∀i∈X9,i∈X∨W1.heap.size≤i):=hdd Xm;have lY:=(mj.out.block bs nx jB.out.2).trans qX.out;have z0:x9.cell? ⟨bs,0,none⟩=some (.int .i64 0):=gr;have z1:x9.cell? ⟨bs,1,none⟩=some (.int .u8 0):=gr;have z2:x9.cell? ⟨bs,2,none⟩=some (.int .i64 0):=gr;have z3:x9.cell? ⟨bs,3,none⟩=some (.int .i64 0):=gr;have z4:x9.cell? ⟨bs,4,none⟩=some (.int .i64 0):=gr;have zf: ∀i,x9.frozen? ⟨bs,i,none⟩=false:=fun i=>frozen_of_row _ _ _ _ _ lY;have zC:=zf 0;have zD:=zf 1;have CV:=zf 2;have CW:=zf 3;have YX:=zf 4;clear lY zf;clear Xl wD Xm;go_wp2_with fail;refine bodyPost_ret (v:=j2 1 0 (n:Nat) (dd:Nat) 0) Ga rfl ⟨⟨?_,X9,?_,?_,?_⟩,?_⟩;·rw[HE.out.1];rfl
   ·have jM:bs ∉ C::L::X9:=fun h=>by
     simp only[List.mem_cons]at h;rcases h with h | h | h;·exact NY h
     ·have:=ib.out L ae;have:=jS.out;omega
     ·rcases jb.out _ h with h | h;·have:=ib.out bs dS;have:=jS.out;omega
      ·have:=(cr qX.out);omega
    rw[HE.out.2.1,HE.out.2.2.1,HE.out.2.2.2];exact((((HM9.out.aX jM _).aX jM _).aX jM _).aX jM _).aX jM _
   ·have h0:az (C::L::X) w x9:=(az.br cu.out).trans mj.out (fun i hi=> .inl hi);have hn:bs∈C::L::X∨w.heap.size≤bs:= .inr (ar jS.out);exact((((h0.setCell (p:=⟨bs,0,none⟩) hn _).setCell (p:=⟨bs,1,none⟩) hn _).setCell (p:=⟨bs,2,none⟩) hn _).setCell (p:=⟨bs,3,none⟩) hn _).setCell (p:=⟨bs,4,none⟩) hn _
   ·intro i hi;rcases jb.out i hi with h | h;·exact .inl h
    ·exact .inr (Nat.le_trans cu.out.size h)
   ·rw[←HQ.out,HE.out.1,HE.out.2.1,HE.out.2.2.1,HE.out.2.2.2];have:=O9.out;exact⟨ae,ae,by show n≤273;omega,by show((dd:Nat):Int)≤4294967296;omega,by split<;>omega,HGR.out.front aa aa,okz⟩
  | true=>
   have hR:=pK.out;simp only[Bool.true_eq_false,if_false]at hR;obtain⟨⟨⟨wh,n⟩,Z2⟩,hz⟩: ∃q',Md.uF io st p l q y2=q':=⟨_,rfl⟩
   simp only[hz]at hR;have HE:Hid (s'=⟨2,0,n,0,wh⟩∧st'=(if st<7 then(if n=1 then 9 else 8)else 11)∧r'=fp r wh (r4 r.1 r.2.1 r.2.2.1 r.2.2.2 wh)∧Z=Z2):=hdd (by
    injection hR with e1 e2;injection e2 with e2 e3;injection e3 with e3 e4;exact⟨e1.symm,e2.symm,e3.symm,e4.symm⟩)
   have HC:=hdd (Ur io K7.out bJ qg kk b l d q (HRL.out ae).1 (HRL.out ae).2 hz (k:=k) (io.le d9.out aa));clear hR hz;rw[show dl true=1 from rfl];have y0:=ao nm.out.1 jB.out.1 eZ.out.1;have y1:=ao nm.out.1 jB.out.1 eZ.out.2.1;have y2:=ao nm.out.1 jB.out.1 eZ.out.2.2.1;have y3:=ao nm.out.1 jB.out.1 eZ.out.2.2.2.1;have y4:=ao nm.out.1 jB.out.1 eZ.out.2.2.2.2;go_wp2_with fail;refine HC.out.mono ?_;rintro e x9 ⟨⟨rfl,K9⟩,Ze,yP,DT,hnw,okz⟩;have N1:=fZ.trans nm.out.1 nm.out.2 K9;have O9:=hdd (And.intro Ze DT);clear K9 y0 y1 y2 y3 y4 Ze yP DT hnw;obtain⟨X9,Xl,wD,Xm⟩:=N1;have HM9:=hdd Xl;have mj:=hdd wD;have jb:Hid (∀i∈X9,i∈X∨W1.heap.size≤i):=hdd Xm;have lY:=(mj.out.block bs nx jB.out.2).trans qX.out;have z0:x9.cell? ⟨bs,0,none⟩=some (.int .i64 0):=gr;have z1:x9.cell? ⟨bs,1,none⟩=some (.int .u8 0):=gr;have z2:x9.cell? ⟨bs,2,none⟩=some (.int .i64 0):=gr;have z3:x9.cell? ⟨bs,3,none⟩=some (.int .i64 0):=gr;have z4:x9.cell? ⟨bs,4,none⟩=some (.int .i64 0):=gr;have zf: ∀i,x9.frozen? ⟨bs,i,none⟩=false:=fun i=>frozen_of_row _ _ _ _ _ lY;have zC:=zf 0;have zD:=zf 1;have CV:=zf 2;have CW:=zf 3;have YX:=zf 4;clear lY zf;clear Xl wD Xm;go_wp2_with fail;refine bodyPost_ret (v:=j2 2 0 (n:Nat) 0 (wh:Nat)) Ga rfl ⟨⟨?_,X9,?_,?_,?_⟩,?_⟩;·rw[HE.out.1];rfl
   ·have jM:bs ∉ C::L::X9:=fun h=>by
     simp only[List.mem_cons]at h;rcases h with h | h | h;·exact NY h
     ·have:=ib.out L ae;have:=jS.out;omega
     ·rcases jb.out _ h with h | h;·have:=ib.out bs dS;have:=jS.out;omega
      ·have:=(cr qX.out);omega
    rw[HE.out.2.1,HE.out.2.2.1,HE.out.2.2.2];exact((((HM9.out.aX jM _).aX jM _).aX jM _).aX jM _).aX jM _
   ·have h0:az (C::L::X) w x9:=(az.br cu.out).trans mj.out (fun i hi=> .inl hi);have hn:bs∈C::L::X∨w.heap.size≤bs:= .inr (ar jS.out);exact((((h0.setCell (p:=⟨bs,0,none⟩) hn _).setCell (p:=⟨bs,1,none⟩) hn _).setCell (p:=⟨bs,2,none⟩) hn _).setCell (p:=⟨bs,3,none⟩) hn _).setCell (p:=⟨bs,4,none⟩) hn _
   ·intro i hi;rcases jb.out i hi with h | h;·exact .inl h
    ·exact .inr (Nat.le_trans cu.out.size h)
   ·rw[←HQ.out,HE.out.1,HE.out.2.1,HE.out.2.2.1,HE.out.2.2.2];have:=O9.out;exact⟨ae,by show wh≤3;omega,by show n≤273;omega,ae,by split;split<;>omega;omega,HGR.out.front (HGR.out.at_ wh).1 (HGR.out.at_ wh).2,okz⟩
end Go.Proofs.YtgfpocdiojifoaaGreatDoor
