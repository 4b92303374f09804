import Derived.Test.YtfcaoggfnkhfiaaGreatDoorZ04
import Derived.Laws.BitsAllLaws
namespace Go.Proofs.YtfcaoggfnkhfiaaGreatDoor
set_option maxRecDepth 100000
set_option maxHeartbeats 8000000
open Go.RowKit Go.Proofs.Tryz
variable{io:Io}{X:List Nat}{C L k lc lp n p pb st:Nat}{r r':R4}{w w':World}
namespace Md
def bM(io:Io)(l:Nat)(dd:Int)(x:io.S):Nat×io.S:=
 let d:Nat:=((dd-1)%4294967296).toNat
 let y:=tree io (1460+64*min (l-2) 3) 6 (gr d:Nat) x
 if y.1<4 then(y.1+1,y.2)
 else if y.1<14 then
  let z:=rev io (1716+32*y.1) (y.1/2-1) (d:Nat) y.2
  ((2+y.1%2)*2^(y.1/2-1)+z.1+1,z.2)
 else
  let q:=io.plain y.2.2 (d/16%2^(y.1/2-1-4)) (y.1/2-1-4)
  let z:=rev io 2164 4 (d:Nat) (y.2.1,q.2)
  ((2+y.1%2)*2^(y.1/2-1)+q.1%2^(y.1/2-1-4)*16+z.1+1,z.2)
end Md
theorem WL(io:Io){x:io.S}(hM:MS io w C L lc lp pb st r x X){l:Nat}{dd:Int}{R:Nat}{Z:io.S}(hR:Md.bM io l dd x=(R,Z))(bL:io.ok x.2 (k+42))(hl:2≤l)(xT:l≤300)(hd0:0≤dd)(iz:dd≤4294967295):
  Calls prog 258 #[.pointer (some ⟨C,1469,none⟩),io.v,.int .i64 (l:Nat),.int .i64 dd] w (Dt (1≤R∧R≤4294967296∧io.ok Z.2 k) (jR (.int .i64 (R:Nat)) io C L lc lp pb st r Z X w)):=by
 have⟨D,hD'⟩:=ex (((dd-1)%4294967296).toNat:Nat);have hD:D<4294967296:=aa;have hDi:IntKind.u32.wrap (dd-1)=(D:Int):=eE;unfold Md.bM at hR;rw[hD']at hR;have EN:min (IntKind.i64.wrap ((l:Int)-2)) 3=((min (l-2) 3:Nat):Int):=by rw[IntKind.wrap_i64];omega
 have⟨K,hK⟩:=ex (min (l-2) 3);have hK3:K≤3:=aa;rw[hK]at hR EN;obtain⟨⟨slot,y⟩,hy⟩: ∃q,Md.tree io (1460+64*K) 6 (gr D:Nat) x=q:=⟨_,rfl⟩
 obtain⟨h1,qJ,sB⟩:=wX io (hM.drewN 1) hy (len:=64) (cp:=64) (b:=C) (off:=1469+K*64) (k:=k+36) (io.le bL aa) (Md.pZ aa aa aa) aa aa aa aa;simp only[hy]at hR;have HT:=ae h1;have HR:=ae hR;have Hv:=ae sB;have atD:(slot:Int)<64:=aa;have hKi:(K:Int)<4:=aa;clear hR h1 sB hy bL;have bw:True:=trivial;go_enter func258,ntmps258;go_upto_region 2 with fail;refine wp_region_held_drew (S:=fun _=>True) ai bw (fun hS=> ?_);refine af 0 hS (h:=af 1 hS (h:=af 2 hS (h:=af 3 hS (h:=af 4 hS (h:=af 5 hS (h:=af 6 hS (h:=af 7 hS (h:=af 8 hS (h:=af 9 hS (h:= ?_))))))))));refine aC 10 (fun K hK=> ?_);go_simp;refine(Q7 D hD _).mono ?_;rintro e x4 ⟨rfl,rfl⟩;go_wp2_with fail;refine hK.out _ _ bw (fun _=> ?_);clear hK K;refine aC 11 (fun K hK=> ?_);go_simp;refine HT.out.mono ?_;rintro e x5 ⟨rfl,X1,p7,jc,hX1⟩;have g5:=ae (And.intro jc hX1);clear jc hX1;go_wp2_with fail;refine hK.out _ _ trivial (fun _=> ?_);clear hK K;refine af 12 trivial (h:= ?_);refine wpAnyH_done ai ?_ _;have qq:=ae p7;clear hS bw p7 HT;have hR:=HR.out;by_cases h4:slot<4
 ·have h4i:(slot:Int)<4:=by omega
  rw[if_pos h4]at hR;injection hR with iE iU;have og:=ae (And.intro iE.symm iU.symm);clear iE iU h4;go_wp2_with fail;go_ret;obtain⟨e1,e2⟩:=og.out;subst e1 e2;exact⟨⟨aE,X1,qq.out,aw.lE g5.out.1,g5.out.2⟩,aa,aa,io.le Hv.out aa⟩
 ·have h4i: ¬(slot:Int)<4:=by omega
  rw[if_neg h4]at hR;have⟨n,hn⟩:=ex (slot/2-1);have pX:(slot:Int)/2-1=(n:Int):=aa;have aaq:n≤30:=aa;have aar:2^n≤2^30:=Nat.pow_le_pow_right aa aaq;obtain⟨TOP,hT⟩: ∃T,(2+slot%2)*2^n=T:=⟨_,rfl⟩
  have WM:TOP≤3*2^30:=by rw[←hT];exact Nat.mul_le_mul aa aar
  have aea:wrap64 (wrap64 (2+bits .and .i64 (slot:Int) 1)*2^n)=(TOP:Int):=by rw[lG,show(2:Int)+(slot:Int)%2=((2+slot%2:Nat):Int) by omega];have e1:wrap64 ((2+slot%2:Nat):Int)=((2+slot%2:Nat):Int):=oy;rw[e1,show(2:Int)^n=((2^n:Nat):Int) by simp,←Int.natCast_mul,hT];unfold wrap64;omega
  have hTi:(TOP:Int)≤3221225472:=aa;rw[hn,hT]at hR;by_cases MY:slot<14
  ·have ak9:(slot:Int)<14:=(by omega);rw[if_pos MY]at hR;obtain⟨⟨t,z⟩,hz⟩: ∃q,Md.rev io (1716+32*slot) n (D:Nat) y=q:=⟨_,rfl⟩
   have h2n:2^n≤2^5:=Nat.pow_le_pow_right aa aa;obtain⟨h2,ht,Lw⟩:=Q3 io qq.out hz (len:=32) (cp:=32) (b:=C) (off:=1725+(slot-4)*32) (k:=k) (io.le Hv.out aa) (Md.Fz aa aa aa) aa aa aa aa;simp only[hz]at hR;injection hR with iE iU;have og:=ae (And.intro iE.symm iU.symm);have H2:=ae h2;have kN:=ae Lw;have hti:(t:Int)<32:=aa;have HN:=ae hn;have Vy:=ae (And.intro WM ht);clear iE iU h4 hn aaq aar hT WM h2n ht h2 Lw hz MY;go_wp2_with fail;refine H2.out.mono ?_;rintro e x6 ⟨rfl,Lx⟩;go_wp2_with fail;go_ret;obtain⟨e1,e2⟩:=og.out;subst e1 e2;exact⟨⟨aE,gy.trans (aw.lE g5.out.1) g5.out.2 Lx⟩,aa,am Vy.out,kN.out⟩
  ·have ak9: ¬(slot:Int)<14:=(by omega);rw[if_neg MY]at hR;have⟨m,hm⟩:=ex (n-4);have EN:(n:Int)-4=(m:Int):=aa;have ala:m≤26:=aa;have aen:2^m≤2^26:=Nat.pow_le_pow_right aa ala;have Fn:1≤2^m:=Nat.one_le_two_pow;rw[hm]at hR;have⟨M,hM'⟩:=ex (2^m-1);have apS:((2:Int)^m-1)%4294967296=(M:Int):=(by rw[show(2:Int)^m=((2^m:Nat):Int) by simp];omega);have⟨V,hV⟩:=ex (D/16%2^m);have aeo:V<2^m:=(by rw[←hV];exact Nat.mod_lt _ aa);have hand:bits .and .u32 ((D:Int)/16) (M:Int)=(V:Int):=(by rw[show(D:Int)/16=((D/16:Nat):Int) by omega,u32_and_nat _ _ aa aa,←hM',Nat.and_two_pow_sub_one_eq_mod,hV]);have hVm:V%2^m=V:=Nat.mod_eq_of_lt aeo;rw[hV]at hR;obtain⟨⟨q,s2⟩,hq⟩: ∃z,io.plain y.2 V m=z:=⟨_,rfl⟩
   obtain⟨h2,WN,Lw⟩:=Q4 io qq.out (v:=V) (m:=m) (q:=q) (s2:=s2) (k:=k+4) (by rw[hVm];exact hq) Hv.out aa aa;simp only[hq]at hR;rw[Nat.mod_eq_of_lt WN]at hR;have hqi:(q:Int)<67108864:=aa;have apV:bits .and .u32 (q:Int) (M:Int)=(q:Int):=(by rw[u32_and_nat _ _ aa aa,←hM',Nat.and_two_pow_sub_one_eq_mod,Nat.mod_eq_of_lt WN]);obtain⟨⟨t,z⟩,hz⟩: ∃q,Md.rev io 2164 4 (D:Nat) (y.1,s2)=q:=⟨_,rfl⟩
   simp only[hz]at hR;injection hR with iE iU;have og:=ae (And.intro iE.symm iU.symm);have HZ:=ae hz;have kN:=ae Lw;have Vy:=ae (And.intro WM WN);have apW:=io.aal;have H26:=ae aen;rcases io.kind with hF | hF
   all_goals
    have H2:=ae h2;rw[hF]at H2
   all_goals
    clear iE iU hn aaq aar hT WM h2 Lw hz MY hm aen hM' hV aeo hVm hq WN Fn h4;go_wp2_with fail;refine H2.out.mono ?_;rintro e x6 ⟨rfl,Lx⟩;obtain⟨X2,Hw,fV,MV⟩:=gy.trans (aw.lE g5.out.1) g5.out.2 Lx;obtain⟨h3,ht,ok3⟩:=Q3 io Hw HZ.out (len:=16) (cp:=16) (b:=C) (off:=2045) (k:=k) (io.le kN.out aa) (Md.Fz aa aa aa) aa aa aa aa;have H3:=ae h3;have hti:(t:Int)<16:=aa;have HT3:=ae (And.intro ht ok3);have BS:=ae (And.intro fV MV);clear fV MV Hw Lx h3 ht ok3;go_wp2_with fail;refine H3.out.mono ?_;rintro e x7 ⟨rfl,hw7⟩;go_wp2_with fail;go_ret;obtain⟨e1,e2⟩:=og.out;subst e1 e2;have h26:=H26.out;have htt:=Vy.out;exact⟨⟨aE,gy.trans BS.out.1 BS.out.2 hw7⟩,aa,am HT3.out,HT3.out.2⟩
def bW(st:Nat):Nat:=if st<4 then 0 else if st<10 then st-3 else st-6
def uq(lc lp:Nat)(H:List UInt8):Nat:=H.length%2^lp*2^lc+(if 0<H.length then(H.getD (H.length-1) 0).toNat else 0)/2^(8-lc)
theorem WO(H:List UInt8)(si:lc≤8):uq lc lp H<2^(lc+lp):=by
 unfold uq;have h1:H.length%2^lp<2^lp:=Nat.mod_lt _ (Nat.pow_pos ak);have h2:(if 0<H.length then(H.getD (H.length-1) 0).toNat else 0)/2^(8-lc)<2^lc:=by
  rw[Nat.div_lt_iff_lt_mul (Nat.pow_pos ak),←Nat.pow_add,show lc+(8-lc)=8 by omega];split;·exact(H.getD (H.length-1) 0).toNat_lt
  ·decide
 have h3:(H.length%2^lp+1)*2^lc≤2^lp*2^lc:=Nat.mul_le_mul_right _ h1;rw[Nat.pow_add,Nat.mul_comm (2^lc)];rw[Nat.add_mul]at h3;omega
theorem Dv(st:Nat)(_:st<12)(w:World):Calls prog 256 #[.int .i64 (st:Nat)] w fun e w'=>e= .returned (.int .i64 (bW st:Nat))∧w=w':=by
 have⟨S,hS⟩:=ex (bW st);rw[hS];unfold bW at hS;by_cases h1:st<4;·rw[if_pos h1]at hS;subst hS;have h1i:(st:Int)<4:=aa;go_enter func256,ntmps256;go_wp2_with fail;go_ret;exact⟨rfl,rfl⟩
 ·have h1i: ¬(st:Int)<4:=by omega
  rw[if_neg h1]at hS;by_cases h2:st<10;·have h2i:(st:Int)<10:=(by omega);rw[if_pos h2]at hS;have HS:=ae hS;clear hS;go_enter func256,ntmps256;go_wp2_with fail;go_ret;have:=HS.out;exact⟨aE,rfl⟩
  ·have h2i: ¬(st:Int)<10:=(by omega);rw[if_neg h2]at hS;have HS:=ae hS;clear hS;go_enter func256,ntmps256;go_wp2_with fail;go_ret;have:=HS.out;exact⟨aE,rfl⟩
theorem na(st a b:Nat)(w:World):Calls prog 260 #[.int .i64 (st:Nat),.int .i64 (a:Nat),.int .i64 (b:Nat)] w fun e w'=>e= .returned (.int .i64 ((if st<7 then a else b:Nat):Int))∧w=w':=by
 by_cases h1:st<7
 ·have h1i:(st:Int)<7:=by omega
  rw[if_pos h1];go_enter func260,ntmps260;go_wp2_with fail;go_ret;exact⟨rfl,rfl⟩
 ·have h1i: ¬(st:Int)<7:=by omega
  rw[if_neg h1];go_enter func260,ntmps260;go_wp2_with fail;go_ret;exact⟨rfl,rfl⟩
def FD(v:Value)(w:World)(e:Ending)(w':World):Prop:=e= .returned v∧Below w.heap.size w w'
theorem fW{a:Int}(h0: -9223372036854775808≤a)(h1:a≤9223372036854775807):wrap64 a=a:=oy
theorem Ly{u K:Nat}(si:lc≤4)(ur:lp≤4)(hu:u<256)(hK:n%2^lp*2^lc+u/2^(8-lc)=K):wrap64 (wrap64 (bits .and .i64 (n:Int) (wrap64 (wrap64 (2^lp)-1))*2^lc)+(u:Int)/2^(8-lc))=(K:Int):=by
 have h1:1≤2^lp:=Nat.one_le_two_pow;have h2:2^lp≤2^4:=Nat.pow_le_pow_right aa ur;have h3:2^lc≤2^4:=Nat.pow_le_pow_right aa si;have e1:wrap64 ((2:Int)^lp)=((2^lp:Nat):Int):=by rw[show(2:Int)^lp=((2^lp:Nat):Int) by simp];exact fW aa aa
 have e2:wrap64 (((2^lp:Nat):Int)-1)=((2^lp-1:Nat):Int):=by rw[fW aa aa];omega
 have e3:(n:Int)%((2^lp:Nat):Int)=((n%2^lp:Nat):Int):=aa;have h4:n%2^lp<2^lp:=Nat.mod_lt _ h1;have h5:n%2^lp*2^lc≤16*16:=Nat.mul_le_mul aa aa;have e4:((n%2^lp:Nat):Int)*2^lc=((n%2^lp*2^lc:Nat):Int):=ag;have e5:(u:Int)/2^(8-lc)=((u/2^(8-lc):Nat):Int):=ag;have h6:u/2^(8-lc)≤u:=Nat.div_le_self _ _;rw[e1,e2,oT _ _ aa,e3,e4,e5];generalize n%2^lp*2^lc=N at*;generalize u/2^(8-lc)=U at*;rw[fW (a:=(N:Int)) aa aa,fW aa aa];omega
theorem WP{P:Nat→Nat}(hM:bB w C L lc lp pb st r P)(si:lc≤4)(ur:lp≤4)(A:Option Addr)(H:List UInt8)(c:Nat)(hB:Bytes w A H)(hc:H.length≤c)(hH:H.length≤1000000000):
  Calls prog 255 #[PF C,.slice A H.length c] w (FD (.int .i64 (uq lc lp H:Nat)) w):=by
 obtain⟨c0,c1,_⟩:=hM.cells;have⟨K,hK⟩:=ex (uq lc lp H);rw[hK];unfold uq at hK;have pW:(H.length:Int)≤(c:Int):=aa;have hHi:(H.length:Int)≤1000000000:=aa;by_cases h0:0<H.length
 ·have ZO:(0:Int)<(H.length:Int):=by omega
  rw[if_pos h0]at hK;obtain⟨b,off,rfl,_,dm⟩:=hB.addr h0;have cx:=dm (H.length-1) aa;rw[←dj]at cx;generalize H.getD (H.length-1) 0=u at*;have⟨y,hy⟩:=ex (H.length-1);rw[hy]at cx;have hyi:(H.length:Int)-1=(y:Int):=aa;have hyl:(y:Int)<(H.length:Int):=aa;have HK:=ae hK;clear hK dm hB hy;go_enter func255,ntmps255;go_wp2_with fail;go_quiet (fail);go_wp2_with fail;go_ret;have e:=Ly si ur (u:=u.toNat) u.toNat_lt HK.out;have e0:wrap64 ((u.toNat:Nat):Int)=((u.toNat:Nat):Int):=fW aa (am u.toNat_lt);refine⟨?_,below_drewN (Below.refl _ _) _⟩;show Ending.returned (Value.int .i64 _)=_;rw[e0,e]
 ·have ZO: ¬(0:Int)<(H.length:Int):=by omega
  rw[if_neg h0]at hK;have HK:=ae hK;clear hK hB;go_enter func255,ntmps255;go_wp2_with fail;go_quiet (fail);go_wp2_with fail;go_ret;have e:=Ly si ur (u:=0) ak HK.out;rw[show(((0:Nat):Nat):Int)/2^(8-lc)=0 by simp,Int.add_zero]at e;refine⟨?_,below_drewN (Below.refl _ _) _⟩;show Ending.returned (Value.int .i64 _)=_;exact congrArg (fun n:Int=>Ending.returned (Value.int .i64 n)) e
theorem xV{W1:World}{v0 v1 v2 v3 v4:Value}(h:(w.alloc (.cells #[v0,v1,v2,v3,v4] 183)).alloc (.cells #[.int .i64 0,.int .u8 0,.int .i64 0,.int .i64 0,.int .i64 0] 183)=W1):
  (W1.cell? ⟨w.heap.size,0,none⟩=some v0∧W1.cell? ⟨w.heap.size,1,none⟩=some v1∧W1.cell? ⟨w.heap.size,2,none⟩=some v2∧W1.cell? ⟨w.heap.size,3,none⟩=some v3∧W1.cell? ⟨w.heap.size,4,none⟩=some v4)∧
  W1.heap[w.heap.size+1]? =some (.cells [Value.int .i64 0,.int .u8 0,.int .i64 0,.int .i64 0,.int .i64 0].toArray 183 (0,0)):=by
 have h0:W1.heap[w.heap.size]? =some (.cells [v0,v1,v2,v3,v4].toArray 183 (0,0)):=by rw[←h];exact(Below.heap_alloc _ _ _ ag).trans (heap_alloc_last w _)
 have h1:W1.heap[w.heap.size+1]? =some (.cells [Value.int .i64 0,.int .u8 0,.int .i64 0,.int .i64 0,.int .i64 0].toArray 183 (0,0)):=by rw[←h];have h:=heap_alloc_last (w.alloc (.cells #[v0,v1,v2,v3,v4] 183)) (.cells #[.int .i64 0,.int .u8 0,.int .i64 0,.int .i64 0,.int .i64 0] 183);simpa using h
 refine⟨⟨?_,?_,?_,?_,?_⟩,h1⟩<;>(rw[cell_of_row W1 _ _ _ _ _ h0];rfl)
theorem oW{x:io.S}(h:gy io C L lc lp pb st r x X (w.drewN n) w'):gy io C L lc lp pb st r x X w w':=by obtain⟨X',hM,ci,hX⟩:=h;exact⟨X',hM,aw.lE ci,hX⟩
theorem MS.front{x:io.S}(h:MS io w C L lc lp pb st r x X)(hm:bB w' C L lc lp pb st r' x.1)(ho:aw [C] w w'):MS io w' C L lc lp pb st r' x X:=
 ⟨hm,io.aA h.io ho.size (fun i hi=>ho.block i (io.lt h.io i hi) (fun e=>h.rt CT)),h.rt,h.ul⟩
theorem Q8(io:Io){x:io.S}(hM:MS io w C L lc lp pb st r x X)(hp:p<16)(kk:Int)(b:UInt8)(l d q:Int)(Q6:0≤l)(xT:l≤300)(hd0:0≤d)(iz:d≤4294967295)
  {n dd:Nat} {y Z:io.S} (iE:Md.len io 432 p l x=(n,y)) (iU:Md.bM io n d y=(dd,Z)) (bL:io.ok x.2 (k+52)):
  Calls prog 235 #[PF C,io.v,.int .i64 (p:Nat),tS kk b l d q] w (Dt (2≤n∧n≤273∧1≤dd∧dd≤4294967296∧io.ok Z.2 k) (jR (tS 1 0 (n:Nat) (dd:Nat) 0) io C L lc lp pb (if st<7 then 7 else 10) (aY r 3 (dd:Nat)) Z X w)):=by
 have⟨ls,Q9⟩:=ex ((if st<7 then 7 else 10));rw[Q9];have IY:=ae Q9;obtain⟨r',FE⟩: ∃r',aY r 3 (dd:Nat)=r':=⟨_,rfl⟩
 rw[FE];have HR':=ae FE;have⟨Q,hQ⟩:=ex ((2≤n∧n≤273∧1≤dd∧dd≤4294967296∧io.ok Z.2 k));rw[hQ];have HQ:=ae hQ;clear Q9 FE hQ;have fG:Hid (∀i∈C::L::X,i<w.heap.size):=ae (by
  intro i hi;simp only[List.mem_cons]at hi;rcases hi with rfl | rfl | hi;·exact hM.mod.Au
  ·exact hM.mod.xS
  ·exact io.lt hM.io i hi)
 have⟨bs,oq⟩:=ex (w.heap.size+1);have iN:=ae oq;clear oq;have⟨W1,fv⟩:=ex ((w.alloc (.cells #[.int .i64 kk,.int .u8 (b.toNat:Nat),.int .i64 l,.int .i64 d,.int .i64 q] 183)).alloc (.cells #[.int .i64 0,.int .u8 0,.int .i64 0,.int .i64 0,.int .i64 0] 183));have az:Below w.heap.size w W1:=by rw[←fv];exact(ar).alloc ag _
 have p7:=hM.below az;obtain⟨VA,mm⟩:=xV fv;rw[iN.out]at mm;have oQ:=ae fv;have qq:=ae p7;have p8:=ae VA;have qC:=ae mm;have a7:=ae az;have ne1:C≠bs:=fun e=>by have:=fG.out C ag;have:=iN.out;omega
 have Ra:bs≠C:=fun e=>ne1 e.symm;have kO:Hid (w.heap.size ∉ C::L::X∧bs ∉ C::L::X):=ae ⟨fun h=>am (fG.out _ h),fun h=>CW⟩;clear fv p7 VA mm az hM;have oX:=ae (IV io (qq.out.drewN 1) iE (k:=k+42) bL (.inl rfl) hp Q6 xT);have AX:=ae iU;have AU:(p:Int)<16:=aa;have bw:=p8.out.2.2.1;clear iE iU bL;go_enter func235,ntmps235;go_upto_region 1 with fail;rw[oQ.out,iN.out];refine wp_region_held_drew (S:=fun w2=>w2.cell? ⟨w.heap.size,2,none⟩=some (.int .i64 l)) ai bw (fun hS=> ?_);refine af 0 hS (h:=af 1 hS (h:=af 2 hS (h:=af 3 hS (h:=af 4 hS (h:=af 5 hS (h:=aL 6 hS (h:= ?_)))))));refine aC 7 (fun K hK=> ?_);go_simp;refine oX.out.mono ?_;rintro e x4 ⟨⟨rfl,MZ⟩,FC,qt,ok4⟩;obtain⟨X4,VB,jd,hX4⟩:=(show gy io C L lc lp pb st r y X W1 x4 from oW MZ)
 have aau:=ae jd;have g4:=aI aau.out kO.out.1 p8.out.2.2.1;have Fw:=ae VB;have HX4:=ae hX4;have WQ:=ae ok4;have VC:=ae (And.intro FC qt);have atG:(n:Int)≤273:=aa;clear VB jd hX4 ok4 FC qt;go_wp2_with fail;refine hK.out _ _ g4 (fun _=> ?_);clear hK K;refine af 8 g4 (h:= ?_);refine wpAnyH_done ai ?_ _;have g4':=aI aau.out kO.out.1 p8.out.2.2.2.1;clear hS g4 bw oX;have aev:=ae (WL io (Fw.out.drewN 1) AX.out WQ.out VC.out.1 (am VC.out) hd0 iz);have bw:=g4';have atH:=HX4;go_upto_region 2 with fail;refine wp_region_held_drew (S:=fun w2=>w2.cell? ⟨w.heap.size,3,none⟩=some (.int .i64 d)) ai bw (fun hS=> ?_);refine af 0 hS (h:=af 1 hS (h:=af 2 hS (h:=af 3 hS (h:=af 4 hS (h:=af 5 hS (h:=aL 6 hS (h:= ?_)))))));refine aC 7 (fun K hK=> ?_);go_simp;refine aev.out.mono ?_;rintro e x5 ⟨⟨rfl,hw5⟩,iz,jz,ok5⟩;obtain⟨X5,VD,AY,hX5⟩:=gy.trans aau.out HX4.out (show gy io C L lc lp pb st r Z X4 x4 x5 from oW hw5);have Rb:=ae AY;have g5:=aI Rb.out kO.out.1 p8.out.2.2.2.1;have WR:=ae VD;have HX5:=ae hX5;have WS:=ae ok5;have Hx:=ae (And.intro iz jz);clear VD AY hX5 ok5 iz jz hw5;go_wp2_with fail;refine hK.out _ _ g5 (fun _=> ?_);clear hK K;refine af 8 g5 (h:= ?_);refine wpAnyH_done ai ?_ _;clear hS g5 bw aev g4';have IZ:=ae (um WR.out.mod 3 aa (dd:Nat));rw[HR'.out]at IZ;have mg:Hid (∀i∈X5,i∈X∨W1.heap.size≤i):=HX5;go_wp2_with fail;refine IZ.out.mono ?_;rintro e x6 ⟨rfl,hm6,sF⟩;have VE:=WR.out.front hm6 sF;have AZ:aw (C::L::X) W1 x6:=Rb.out.trans sF (fun i hi=> .inl (by simp at hi;simp[hi]));have Lz:=ae VE;have kg:=ae AZ;obtain⟨_,_,_,c3,_⟩:=VE.mod.cells;have f3:=VE.mod.jt 3;have Dw:=na st 7 10 x6;rw[IY.out]at Dw;have VF:=ae Dw;have mm:=(kg.out.block bs oz kO.out.2).trans qC.out;have z0:x6.cell? ⟨bs,0,none⟩=some (.int .i64 0):=xv;have z1:x6.cell? ⟨bs,1,none⟩=some (.int .u8 0):=xv;have z2:x6.cell? ⟨bs,2,none⟩=some (.int .i64 0):=xv;have z3:x6.cell? ⟨bs,3,none⟩=some (.int .i64 0):=xv;have z4:x6.cell? ⟨bs,4,none⟩=some (.int .i64 0):=xv;have zf: ∀i,x6.frozen? ⟨bs,i,none⟩=false:=fun i=>frozen_of_row _ _ _ _ _ mm;have EO:=zf 0;have EP:=zf 1;have EQ:=zf 2;have ER:=zf 3;have zf4:=zf 4;clear mm zf;clear hm6 sF VE AZ Dw IZ;go_wp2_with fail;refine VF.out.mono ?_;rintro e x7 ⟨rfl,rfl⟩;go_wp2_with fail;refine bodyPost_ret (v:=tS 1 0 (n:Nat) (dd:Nat) 0) (by simp[results,results235,go_sem,z0,z1,z2,z3,z4]) rfl ⟨⟨rfl,X5,?_,?_,?_⟩,by rw[←HQ.out];exact⟨VC.out.1,VC.out.2,Hx.out.1,Hx.out.2,WS.out⟩⟩
 ·have ke:bs ∉ C::L::X5:=fun h=>by
   simp only[List.mem_cons]at h;rcases h with h | h | h;·exact Ra h
   ·have:=fG.out L ag;have:=iN.out;omega
   ·rcases mg.out _ h with h | h;·have:=fG.out bs dD;have:=iN.out;omega
    ·have:=(cr qC.out);omega
  exact(((((Lz.out.iC (k:=3) (st':=ls) (r':=r') ak rfl).bj ke _).bj ke _).bj ke _).bj ke _).bj ke _
 ·have h0:aw (C::L::X) w x6:=(aw.aF a7.out).trans kg.out (fun i hi=> .inl hi);have hn:bs∈C::L::X∨w.heap.size≤bs:= .inr (am iN.out);exact(((((h0.setCell (p:=⟨C,3,none⟩) (.inl ag) _).setCell (p:=⟨bs,0,none⟩) hn _).setCell (p:=⟨bs,1,none⟩) hn _).setCell (p:=⟨bs,2,none⟩) hn _).setCell (p:=⟨bs,3,none⟩) hn _).setCell (p:=⟨bs,4,none⟩) hn _
 ·intro i hi;rcases mg.out i hi with h | h;·exact .inl h
  ·exact .inr (Nat.le_trans a7.out.size h)
theorem bK{st':Nat}{x':io.S}{X1:List Nat}{w1 w2:World}(ho:aw (C::L::X) w w1∧ ∀i∈X1,i∈X∨w.heap.size≤i)(h:gy io C L lc lp pb st' r' x' X1 (w1.drewN n) w2):gy io C L lc lp pb st' r' x' X w w2:=gy.trans ho.1 ho.2 (oW h)
namespace Md
def which(io:Io)(st:Nat)(q:Int)(x:io.S):Nat×io.S:=
 let a:=io.au (204+st) (q !=0) x
 if a.1=false then(0,a.2)
 else
  let b:=io.au (216+st) (q !=1) a.2
  if b.1=false then(1,b.2)
  else
   let c:=io.au (228+st) (q !=2) b.2
   (2+c.1.toNat,c.2)
def kP(io:Io)(st p:Nat)(l q:Int)(x:io.S):(Nat×Nat)×io.S:=
 let w:=which io st q x
 if w.1=0 then
  let s:=io.au (240+16*st+p) (l !=1) w.2
  if s.1=false then((0,1),s.2)
  else
   let n:=len io 946 p l s.2
   ((0,n.1),n.2)
 else
  let n:=len io 946 p l w.2
  ((w.1,n.1),n.2)
end Md
theorem Re(io:Io){x:io.S}(hM:MS io w C L lc lp pb st r x X)(bQ:st<12){wh:Nat}{q:Int}{Z:io.S}(hR:Md.which io st q x=(wh,Z))(bL:io.ok x.2 (k+3)):
  Calls prog 261 #[PF C,io.v,.int .i64 q] w (Dt (wh≤3∧io.ok Z.2 k) (jR (.int .i64 (wh:Nat)) io C L lc lp pb st r Z X w)):=by
 have⟨Q,hQ⟩:=ex ((wh≤3∧io.ok Z.2 k));rw[hQ];have HQ:=ae hQ;have aez:(st:Int)<12:=aa;have gl:=ae bQ;unfold Md.which at hR;obtain⟨⟨A,y⟩,hy⟩: ∃z,io.au (204+st) (q !=0) x=z:=⟨_,rfl⟩
 obtain⟨h1,sB⟩:=m8 io (hM.drewN 1) hy (at_:=204) (j:=st) (len:=12) (cp:=12) (b:=C) (off:=212) rfl (k:=k+2) bL (Md.mB rfl aa) bQ aa aa;simp only[hy]at hR;have H1:=ae h1;have oU:=ae sB;have HR:=ae hR;have aeA:aw (C::L::X) w w∧ ∀i∈X,i∈X∨w.heap.size≤i:=⟨aw.refl _ _,fun i hi=> .inl hi⟩
 have aax:=ae aeA;have bw:=hM.mod.cells.2.2.2.1;have oj:=bw;clear hy hR h1 sB bL hQ hM bQ aeA;go_enter func261,ntmps261;go_upto_region 2 with fail;refine wp_region_held_drew (S:=fun w2=>w2.cell? ⟨C,3,none⟩=some (.int .i64 (st:Nat))) ai bw (fun hS=> ?_);refine af 0 hS (h:=af 1 hS (h:=af 2 hS (h:=af 3 hS (h:=af 4 hS (h:=af 5 hS (h:=af 6 hS (h:=af 7 hS (h:=aL 8 hS (h:=af 9 hS (h:=af 10 hS (h:= ?_)))))))))));refine aC 11 (fun K hK=> ?_);go_simp;refine H1.out.mono ?_;rintro e x1 ⟨rfl,Rf⟩;obtain⟨X1,I0,BT,Rg⟩:=bK aax.out Rf;have I1:=ae I0;have sG:=ae (And.intro BT Rg);have ZR:=I0.mod.cells.2.2.2.1;clear I0 BT Rg Rf;go_wp2_with fail;refine hK.out _ _ ZR (fun _=> ?_);clear hK K;refine af 12 ZR (h:=af 13 ZR (h:= ?_));refine wpAnyH_done ai ?_ _;clear hS bw oj H1;cases A with
 | false=>
  have hR:=HR.out;simp only[if_true]at hR;injection hR with iE iU;have og:=ae (And.intro iE.symm iU.symm);clear iE iU;rw[show de false=0 from rfl];go_wp2_with fail;go_ret;obtain⟨e1,e2⟩:=og.out;subst e1 e2;exact⟨⟨rfl,X1,I1.out,sG.out.1,sG.out.2⟩,by rw[←HQ.out];exact⟨aa,io.le oU.out aa⟩⟩
 | true=>
  have hR:=HR.out;simp only[Bool.true_eq_false,if_false]at hR;obtain⟨⟨B,y2⟩,hy⟩: ∃z,io.au (216+st) (q !=1) y=z:=⟨_,rfl⟩
  obtain⟨h1,sB⟩:=m8 io (I1.out.drewN 1) hy (at_:=216) (j:=st) (len:=12) (cp:=12) (b:=C) (off:=224) rfl (k:=k+1) oU.out (Md.mB rfl aa) gl.out aa aa;simp only[hy]at hR;have H1:=ae h1;have kN:=ae sB;have AX:=ae hR;clear hy hR h1 sB;rw[show de true=1 from rfl];have bw:=I1.out.mod.cells.2.2.2.1;go_upto_region 4 with fail;refine wp_region_held_drew (S:=fun w2=>w2.cell? ⟨C,3,none⟩=some (.int .i64 (st:Nat))) ai bw (fun hS=> ?_);refine af 0 hS (h:=af 1 hS (h:=af 2 hS (h:=af 3 hS (h:=af 4 hS (h:=af 5 hS (h:=af 6 hS (h:=af 7 hS (h:=aL 8 hS (h:=af 9 hS (h:=af 10 hS (h:= ?_)))))))))));refine aC 11 (fun K hK=> ?_);go_simp;refine H1.out.mono ?_;rintro e x2 ⟨rfl,Rh⟩;obtain⟨X2,I2,BU,Ri⟩:=bK sG.out Rh;have M0:=ae I2;have ol:=ae (And.intro BU Ri);have ZS:=I2.mod.cells.2.2.2.1;clear I2 BU Ri Rh;go_wp2_with fail;refine hK.out _ _ ZS (fun _=> ?_);clear hK K;refine af 12 ZS (h:=af 13 ZS (h:= ?_));refine wpAnyH_done ai ?_ _;clear hS bw H1;cases B with
  | false=>
   have hR:=AX.out;simp only[if_true]at hR;injection hR with iE iU;have og:=ae (And.intro iE.symm iU.symm);clear iE iU;rw[show de false=0 from rfl];go_wp2_with fail;go_ret;obtain⟨e1,e2⟩:=og.out;subst e1 e2;exact⟨⟨rfl,X2,M0.out,ol.out.1,ol.out.2⟩,by rw[←HQ.out];exact⟨aa,io.le kN.out aa⟩⟩
  | true=>
   have hR:=AX.out;simp only[Bool.true_eq_false,if_false]at hR;obtain⟨⟨D,y3⟩,hy⟩: ∃z,io.au (228+st) (q !=2) y2=z:=⟨_,rfl⟩
   obtain⟨h1,sB⟩:=m8 io (M0.out.drewN 1) hy (at_:=228) (j:=st) (len:=12) (cp:=12) (b:=C) (off:=236) rfl (k:=k) kN.out (Md.mB rfl aa) gl.out aa aa;simp only[hy]at hR;injection hR with iE iU;have og:=ae (And.intro iE.symm iU.symm);have H1:=ae h1;have ald:=ae sB;clear hy iE iU h1 sB;rw[show de true=1 from rfl];have bw:=M0.out.mod.cells.2.2.2.1;go_upto_region 1 with fail;refine wp_region_held_drew (S:=fun w2=>w2.cell? ⟨C,3,none⟩=some (.int .i64 (st:Nat))) ai bw (fun hS=> ?_);refine af 0 hS (h:=af 1 hS (h:=af 2 hS (h:=af 3 hS (h:=af 4 hS (h:=af 5 hS (h:=af 6 hS (h:=af 7 hS (h:=aL 8 hS (h:=af 9 hS (h:=af 10 hS (h:= ?_)))))))))));refine aC 11 (fun K hK=> ?_);go_simp;refine H1.out.mono ?_;rintro e x3 ⟨rfl,aeB⟩;obtain⟨X3,aay,ZT,aeC⟩:=bK ol.out aeB;have ale:=ae aay;have aeD:=ae (And.intro ZT aeC);have gx3:=aay.mod.cells.2.2.2.1;clear aay ZT aeC aeB;go_wp2_with fail;refine hK.out _ _ gx3 (fun _=> ?_);clear hK K;refine af 12 gx3 (h:=af 13 gx3 (h:= ?_));refine wpAnyH_done ai ?_ _;clear hS bw H1;have hB:de D=(D.toNat:Int):=(by cases D<;>rfl);have hBl:D.toNat≤1:=(by cases D<;>decide);go_wp2_with fail;go_ret;obtain⟨e1,e2⟩:=og.out;subst e1 e2;refine⟨⟨?_,X3,ale.out,aeD.out.1,aeD.out.2⟩,by rw[←HQ.out];exact⟨aa,ald.out⟩⟩;refine congrArg (fun n:Int=>Ending.returned (Value.int .i64 n)) ?_;simp only[hB,IntKind.wrap_i64];omega
theorem WT(io:Io){x:io.S}(hM:MS io w C L lc lp pb st r x X)(bQ:st<12)(hp:p<16)(kk:Int)(b:UInt8)(l d q:Int)(Q6:0≤l)(xT:l≤300)
  {wh n:Nat} {Z:io.S} (hR:Md.kP io st p l q x=((wh,n),Z)) (bL:io.ok x.2 (k+14)):
  Calls prog 236 #[PF C,io.v,.int .i64 (p:Nat),tS kk b l d q] w (Dt (wh≤3∧1≤n∧n≤273∧(n=1→wh=0)∧io.ok Z.2 k) (jR (tS 2 0 (n:Nat) 0 (wh:Nat)) io C L lc lp pb (if st<7 then(if n=1 then 9 else 8)else 11) (aY r wh (r4 r.1 r.2.1 r.2.2.1 r.2.2.2 wh)) Z X w)):=by
 have⟨ls,Q9⟩:=ex ((if st<7 then(if n=1 then 9 else 8)else 11));rw[Q9];have IY:=ae Q9;obtain⟨r',FE⟩: ∃r',aY r wh (r4 r.1 r.2.1 r.2.2.1 r.2.2.2 wh)=r':=⟨_,rfl⟩
 rw[FE];have HR':=ae FE;have⟨Q,hQ⟩:=ex ((wh≤3∧1≤n∧n≤273∧(n=1→wh=0)∧io.ok Z.2 k));rw[hQ];have HQ:=ae hQ;clear Q9 FE hQ;have fG:Hid (∀i∈C::L::X,i<w.heap.size):=ae (by
  intro i hi;simp only[List.mem_cons]at hi;rcases hi with rfl | rfl | hi;·exact hM.mod.Au
  ·exact hM.mod.xS
  ·exact io.lt hM.io i hi)
 have⟨bs,oq⟩:=ex (w.heap.size+1);have iN:=ae oq;clear oq;have⟨W1,fv⟩:=ex ((w.alloc (.cells #[.int .i64 kk,.int .u8 (b.toNat:Nat),.int .i64 l,.int .i64 d,.int .i64 q] 183)).alloc (.cells #[.int .i64 0,.int .u8 0,.int .i64 0,.int .i64 0,.int .i64 0] 183));have az:Below w.heap.size w W1:=by rw[←fv];exact(ar).alloc ag _
 have p7:=hM.below az;obtain⟨VA,mm⟩:=xV fv;rw[iN.out]at mm;have oQ:=ae fv;have qq:=ae p7;have p8:=ae VA;have qC:=ae mm;have a7:=ae az;have ne1:C≠bs:=fun e=>by have:=fG.out C ag;have:=iN.out;omega
 have Ra:bs≠C:=fun e=>ne1 e.symm;have kO:Hid (w.heap.size ∉ C::L::X∧bs ∉ C::L::X):=ae ⟨fun h=>am (fG.out _ h),fun h=>CW⟩;clear fv p7 VA mm az hM;unfold Md.kP at hR;obtain⟨⟨v,y⟩,hy⟩: ∃z,Md.which io st q x=z:=⟨_,rfl⟩
 simp only[hy]at hR;have HWH:=ae (Re io qq.out bQ hy (k:=k+11) bL);have AU:(p:Int)<16:=aa;have aez:(st:Int)<12:=aa;have qE:=p8.out.2.2.2.2;have HR:=ae hR;clear hy hR bL;go_enter func236,ntmps236;go_upto_region 1 with fail;rw[oQ.out,iN.out];go_wp2_with fail;refine HWH.out.mono ?_;rintro e x4 ⟨⟨rfl,MZ⟩,hv3,ok4⟩;obtain⟨X4,VB,jd,hX4⟩:=MZ;have Fw:=ae VB;have Ba:=ae (And.intro jd hX4);have WQ:=ae ok4;have bw:=And.intro VB.mod.cells.2.2.2.1 (aI jd kO.out.1 p8.out.2.2.1);clear VB jd hX4 ok4 HWH qE;by_cases hv:v=0
 ·subst hv;have hR:=HR.out;rw[if_pos rfl]at hR;obtain⟨⟨B,y2⟩,hy⟩: ∃z,io.au (240+16*st+p) (l !=1) y=z:=⟨_,rfl⟩
  obtain⟨h1,sB⟩:=m8 io (Fw.out.drewN 1) hy (at_:=240+16*st) (j:=p) (len:=16) (cp:=16) (b:=C) (off:=248+st*16) rfl (k:=k+10) WQ.out (Md.mB aa aa) hp aa aa;simp only[hy]at hR;have qI:=ae h1;have WS:=ae sB;have AX:=ae hR;clear hy hR h1 sB;go_upto_region 2 with fail;refine wp_region_held_drew (S:=fun w2=>w2.cell? ⟨C,3,none⟩=some (.int .i64 (st:Nat))∧w2.cell? ⟨w.heap.size,2,none⟩=some (.int .i64 l)) ai bw (fun hS=> ?_);refine af 0 hS (h:=af 1 hS (h:=af 2 hS (h:=af 3 hS (h:=af 4 hS (h:=af 5 hS (h:=af 6 hS (h:=af 7 hS (h:=aL 8 hS (h:=af 9 hS (h:=af 10 hS (h:=af 11 hS (h:= ?_))))))))))));refine af 12 hS (h:=af 13 hS (h:=af 14 hS (h:=aL 15 hS (h:=af 16 hS (h:= ?_)))));refine aC 17 (fun K hK=> ?_);go_simp;refine qI.out.mono ?_;rintro e x5 ⟨rfl,hw5⟩;obtain⟨X5,VD,AY,hX5⟩:=bK Ba.out hw5;have WR:=ae VD;have Qb:=ae (And.intro AY hX5);have g5:=And.intro VD.mod.cells.2.2.2.1 (aI AY kO.out.1 p8.out.2.2.1);clear VD AY hX5 hw5;go_wp2_with fail;refine hK.out _ _ g5 (fun _=> ?_);clear hK K;refine af 18 g5 (h:=af 19 g5 (h:= ?_));refine wpAnyH_done ai ?_ _;clear hS bw qI g5;cases B with
  | false=>
   have hR:=AX.out;simp only[if_true]at hR;injection hR with iE iU;injection iE with iE Qc;have og:Hid (wh=0∧n=1∧Z=y2):=ae ⟨iE.symm,Qc.symm,iU.symm⟩;clear iE iU Qc;rw[show de false=0 from rfl];obtain⟨_,_,_,c3,_⟩:=WR.out.mod.cells;have f3:=WR.out.mod.jt 3;have Dw:=na st 9 11 x5;rw[show(if st<7 then 9 else 11)=ls from by rw[←IY.out,og.out.2.1];rfl]at Dw;have VF:=ae Dw;have kg:Hid (aw (C::L::X) W1 x5):=ae Qb.out.1;have mg:Hid (∀i∈X5,i∈X∨W1.heap.size≤i):=ae Qb.out.2;have ES:Hid (r'=r):=ae (by rw[←HR'.out,og.out.1];rfl);have mm:=(kg.out.block bs oz kO.out.2).trans qC.out;have z0:x5.cell? ⟨bs,0,none⟩=some (.int .i64 0):=xw;have z1:x5.cell? ⟨bs,1,none⟩=some (.int .u8 0):=xw;have z2:x5.cell? ⟨bs,2,none⟩=some (.int .i64 0):=xw;have z3:x5.cell? ⟨bs,3,none⟩=some (.int .i64 0):=xw;have z4:x5.cell? ⟨bs,4,none⟩=some (.int .i64 0):=xw;have zf: ∀i,x5.frozen? ⟨bs,i,none⟩=false:=fun i=>frozen_of_row _ _ _ _ _ mm;have EO:=zf 0;have EP:=zf 1;have EQ:=zf 2;have ER:=zf 3;have zf4:=zf 4;clear mm zf;clear Dw;go_wp2_with fail;refine VF.out.mono ?_;rintro e x8 ⟨rfl,rfl⟩;go_wp2_with fail;rw[og.out.2.2,ES.out];refine bodyPost_ret (v:=tS 2 0 (n:Nat) 0 (wh:Nat)) (by simp[results,results236,go_sem,og.out.1,og.out.2.1,z0,z1,z2,z3,z4]) rfl ⟨⟨rfl,X5,?_,?_,?_⟩,by rw[←HQ.out,og.out.2.2];have:=og.out;exact⟨aa,aa,aa,aa,io.le WS.out aa⟩⟩
   ·have ke:bs ∉ C::L::X5:=fun h=>by
     simp only[List.mem_cons]at h;rcases h with h | h | h;·exact Ra h
     ·have:=fG.out L ag;have:=iN.out;omega
     ·rcases mg.out _ h with h | h;·have:=fG.out bs dD;have:=iN.out;omega
      ·have:=(cr qC.out);omega
    exact(((((WR.out.iC (k:=3) (st':=ls) (r':=r) ak rfl).bj ke _).bj ke _).bj ke _).bj ke _).bj ke _
   ·have h0:aw (C::L::X) w x5:=(aw.aF a7.out).trans kg.out (fun i hi=> .inl hi);have hn:bs∈C::L::X∨w.heap.size≤bs:= .inr (am iN.out);exact(((((h0.setCell (p:=⟨C,3,none⟩) (.inl ag) _).setCell (p:=⟨bs,0,none⟩) hn _).setCell (p:=⟨bs,1,none⟩) hn _).setCell (p:=⟨bs,2,none⟩) hn _).setCell (p:=⟨bs,3,none⟩) hn _).setCell (p:=⟨bs,4,none⟩) hn _
   ·intro i hi;rcases mg.out i hi with h | h;·exact .inl h
    ·exact .inr (Nat.le_trans a7.out.size h)
  | true=>
   have hR:=AX.out;simp only[Bool.true_eq_false,if_false]at hR;obtain⟨⟨n2,z⟩,hz⟩: ∃q,Md.len io 946 p l y2=q:=⟨_,rfl⟩
   simp only[hz]at hR;injection hR with iE iU;injection iE with iE Qc;subst iE iU Qc;have HZ:=ae hz;clear hz;rw[show de true=1 from rfl];have bw:=aI Qb.out.1 kO.out.1 p8.out.2.2.1;have oX:=ae (IV io (WR.out.drewN 1) HZ.out (k:=k) (io.le WS.out aa) (.inr rfl) hp Q6 xT);go_upto_region 5 with fail;refine wp_region_held_drew (S:=fun w2=>w2.cell? ⟨w.heap.size,2,none⟩=some (.int .i64 l)) ai bw (fun hS=> ?_);refine af 0 hS (h:=af 1 hS (h:=af 2 hS (h:=af 3 hS (h:=af 4 hS (h:=af 5 hS (h:=aL 6 hS (h:= ?_)))))));refine aC 7 (fun K hK=> ?_);go_simp;refine oX.out.mono ?_;rintro e x6 ⟨⟨rfl,Lx⟩,FC,qt,ok6⟩;obtain⟨X6,VE,AZ,hX6⟩:=bK Qb.out Lx;have g6:=aI AZ kO.out.1 p8.out.2.2.1;have Lz:=ae VE;have I3:=ae (And.intro AZ hX6);have Wj:=ae ok6;have Vx:=ae (And.intro FC qt);have alg:(n2:Int)≤273:=aa;clear VE AZ hX6 ok6 FC qt Lx;go_wp2_with fail;refine hK.out _ _ g6 (fun _=> ?_);clear hK K;refine af 8 g6 (h:= ?_);refine wpAnyH_done ai ?_ _;clear hS bw oX g6;obtain⟨_,_,_,_,c4,c5,c6,c7⟩:=Lz.out.mod.cells;have IZ:=ae (um Lz.out.mod 0 aa (r4 r.1 r.2.1 r.2.2.1 r.2.2.2 0));rw[HR'.out]at IZ;have mg:Hid (∀i∈X6,i∈X∨W1.heap.size≤i):=ae I3.out.2;have Rj:x6.cell? ⟨C,4+0,none⟩=some (.int .i64 (r4 r.1 r.2.1 r.2.2.1 r.2.2.2 0)):=by
    have h3:0≤3:=aa;rcases(by omega:0=0∨0=1∨0=2∨0=3)with h | h | h | h;·rw[h];exact c4
    ·rw[h];exact c5
    ·rw[h];exact c6
    ·rw[h];exact c7
   have⟨RQ,hRQ⟩:=ex (r4 r.1 r.2.1 r.2.2.1 r.2.2.2 0);rw[hRQ]at Rj IZ;clear hRQ c4 c5 c6 c7;go_wp2_with fail;refine IZ.out.mono ?_;rintro e x7 ⟨rfl,WU,ut⟩;have WV:=Lz.out.front WU ut;have Rk:aw (C::L::X) W1 x7:=I3.out.1.trans ut (fun i hi=> .inl (by simp at hi;simp[hi]));have HM7:=ae WV;have kg:=ae Rk;obtain⟨_,_,_,c3,_⟩:=WV.mod.cells;have f3:=WV.mod.jt 3;have Dw:=na st 8 11 x7;rw[show(if st<7 then 8 else 11)=ls from by rw[←IY.out];split;rw[if_neg (am Vx.out.1)];rfl]at Dw;have VF:=ae Dw;have mm:=(kg.out.block bs oz kO.out.2).trans qC.out;have z0:x7.cell? ⟨bs,0,none⟩=some (.int .i64 0):=lT;have z1:x7.cell? ⟨bs,1,none⟩=some (.int .u8 0):=lT;have z2:x7.cell? ⟨bs,2,none⟩=some (.int .i64 0):=lT;have z3:x7.cell? ⟨bs,3,none⟩=some (.int .i64 0):=lT;have z4:x7.cell? ⟨bs,4,none⟩=some (.int .i64 0):=lT;have zf: ∀i,x7.frozen? ⟨bs,i,none⟩=false:=fun i=>frozen_of_row _ _ _ _ _ mm;have EO:=zf 0;have EP:=zf 1;have EQ:=zf 2;have ER:=zf 3;have zf4:=zf 4;clear mm zf;clear WU ut WV Rk Dw IZ Rj;go_wp2_with fail;refine VF.out.mono ?_;rintro e x8 ⟨rfl,rfl⟩;go_wp2_with fail;refine bodyPost_ret (v:=tS 2 0 (n2:Nat) 0 ((0:Nat):Int)) (by simp[results,results236,go_sem,z0,z1,z2,z3,z4]) rfl ⟨⟨rfl,X6,?_,?_,?_⟩,by rw[←HQ.out];have:=Vx.out;exact⟨aa,aa,aa,aa,Wj.out⟩⟩
   ·have ke:bs ∉ C::L::X6:=fun h=>by
     simp only[List.mem_cons]at h;rcases h with h | h | h;·exact Ra h
     ·have:=fG.out L ag;have:=iN.out;omega
     ·rcases mg.out _ h with h | h;·have:=fG.out bs dD;have:=iN.out;omega
      ·have:=(cr qC.out);omega
    exact(((((HM7.out.iC (k:=3) (st':=ls) (r':=r') ak rfl).bj ke _).bj ke _).bj ke _).bj ke _).bj ke _
   ·have h0:aw (C::L::X) w x7:=(aw.aF a7.out).trans kg.out (fun i hi=> .inl hi);have hn:bs∈C::L::X∨w.heap.size≤bs:= .inr (am iN.out);exact(((((h0.setCell (p:=⟨C,3,none⟩) (.inl ag) _).setCell (p:=⟨bs,0,none⟩) hn _).setCell (p:=⟨bs,1,none⟩) hn _).setCell (p:=⟨bs,2,none⟩) hn _).setCell (p:=⟨bs,3,none⟩) hn _).setCell (p:=⟨bs,4,none⟩) hn _
   ·intro i hi;rcases mg.out i hi with h | h;·exact .inl h
    ·exact .inr (Nat.le_trans a7.out.size h)
 ·have hR:=HR.out;rw[if_neg hv]at hR;have ZU:((v:Int)==0)=false:=beq_eq_false_iff_ne.2 aa;have hvi:(v:Int)<4:=aa;obtain⟨⟨n2,z⟩,hz⟩: ∃q,Md.len io 946 p l y=q:=⟨_,rfl⟩
  simp only[hz]at hR;injection hR with iE iU;injection iE with iE Qc;subst iE iU Qc;have HZ:=ae hz;clear hz;go_upto_region 2 with fail;refine wp_region_held_drew (S:=fun w2=>w2.cell? ⟨C,3,none⟩=some (.int .i64 (st:Nat))∧w2.cell? ⟨w.heap.size,2,none⟩=some (.int .i64 l)) ai bw (fun hS=> ?_);refine af 0 hS (h:=af 1 hS (h:=af 2 hS (h:=bi 3 hS (h:=bi 4 hS (h:=bi 5 hS (h:=bi 6 hS (h:=bi 7 hS (h:=bi 8 hS (h:=bi 9 hS (h:=bi 10 hS (h:=bi 11 hS (h:= ?_))))))))))));refine bi 12 hS (h:=bi 13 hS (h:=bi 14 hS (h:=bi 15 hS (h:=bi 16 hS (h:=bi 17 hS (h:=bi 18 hS (h:=af 19 hS (h:= ?_))))))));refine wpAnyH_done ai ?_ _;clear hS bw;have bw:=aI Ba.out.1 kO.out.1 p8.out.2.2.1;have oX:=ae (IV io (Fw.out.drewN 2) HZ.out (k:=k) (io.le WQ.out aa) (.inr rfl) hp Q6 xT);go_upto_region 5 with fail;refine wp_region_held_drew (S:=fun w2=>w2.cell? ⟨w.heap.size,2,none⟩=some (.int .i64 l)) ai bw (fun hS=> ?_);refine af 0 hS (h:=af 1 hS (h:=af 2 hS (h:=af 3 hS (h:=af 4 hS (h:=af 5 hS (h:=aL 6 hS (h:= ?_)))))));refine aC 7 (fun K hK=> ?_);go_simp;refine oX.out.mono ?_;rintro e x6 ⟨⟨rfl,Lx⟩,FC,qt,ok6⟩;obtain⟨X6,VE,AZ,hX6⟩:=bK Ba.out Lx;have g6:=aI AZ kO.out.1 p8.out.2.2.1;have Lz:=ae VE;have I3:=ae (And.intro AZ hX6);have Wj:=ae ok6;have Vx:=ae (And.intro FC qt);have alg:(n2:Int)≤273:=aa;clear VE AZ hX6 ok6 FC qt Lx;go_wp2_with fail;refine hK.out _ _ g6 (fun _=> ?_);clear hK K;refine af 8 g6 (h:= ?_);refine wpAnyH_done ai ?_ _;clear hS bw oX g6;obtain⟨_,_,_,_,c4,c5,c6,c7⟩:=Lz.out.mod.cells;have IZ:=ae (um Lz.out.mod v aa (r4 r.1 r.2.1 r.2.2.1 r.2.2.2 v));rw[HR'.out]at IZ;have mg:Hid (∀i∈X6,i∈X∨W1.heap.size≤i):=ae I3.out.2;have Rj:x6.cell? ⟨C,4+v,none⟩=some (.int .i64 (r4 r.1 r.2.1 r.2.2.1 r.2.2.2 v)):=by
   have h3:v≤3:=aa;rcases(by omega:v=0∨v=1∨v=2∨v=3)with h | h | h | h;·rw[h];exact c4
   ·rw[h];exact c5
   ·rw[h];exact c6
   ·rw[h];exact c7
  have⟨RQ,hRQ⟩:=ex (r4 r.1 r.2.1 r.2.2.1 r.2.2.2 v);rw[hRQ]at Rj IZ;clear hRQ c4 c5 c6 c7;go_wp2_with fail;refine IZ.out.mono ?_;rintro e x7 ⟨rfl,WU,ut⟩;have WV:=Lz.out.front WU ut;have Rk:aw (C::L::X) W1 x7:=I3.out.1.trans ut (fun i hi=> .inl (by simp at hi;simp[hi]));have HM7:=ae WV;have kg:=ae Rk;obtain⟨_,_,_,c3,_⟩:=WV.mod.cells;have f3:=WV.mod.jt 3;have Dw:=na st 8 11 x7;rw[show(if st<7 then 8 else 11)=ls from by rw[←IY.out];split;rw[if_neg (am Vx.out.1)];rfl]at Dw;have VF:=ae Dw;have mm:=(kg.out.block bs oz kO.out.2).trans qC.out;have z0:x7.cell? ⟨bs,0,none⟩=some (.int .i64 0):=lT;have z1:x7.cell? ⟨bs,1,none⟩=some (.int .u8 0):=lT;have z2:x7.cell? ⟨bs,2,none⟩=some (.int .i64 0):=lT;have z3:x7.cell? ⟨bs,3,none⟩=some (.int .i64 0):=lT;have z4:x7.cell? ⟨bs,4,none⟩=some (.int .i64 0):=lT;have zf: ∀i,x7.frozen? ⟨bs,i,none⟩=false:=fun i=>frozen_of_row _ _ _ _ _ mm;have EO:=zf 0;have EP:=zf 1;have EQ:=zf 2;have ER:=zf 3;have zf4:=zf 4;clear mm zf;clear WU ut WV Rk Dw IZ Rj;go_wp2_with fail;refine VF.out.mono ?_;rintro e x8 ⟨rfl,rfl⟩;go_wp2_with fail;refine bodyPost_ret (v:=tS 2 0 (n2:Nat) 0 ((v:Nat):Int)) (by simp[results,results236,go_sem,z0,z1,z2,z3,z4]) rfl ⟨⟨rfl,X6,?_,?_,?_⟩,by rw[←HQ.out];have:=Vx.out;exact⟨aa,aa,aa,aa,Wj.out⟩⟩
  ·have ke:bs ∉ C::L::X6:=fun h=>by
    simp only[List.mem_cons]at h;rcases h with h | h | h;·exact Ra h
    ·have:=fG.out L ag;have:=iN.out;omega
    ·rcases mg.out _ h with h | h;·have:=fG.out bs dD;have:=iN.out;omega
     ·have:=(cr qC.out);omega
   exact(((((HM7.out.iC (k:=3) (st':=ls) (r':=r') ak rfl).bj ke _).bj ke _).bj ke _).bj ke _).bj ke _
  ·have h0:aw (C::L::X) w x7:=(aw.aF a7.out).trans kg.out (fun i hi=> .inl hi);have hn:bs∈C::L::X∨w.heap.size≤bs:= .inr (am iN.out);exact(((((h0.setCell (p:=⟨C,3,none⟩) (.inl ag) _).setCell (p:=⟨bs,0,none⟩) hn _).setCell (p:=⟨bs,1,none⟩) hn _).setCell (p:=⟨bs,2,none⟩) hn _).setCell (p:=⟨bs,3,none⟩) hn _).setCell (p:=⟨bs,4,none⟩) hn _
  ·intro i hi;rcases mg.out i hi with h | h;·exact .inl h
   ·exact .inr (Nat.le_trans a7.out.size h)
theorem aaz(x:UInt8)(j:Nat):(bits .and .u8 ((x.toNat:Nat)/2^j) 1==1)=Md.aQ (x.toNat:Nat) j:=by have hle:x.toNat/2^j≤x.toNat:=Nat.div_le_self _ _;have hx:=x.toNat_lt;have e:((x.toNat:Nat):Int)/2^j=((x.toNat/2^j:Nat):Int):=ag;unfold Md.aQ;rw[e,show(1:Int)=((1:Nat):Int)from rfl,u8_and_nat _ _ aa aa,nat_mask1,Bool.eq_iff_iff];simp
namespace Md
def gJ(io:Io)(T like:Nat)(v:Int):Nat→Nat→Bool→io.S→Nat×io.S
 | 0,m,_,x=>(m,x)
 | n+1,m,al,x=>
  gJ io T like v n (2*m+(io.au (T+(if al then m+(256+256*(like/2^n%2))else m)) (aQ v n) x).1.toNat) (al&&((io.au (T+(if al then m+(256+256*(like/2^n%2))else m)) (aQ v n) x).1.toNat==like/2^n%2))
   (io.au (T+(if al then m+(256+256*(like/2^n%2))else m)) (aQ v n) x).2
def nS(H:List UInt8)(a:Int):Nat:=if a≤(H.length:Int)then(H.getD (H.length-a.toNat) 0).toNat else 0
def lit(io:Io)(lc lp st:Nat)(a:Int)(H:List UInt8)(v:Int)(x:io.S):UInt8×io.S:=
 (UInt8.ofNat (gJ io (2180+768*uq lc lp H) (nS H a) v 8 1 (decide (7≤st)) x).1,(gJ io (2180+768*uq lc lp H) (nS H a) v 8 1 (decide (7≤st)) x).2)
theorem Rl(H:List UInt8)(a:Int):nS H a<256:=by
 unfold nS;split;·exact(H.getD _ 0).toNat_lt
 ·decide
end Md
theorem aaA(io:Io){x:io.S}(hM:MS io w C L lc lp pb st r x X)(si:lc≤4)(ur:lp≤4)(bQ:st<12)(hr:1≤r.1)(A:Option Addr)(H:List UInt8)(c:Nat)(hB:Bytes w A H)(hc:H.length≤c)(hH:H.length≤1000000000)
  (kk:Int) (b:UInt8) (l d q:Int) {R:UInt8} {Z:io.S} (hR:Md.lit io lc lp st r.1 H (b.toNat:Nat) x=(R,Z)) (bL:io.ok x.2 (k+8)):
  Calls prog 234 #[PF C,io.v,.slice A H.length c,tS kk b l d q] w (Dt (io.ok Z.2 k) (jR (tS 0 R 0 0 0) io C L lc lp pb (bW st) r Z X w)):=by
 have⟨ls,Q9⟩:=ex (bW st);rw[Q9];have IY:=ae Q9;clear Q9;have⟨bs,oq⟩:=ex (w.heap.size+1);have iN:=ae oq;clear oq;have hHi:(H.length:Int)≤1000000000:=aa;have pW:(H.length:Int)≤(c:Int):=aa;have⟨W1,fv⟩:=ex ((w.alloc (.cells #[.int .i64 kk,.int .u8 (b.toNat:Nat),.int .i64 l,.int .i64 d,.int .i64 q] 183)).alloc (.cells #[.int .i64 0,.int .u8 0,.int .i64 0,.int .i64 0,.int .i64 0] 183));have fG:Hid (∀i∈C::L::X,i<w.heap.size):=ae (by
  intro i hi;simp only[List.mem_cons]at hi;rcases hi with rfl | rfl | hi;·exact hM.mod.Au
  ·exact hM.mod.xS
  ·exact io.lt hM.io i hi)
 have az:Below w.heap.size w W1:=by rw[←fv];exact(ar).alloc ag _
 have p7:=hM.below az;have oQ:=ae fv;have qq:=ae p7;have ZV:=p7.mod.lit;have FF: ∀w',Below W1.heap.size W1 w'→w'.cell? ⟨C,440,none⟩=some (.slice (some ⟨L,0,none⟩) (2^(lc+lp):Nat) (2^(lc+lp):Nat)):=fun w' h=>(h.cell (p:=⟨C,440,none⟩) p7.mod.Au).trans ZV;have Rm:=ae FF;have ou:=ae (hB.below az);have tR:=WO (lp:=lp) H (show lc≤8 by omega);have⟨K,hK⟩:=ex (uq lc lp H);have aeH:=ae (fun(n:Nat)=>show Calls prog 255 #[PF C,.slice A H.length c] (W1.drewN n) (FD (.int .i64 (K:Nat)) (W1.drewN n))from by
  rw[←hK];exact WP (qq.out.drewN n).mod si ur A H c (ou.out.drewN n) hc hH)
 rw[hK]at tR;unfold Md.lit at hR;rw[hK]at hR;injection hR with iE iU;have HR:=ae (And.intro iE iU);have a7:=ae az;have ali:(K:Int)<((2^(lc+lp):Nat):Int):=aa;have h2s:2^(lc+lp)≤2^8:=Nat.pow_le_pow_right aa aa;have M1:=ae (And.intro tR h2s);obtain⟨N2,hN2⟩: ∃N,2^(lc+lp)=N:=⟨_,rfl⟩
 have nR:=ae hN2;rw[hN2]at Rm ali;clear fv p7 ZV FF hB az hK tR iE iU h2s hM hN2;have bw:Below W1.heap.size W1 (W1.drewN 1):=below_drewN (Below.refl _ _) _;go_enter func234,ntmps234;go_upto_region 1 with fail;rw[oQ.out,iN.out];refine wp_region_held_drew (S:=fun w2=>Below W1.heap.size W1 w2) ai bw (fun hS=> ?_);refine af 0 hS (h:=af 1 hS (h:=af 2 hS (h:=bI 3 Rm.out hS (h:=af 4 hS (h:=af 5 hS (h:= ?_))))));refine aC 6 (fun K hK=> ?_);go_simp;refine(aeH.out _).mono ?_;rintro e x4 ⟨rfl,kb4⟩;have g4:=aM bw kb4;go_wp2_with fail;refine hK.out _ _ g4 (fun _=> ?_);clear hK K;refine af 7 g4 (h:=af 8 g4 (h:=af 9 g4 (h:= ?_)));refine wpAnyH_done ai ?_ _;have Fw:=ae (qq.out.below g4);have WW:=ae (aM a7.out g4);have alj:=ae (ou.out.below g4);have M2:Hid (W1.heap.size≤x4.heap.size):=ae g4.size;have Dx:W1.cell? ⟨w.heap.size,1,none⟩=some (.int .u8 (b.toNat:Nat)):=by
  have h:W1.heap[w.heap.size]? =some (.cells [Value.int .i64 kk,.int .u8 (b.toNat:Nat),.int .i64 l,.int .i64 d,.int .i64 q].toArray 183 (0,0)):=by rw[←oQ.out];exact(Below.heap_alloc _ _ _ ag).trans (heap_alloc_last w _)
  rw[cell_of_row W1 _ _ _ _ _ h];rfl
 have M3:Hid (x4.cell? ⟨w.heap.size,1,none⟩=some (.int .u8 (b.toNat:Nat))):=ae ((g4.cell (p:=⟨w.heap.size,1,none⟩) (by rw[←oQ.out];simp;omega)).trans Dx);have qC:Hid (x4.heap[bs]? =some (.cells [Value.int .i64 0,.int .u8 0,.int .i64 0,.int .i64 0,.int .i64 0].toArray 183 (0,0))):=ae (by rw[←iN.out];exact(g4.block _ (by rw[←oQ.out];simp)).trans (by rw[←oQ.out];have h:=heap_alloc_last (w.alloc (.cells #[.int .i64 kk,.int .u8 (b.toNat:Nat),.int .i64 l,.int .i64 d,.int .i64 q] 183)) (.cells #[.int .i64 0,.int .u8 0,.int .i64 0,.int .i64 0,.int .i64 0] 183);simpa using h));obtain⟨_,_,_,c3,c4,_⟩:=Fw.out.mod.cells;have⟨LK,hLK⟩:=ex (Md.nS H r.1);have alk:LK<256:=by rw[←hLK];exact Md.Rl H r.1
 have HLK:=ae hLK;rw[hLK]at HR;clear hS g4 kb4 bw Dx hLK aeH Rm qq;go_upto_if 35 with fail;go_cut [10] (fun s10 wx=>x4=wx∧s10= .int .i64 (LK:Nat));case first=>
  by_cases vt:r.1≤(H.length:Int)
  ·obtain⟨z,hz⟩: ∃z:Nat,(H.length:Int)-r.1=(z:Int):=⟨((H.length:Int)-r.1).toNat,aa⟩
   have VG:(z:Int)<(H.length:Int):=aa;obtain⟨bb,off,rfl,_,dm⟩:=alj.out.addr aa;have cx:=dm z aa;rw[←dj]at cx;have aaB:Hid (((H.getD z 0).toNat:Int)=(LK:Int)):=ae (by
    rw[←HLK.out];unfold Md.nS;rw[if_pos vt,show H.length-r.1.toNat=z by omega])
   generalize H.getD z 0=u at*;clear dm;go_wp2_with fail;go_meet;exact⟨rfl,congrArg (Value.int .i64) (by rw[←aaB.out];exact fW aa (am u.toNat_lt))⟩
  ·have aaB:Hid ((0:Int)=(LK:Int)):=ae (by
    rw[←HLK.out];unfold Md.nS;rw[if_neg vt];rfl)
   go_wp2_with fail;go_meet;exact⟨rfl,congrArg (Value.int .i64) aaB.out⟩
 case rest=>
  obtain⟨rfl,rfl⟩:=hcut;have oR:=fun y=>lG y;have hub:=fun j=>aaz b j;have alm:Hid (768*K+768≤768*2^(lc+lp)):=ae (by have:=M1.out.1;rw[nR.out]at this ⊢;omega);go_upto_region 8 with fail;have aeI:(decide ((7:Int)≤(st:Int)))=decide (7≤st):=decide_eq_decide.2 aa;rw[aeI];have⟨AL,WX⟩:=ex (decide (7≤st));rw[WX]at HR ⊢;clear aeI WX c3 c4;go_wp2_with fail;go_loopw [12,13,14] (fun as_ ms i wr=> ∃(j m:Nat) (al:Bool) (x':io.S) (X':List Nat),j≤8∧as_= .bool al∧ms= .int .i64 (m:Nat)∧i= .int .i64 ((j:Int)-1)∧2^(8-j)≤m∧m<2^(8-j)*2∧Hid (io.ok x'.2 (k+j))∧Hid (Md.gJ io (2180+768*K) LK (b.toNat:Nat) j m al x'=Md.gJ io (2180+768*K) LK (b.toNat:Nat) 8 1 AL x)∧Hid (MS io wr C L lc lp pb st r x' X'∧aw (C::L::X) x4 wr∧ ∀i∈X',i∈X∨x4.heap.size≤i)) (fun _ _ i _=>(intOf i+1).toNat);case atStart=>exact⟨8,1,AL,x,X,Nat.le_refl _,rfl,rfl,aE,ak,ak,ae bL,ae rfl,ae ⟨Fw.out,aw.refl _ _,fun i hi=> .inl hi⟩⟩
  case round=>
   obtain⟨j,m,al,x',X',hj,rfl,rfl,rfl,i9,fJ,Hv,HT,HM⟩:=hrel;have kO:w.heap.size ∉ C::L::X:=fun h=>am (fG.out _ h);cases j with
   | zero=>
    have ES:Hid (Z=x'∧R=UInt8.ofNat m):=ae (by
     have h:=HR.out;rw[←HT.out]at h;exact⟨h.2.symm,h.1.symm⟩)
    obtain⟨_,_,_,c3,_⟩:=HM.out.1.mod.cells;have f3:=HM.out.1.mod.jt 3;have hLS:=Dv st bQ wr;rw[IY.out]at hLS;have sH:=ae hLS;have MZ:=WW.out.size;have mm:=(HM.out.2.1.block (bs) oz (fun h=>CW)).trans qC.out;have z0:wr.cell? ⟨bs,0,none⟩=some (.int .i64 0):=xy;have z1:wr.cell? ⟨bs,1,none⟩=some (.int .u8 0):=xy;have z2:wr.cell? ⟨bs,2,none⟩=some (.int .i64 0):=xy;have z3:wr.cell? ⟨bs,3,none⟩=some (.int .i64 0):=xy;have z4:wr.cell? ⟨bs,4,none⟩=some (.int .i64 0):=xy;have zf: ∀i,wr.frozen? ⟨bs,i,none⟩=false:=fun i=>frozen_of_row _ _ _ _ _ mm;have EO:=zf 0;have EP:=zf 1;have EQ:=zf 2;have ER:=zf 3;have zf4:=zf 4;have ne1:C≠bs:=fun e=>(by have:=fG.out C ag;have:=iN.out;omega);have Ra:bs≠C:=fun e=>ne1 e.symm;clear hLS MZ mm zf;go_wp2_with fail;refine sH.out.mono ?_;rintro e w2 ⟨rfl,rfl⟩;have hRv:((R.toNat:Nat):Int)=(m:Int)%256:=(by rw[ES.out.2,UInt8.toNat_ofNat'];simp);go_wp2_with fail;refine bodyPost_ret (v:=tS 0 R 0 0 0) (by simp[results,results234,go_sem,hRv,z0,z1,z2,z3,z4]) rfl ⟨⟨rfl,X',?_,?_,?_⟩,?_⟩
    ·have oq:=iN.out;have vu:=(cr qC.out)
     have ke:bs ∉ C::L::X':=fun h=>by
      simp only[List.mem_cons]at h;rcases h with h | h | h;·exact Ra h
      ·have:=fG.out L ag;omega
      ·rcases HM.out.2.2 _ h with h | h;·have:=fG.out bs dD;omega
       ·omega
     rw[ES.out.1];exact(((((HM.out.1.iC (k:=3) (st':=ls) (r':=r) ak rfl).bj ke _).bj ke _).bj ke _).bj ke _).bj ke _
    ·have oq:=iN.out;have h0:aw (C::L::X) w wr:=(aw.aF WW.out).trans HM.out.2.1 (fun i hi=> .inl hi);have hn:bs∈C::L::X∨w.heap.size≤bs:= .inr aa;exact(((((h0.setCell (p:=⟨C,3,none⟩) (.inl ag) _).setCell (p:=⟨bs,0,none⟩) hn _).setCell (p:=⟨bs,1,none⟩) hn _).setCell (p:=⟨bs,2,none⟩) hn _).setCell (p:=⟨bs,3,none⟩) hn _).setCell (p:=⟨bs,4,none⟩) hn _
    ·intro i hi;rcases HM.out.2.2 i hi with h | h;·exact .inl h
     ·exact .inr (Nat.le_trans WW.out.size h)
    ·rw[ES.out.1];exact Hv.out
   | succ j=>
    have atJ:wr.cell? ⟨w.heap.size,1,none⟩=some (.int .u8 (b.toNat:Nat)):=aI HM.out.2.1 kO M3.out;have BV:m<256:=(by have e:2^(8-(j+1))*2=2^(8-j):=CV;have:2^(8-j)≤2^8:=Nat.pow_le_pow_right aa aa;omega);have⟨lb,aaD⟩:=ex (LK/2^j%2);have ZW:lb=0∨lb=1:=aa;have hlb:(LK:Int)/2^j%2=(lb:Int):=(by rw[←aaD];simp);have⟨jj,hjj⟩:=ex ((if al then m+(256+256*lb)else m));have aln:jj<768:=(by rw[←hjj];split<;>omega);obtain⟨⟨B,y⟩,hz⟩: ∃z,io.au (2180+768*K+jj) (Md.aQ (b.toNat:Nat) j) x'=z:=⟨_,rfl⟩
    obtain⟨h1,sB⟩:=m8 io HM.out.1 hz (at_:=2180+768*K) (j:=jj) (len:=768) (cp:=768) (b:=L) (off:=K*768) rfl (k:=k+j) Hv.out (Md.Q5 aa (by have:=alm.out;omega)) aln aa aa;have qD:Hid (Md.gJ io (2180+768*K) LK (b.toNat:Nat) j (2*m+B.toNat) (al&&(B.toNat==lb)) y=Md.gJ io (2180+768*K) LK (b.toNat:Nat) 8 1 AL x):=ae (by
     rw[←HT.out];conv=>rhs;unfold Md.gJ
     rw[aaD,hjj,hz])
    have H1:=ae h1;have oU:=ae sB;have a7:=ae i9;have dW:=ae fJ;have EN:(m:Int)<256:=aa;have hj8:(j:Int)<8:=aa;have h2: ∀B:Bool,B.toNat≤1:=fun B=>(by cases B<;>decide);have e2:2^(8-j)=2^(8-(j+1))*2:=CV;have BJ:=ae e2;clear h1 sB i9 fJ hz aaD BV e2;cases al;case false=>
     simp only[Bool.false_eq_true,if_false]at hjj;subst hjj;rcases ZW with rfl | rfl
     ·skip;go_wp2_with fail;refine H1.out.mono ?_;rintro e w2 ⟨rfl,xU⟩;have Ay:=ae (gy.trans HM.out.2.1 HM.out.2.2 xU);clear xU;cases B;case false=>rw[show de false=0 from rfl];go_wp2_with fail;obtain⟨X3,Aw,dK,Ax⟩:=Ay.out;exact⟨⟨j,2*m+0,false,y,X3,aa,rfl,aE,aE,oA,oB,oU,qD,ae ⟨Aw,dK,Ax⟩⟩,lS⟩
      case true=>rw[show de true=1 from rfl];go_wp2_with fail;obtain⟨X3,Aw,dK,Ax⟩:=Ay.out;exact⟨⟨j,2*m+1,false,y,X3,aa,rfl,aE,aE,oA,oB,oU,qD,ae ⟨Aw,dK,Ax⟩⟩,lS⟩
     ·skip;go_wp2_with fail;refine H1.out.mono ?_;rintro e w2 ⟨rfl,xU⟩;have Ay:=ae (gy.trans HM.out.2.1 HM.out.2.2 xU);clear xU;cases B;case false=>rw[show de false=0 from rfl];go_wp2_with fail;obtain⟨X3,Aw,dK,Ax⟩:=Ay.out;exact⟨⟨j,2*m+0,false,y,X3,aa,rfl,aE,aE,oA,oB,oU,qD,ae ⟨Aw,dK,Ax⟩⟩,lS⟩
      case true=>rw[show de true=1 from rfl];go_wp2_with fail;obtain⟨X3,Aw,dK,Ax⟩:=Ay.out;exact⟨⟨j,2*m+1,false,y,X3,aa,rfl,aE,aE,oA,oB,oU,qD,ae ⟨Aw,dK,Ax⟩⟩,lS⟩
    case true=>
     simp only[if_true]at hjj;rcases ZW with rfl | rfl
     ·have alo:(m:Int)+256=(jj:Int):=(by omega);go_wp2_with fail;refine H1.out.mono ?_;rintro e w2 ⟨rfl,xU⟩;have Ay:=ae (gy.trans HM.out.2.1 HM.out.2.2 xU);clear xU;cases B;case false=>rw[show de false=0 from rfl];go_wp2_with fail;obtain⟨X3,Aw,dK,Ax⟩:=Ay.out;exact⟨⟨j,2*m+0,true,y,X3,aa,rfl,aE,aE,oA,oB,oU,qD,ae ⟨Aw,dK,Ax⟩⟩,lS⟩
      case true=>rw[show de true=1 from rfl];go_wp2_with fail;obtain⟨X3,Aw,dK,Ax⟩:=Ay.out;exact⟨⟨j,2*m+1,false,y,X3,aa,rfl,aE,aE,oA,oB,oU,qD,ae ⟨Aw,dK,Ax⟩⟩,lS⟩
     ·have alo:(m:Int)+512=(jj:Int):=(by omega);go_wp2_with fail;refine H1.out.mono ?_;rintro e w2 ⟨rfl,xU⟩;have Ay:=ae (gy.trans HM.out.2.1 HM.out.2.2 xU);clear xU;cases B;case false=>rw[show de false=0 from rfl];go_wp2_with fail;obtain⟨X3,Aw,dK,Ax⟩:=Ay.out;exact⟨⟨j,2*m+0,false,y,X3,aa,rfl,aE,aE,oA,oB,oU,qD,ae ⟨Aw,dK,Ax⟩⟩,lS⟩
      case true=>rw[show de true=1 from rfl];go_wp2_with fail;obtain⟨X3,Aw,dK,Ax⟩:=Ay.out;exact⟨⟨j,2*m+1,true,y,X3,aa,rfl,aE,aE,oA,oB,oU,qD,ae ⟨Aw,dK,Ax⟩⟩,lS⟩
end Go.Proofs.YtfcaoggfnkhfiaaGreatDoor
