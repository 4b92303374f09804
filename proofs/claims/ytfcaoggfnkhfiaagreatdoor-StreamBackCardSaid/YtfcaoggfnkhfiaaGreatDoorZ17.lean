import Derived.Test.YtfcaoggfnkhfiaaGreatDoorZ16
namespace Go.Proofs.YtfcaoggfnkhfiaaGreatDoor
set_option maxRecDepth 100000
set_option maxHeartbeats 8000000
open Go.RowKit Go.Proofs.Tryz
section
open Go.RowKit Go.Shelf
attribute [local go_sem] Oper.semAt_some
theorem Gm(k:gG)(F:Nat): ∀(l:List (Nat×Nat)) (z:eZ×Bool),aU {k with F:=F} l z=aU k l z
 | [],_=>rfl
 | x::l,z=>by have h:=Gm k F l (aJ k x.1 x.2 z.1 z.2).2;show((aJ k x.1 x.2 z.1 z.2).1++(aU {k with F:=F} l (aJ k x.1 x.2 z.1 z.2).2).1,(aU {k with F:=F} l (aJ k x.1 x.2 z.1 z.2).2).2)=_;rw[h];rfl
def yY(w:World)(l:List UInt8)(e:Ending)(w':World):Prop:= ∃v,e= .returned (.tuple #[v,.int .i64 0])∧Own w.heap.size w' v l∧Below w.heap.size w w'
theorem S7{k:gG}{o:Value}(h:PkO k o):jU (k.lc:Nat) (k.lp:Nat) (k.pb:Nat) k.nice k.chunk k.dict=true:=by have h1:=h.lc;have h2:=h.lp;have h3:=h.pb;have h4:=h.JQ;have h5:=h.nice;have h6:=h.chunk;have h7:=h.dict;unfold jU jT;rw[decide_eq_true aa,decide_eq_true ⟨h5,h6,h7⟩];rfl
theorem Pk.isCells{w:World}{p:Nat}{k:gG}{s:eZ}{had:Bool}{Y:List Nat}(h:Pk w p k s had Y): ∀i∈p::Y,∃cs t x,w.heap[i]? =some (.cells cs t x):=by
 obtain⟨cv,h1,h2⟩:=h.ex;intro i hi;rcases List.mem_cons.1 hi with rfl | hi;·exact⟨_,_,_,h1⟩
 ·cases s with
  | none=>obtain⟨_,rfl⟩:=h2;cases hi
  | some s=>
   obtain⟨C,L,_,rfl,hc⟩:=h2;simp only[List.mem_cons,List.not_mem_nil,or_false]at hi;rcases hi with rfl | rfl;·obtain⟨T,hT,_⟩:=hc.mod.box;exact⟨_,_,_,hT⟩
   ·obtain⟨T,hT,_⟩:=hc.mod.lits;exact⟨_,_,_,hT⟩
theorem Own.isCells{base:Nat}{W:World}{v:Value}{l:List UInt8}(h:Own base W v l){j:Nat}{o:Obj}(hj:v.ownBlock=some j)(ho:W.heap[j]? =some o):o.isCells=true:=by
 rcases h with⟨_,⟨rfl,_⟩ | ⟨g',dX,cur,rfl,_,h4,_⟩⟩
 ·cases hj
 ·have e:g'=j:=by simpa [Value.ownBlock]using hj
  subst e;rw[ho]at h4;injection h4 with h4;subst h4;rfl
theorem uH{X:List Nat}{a b:World}(h:aw X a b)(hX: ∀i∈X,∃cs t x,a.heap[i]? =some (.cells cs t x)):KeepsOthers a b:=by
 refine⟨h.size,fun j o hj ho=> ?_⟩;have aH:j<a.heap.size:=(cr hj)
 refine(h.block j aH (fun hi=> ?_)).trans hj;obtain⟨cs,t,x,hc⟩:=hX j hi;rw[hj]at hc;injection hc with hc;subst hc;cases ho
theorem Pk.off{w:World}{p:Nat}{k:gG}{s:eZ}{had:Bool}{Y:List Nat}(h:Pk w p k s had Y){j:Nat}{cs:Array Value}{t:TypeId}{x:Nat×Nat}(hj:w.heap[j]? =some (.cells cs t x))(h0:t≠103)(h1:t≠171)(h2:t≠317):j ∉ p::Y:=by
 obtain⟨cv,hP,hC⟩:=h.ex;intro hi;rcases List.mem_cons.1 hi with rfl | hi;·unfold fm at hP;rw[hj]at hP;injection hP with hP;injection hP with _ e _;exact h0 e
 ·exact hC.apart hj h1 h2 hi
theorem Own.ne{base:Nat}{W:World}{v:Value}{l:List UInt8}(h:Own base W v l){j:Nat}{cs:Array Value}{t:TypeId}{x:Nat×Nat}(hj:W.heap[j]? =some (.cells cs t x))(ht:t≠5):v.ownBlock≠some j:=by
 intro he;rcases h with⟨_,⟨rfl,_⟩ | ⟨g',dX,cur,rfl,_,h4,_⟩⟩
 ·cases he
 ·have e:g'=j:=by simpa [Value.ownBlock]using he
  subst e;rw[h4]at hj;injection hj with hj;injection hj with _ e2 _;exact ht e2.symm
structure vQ(w2 W4:World)(q bP bO b1 b2:Nat)(k:gG)(pre:List (Nat×Nat))(W:World):Prop where
 ex: ∃s had Y v,Pk W q k s had Y∧(∀i∈Y,w2.heap.size≤i)∧W.heap[bO]? =some (.cells #[v] 22 (0,0))∧Own w2.heap.size W v (aU k pre (none,false)).1∧(aU k pre (none,false)).2=(s,had)
 box:W.heap[bP]? =some (.cells #[PF q] 100 (0,0))
 n1:W.heap[b1]? =W4.heap[b1]?
 n2:W.heap[b2]? =W4.heap[b2]?
 below:Below w2.heap.size w2 W
 lt:b1<W.heap.size∧b2<W.heap.size
theorem vQ.alloc{w2 W4:World}{q bP bO b1 b2:Nat}{k:gG}(pre:List (Nat×Nat))(W:World)(o:Obj)(h:vQ w2 W4 q bP bO b1 b2 k pre W):vQ w2 W4 q bP bO b1 b2 k pre (W.alloc o):=by obtain⟨s,had,Y,v,h1,h2,h3,h4,h5⟩:=h.ex;have hb:Below W.heap.size W (W.alloc o):=ar;have up: ∀{b:Nat} {o':Obj},W.heap[b]? =some o'→(W.alloc o).heap[b]? =some o':=fun h=>(Below.heap_alloc _ _ _ (cr h)).trans h;exact⟨⟨s,had,Y,v,h1.below hb,h2,up h3,h4.alloc _,h5⟩,up h.box,(Below.heap_alloc _ _ _ h.lt.1).trans h.n1,(Below.heap_alloc _ _ _ h.lt.2).trans h.n2,h.below.alloc h.below.size _,by have:=h.lt;simp;omega⟩
theorem vQ.put{w2 W4:World}{q bP bO b1 b2:Nat}{k:gG}(hw:w2.heap.size≤W4.heap.size)(uG:b1<W4.heap.size∧b2<W4.heap.size)(pre:List (Nat×Nat))(W:World)(l:Nat)(o o':Obj)(h:vQ w2 W4 q bP bO b1 b2 k pre W)(hl:W4.heap.size≤l)(Ap:W.heap[l]? =some o)(f_:o.isCells=false):vQ w2 W4 q bP bO b1 b2 k pre (W.putObj l o'):=by
 obtain⟨s,had,Y,v,h1,h2,h3,h4,h5⟩:=h.ex;have ne: ∀{i:Nat},(∃cs t x,W.heap[i]? =some (.cells cs t x))→i≠l:=fun⟨cs,t,x,hc⟩ e=>by subst e;rw[Ap]at hc;injection hc with hc;subst hc;cases f_
 have up: ∀{i:Nat},i≠l→(W.putObj l o').heap[i]? =W.heap[i]? :=fun e=>World.putObj_heap_other e;refine⟨⟨s,had,Y,v,h1.aA (fun i hi=>up (ne (h1.isCells i hi))),h2,(up (ne ⟨_,_,_,h3⟩)).trans h3,h4.qT (fun g hg=>up ?_),h5⟩,(up (ne ⟨_,_,_,h.box⟩)).trans h.box,(up aa).trans h.n1,(up aa).trans h.n2,?_,by simpa [World.putObj]using h.lt⟩;·intro e;subst e;have:=h4.isCells hg Ap;rw[f_]at this;cases this
 ·exact h.below.grown (grownBy_putObj' W l o') h.below.size (fun k e=>tZ)
theorem N0(k:gG)(o:Value)(w:World)(ho:PkO k o)(hB:Bytes w k.A k.D)(hA: ∀a,k.A=some a→a.block<w.heap.size)(hc:k.D.length≤k.cD)(hl:k.D.length≤100000):
  Calls prog 35 #[.slice k.A k.D.length k.cD,o] w (yY w (gu k)):=by
 have Ya:=S7 ho;rw[ho.val];obtain⟨A,D,cD,lc,lp,pb,nice,chunk,block,check,chain,dict,F⟩:=k;simp only at Ya hB hA hc hl ⊢;have⟨k,hk⟩:=ex ((⟨A,D,cD,lc,lp,pb,nice,chunk,block,check,chain,dict,F⟩:gG):gG);have HO:Hid (lc≤4∧lp≤4∧pb≤4∧lc+lp≤4∧(2≤nice∧nice≤273)∧(1≤chunk∧chunk≤65536)∧4096≤dict∧dict≤67108864):=ae ⟨ho.lc,ho.lp,ho.pb,ho.JQ,ho.nice,ho.chunk,ho.dict⟩;rw[hk];have⟨W,hW⟩:=ex (((w.alloc (.cells #[.int .i64 (lc:Nat),.int .i64 (lp:Nat),.int .i64 (pb:Nat),.int .i64 nice,.int .i64 chunk,.int .i64 block,.int .i64 check,chain,.int .u32 (dict:Nat)] 26)).alloc (.cells #[.slice none 0 0] 22)).alloc (.cells #[.int .i64 0] 36));obtain⟨r0,r1,r2,hb,hs⟩:=Cv (vs:=iG lc lp pb nice chunk block check chain dict) hW;have HF:=ae (FU lc lp pb nice chunk block check chain dict W);rw[Ya]at HF;have Ib:Hid (∀W',Below W.heap.size W W'→W'.cell? ⟨w.heap.size,0,none⟩=some (.int .i64 (lc:Nat))∧W'.cell? ⟨w.heap.size,1,none⟩=some (.int .i64 (lp:Nat))∧W'.cell? ⟨w.heap.size,2,none⟩=some (.int .i64 (pb:Nat))∧W'.cell? ⟨w.heap.size,3,none⟩=some (.int .i64 nice)∧W'.cell? ⟨w.heap.size,4,none⟩=some (.int .i64 chunk)∧W'.cell? ⟨w.heap.size,5,none⟩=some (.int .i64 block)∧W'.cell? ⟨w.heap.size,6,none⟩=some (.int .i64 check)∧W'.cell? ⟨w.heap.size,7,none⟩=some chain∧W'.cell? ⟨w.heap.size,8,none⟩=some (.int .u32 (dict:Nat))):=ae (fun W' yv=>by
  have r:=(yv.block _ (cr r0)).trans r0;refine⟨?_,?_,?_,?_,?_,?_,?_,?_,?_⟩<;>(rw[cell_of_row W' _ _ _ _ _ r];rfl))
 obtain⟨c0,c1,c2,c3,c4,c5,c6,c7,c8⟩:=Ib.out W (Below.refl _ _);have HR:Hid (W.heap[w.heap.size+1]? =some (.cells #[.slice none 0 0] 22 (0,0))∧W.heap[w.heap.size+1+1]? =some (.cells #[.int .i64 0] 36 (0,0))):=ae ⟨r1,r2⟩;have yT:=ae (fun(W':World) (yv:Below w.heap.size w W')=>XK A D cD (dict:Nat) nice W' (hB.below yv) hc hl (am HO.out) (am HO.out) (am HO.out));have HW:=ae hW;have HB:=ae hb;have HK:=ae hk;have ou:=ae (And.intro hB (And.intro hA (And.intro hc hl)));have hdi:(dict:Int)≤67108864:=am HO.out;have qw:(D.length:Int)≤100000:=aa;clear hW hb hs r0 r1 r2 Ya ho hk hB hA hc hl;refine(callsIn_wide (n:=6)).1 ?_;refine callsIn_of_wp_marks func35 rfl trivial ?_ rfl;simp only[ntmps35,List.size_toArray,List.length_cons,List.length_nil,Nat.reduceAdd,Nat.reduceSub,Array.replicate_succ,Array.replicate_zero,List.push_toArray,List.append_toArray,List.nil_append,List.cons_append]
 gi_wp2_with fail
 rw[HW.out];refine⟨trivial,(callsIn_wide.2 HF.out).mono ?_⟩;rintro e w1 ⟨rfl,az⟩;obtain⟨c0,c1,c2,c3,c4,c5,c6,c7,c8⟩:=Ib.out w1 az;have a7:=ae (aM HB.out az);have ags:=ae az;clear az
 gi_wp2_with fail
 refine⟨trivial,(callsIn_wide.2 (yT.out w1 a7.out)).mono ?_⟩;rintro e w2 ⟨F2,AF,cF,mp,B,rfl,hRd,aD⟩;clear c0 c1 c2 c3 c4 c5 c6 c7 c8;obtain⟨c0,c1,c2,c3,c4,c5,c6,c7,c8⟩:=Ib.out w2 (aM ags.out aD);have dW:=ae (aM a7.out aD);have abq:=ae (aM ags.out aD);have EU:=ae hRd;clear aD hRd;have Yb:=ae (fun W=>NZ D.length chunk.toNat W);rw[show((chunk.toNat:Nat):Int)=chunk by have:=HO.out;omega]at Yb;have⟨W3,mT⟩:=ex (((w2.alloc (.cells #[.slice A D.length cD,.int .i64 (lc:Nat),.int .i64 (lp:Nat),.int .i64 (pb:Nat),.int .i64 nice,.int .i64 chunk,.int .i64 block,.int .i64 check,chain,.int .u32 (dict:Nat),PF F2,.pointer none,.bool false] 103)).alloc (.cells #[.pointer (some ⟨w2.heap.size,0,none⟩)] 100)).alloc (.cells #[.slice none 0 0] 22));have⟨k2,l6⟩:=ex ((⟨A,D,cD,lc,lp,pb,nice,chunk,block,check,chain,dict,F2⟩:gG):gG);obtain⟨q0,q1,q2,bA,FO⟩:=Cv (vs:=U' ⟨A,D,cD,lc,lp,pb,nice,chunk,block,check,chain,dict,F2⟩ (.pointer none) false) mT;rw[l6]at q0;obtain⟨_,_,_,_,d4,_,_,_,_⟩:=Ib.out W3 (aM abq.out bA);rw[←mT]at d4;have Nz:=ae mT;have gF:=ae bA;have HQ:Hid (fm W3 w2.heap.size k2 (.pointer none) false∧W3.heap[w2.heap.size+1]? =some (.cells #[PF w2.heap.size] 100 (0,0))∧W3.heap[w2.heap.size+1+1]? =some (.cells #[.slice none 0 0] 22 (0,0))∧W3.heap.size=w2.heap.size+1+1+1):=ae ⟨q0,q1,q2,FO⟩;have g_:=ae l6;clear mT bA q0 q1 q2 FO l6
 gi_wp2_with fail
 rw[Nz.out];refine⟨trivial,(callsIn_wide.2 (Yb.out W3)).mono ?_⟩;rintro e W4 ⟨rfl,mG⟩;clear d4 c0 c1 c2 c3 c4 c5 c6 c7 c8;have⟨q,hq⟩:=ex (w2.heap.size);obtain⟨bP,hbP⟩: ∃b,q+1=b:=⟨_,rfl⟩
 obtain⟨bO,hbO⟩: ∃b,bP+1=b:=⟨_,rfl⟩
 obtain⟨b1,az⟩: ∃b,W3.heap.size=b:=⟨_,rfl⟩
 obtain⟨b2,aD⟩: ∃b,b1+1=b:=⟨_,rfl⟩
 rw[az,aD,hq,hbP,hbO]
 gi_wp2_with fail
 have jA:W4.heap[b1]? =some (.cells #[.int .i64 (D.length:Nat)] 3 (0,0)):=by rw[←mG,←az];exact(Below.heap_alloc _ _ _ ag).trans (heap_alloc_last W3 _)
 have fL:W4.heap[b2]? =some (.cells #[.int .i64 (chunk.toNat:Nat)] 3 (0,0)):=by rw[←mG,←aD,←az];have h:=heap_alloc_last (W3.alloc (.cells #[.int .i64 (D.length:Nat)] 3)) (.cells #[.int .i64 (chunk.toNat:Nat)] 3);rw[World.size_alloc]at h;exact h
 have tc:Below W3.heap.size W3 W4:=by rw[←mG];exact(ar).alloc ag _
 have HX:=ae (And.intro jA fL);have avH:=ae tc;have ZZ:Hid (w2.heap.size=q∧q+1=bP∧bP+1=bO∧W3.heap.size=b1∧b1+1=b2):=ae ⟨hq,hbP,hbO,az,aD⟩;have sM:Hid (b1<W4.heap.size∧b2<W4.heap.size∧q<b1∧bP<b1∧bO<b1∧w2.heap.size≤W4.heap.size):=ae (by
  have e1:=(cr jA)
  have e2:=(cr fL)
  have e3:=HQ.out.2.2.2;have e4:=gF.out.size;have e5:=tc.size;omega)
 have H0:Hid (vQ w2 W4 q bP bO b1 b2 k2 [] W4):=ae (by
  obtain⟨g0,g1,g2,_⟩:=HQ.out;rw[hq]at g0 g1 g2;rw[hbP]at g1 g2;rw[hbO]at g2;have up: ∀{i:Nat} {o':Obj},W3.heap[i]? =some o'→W4.heap[i]? =some o':=fun h=>(tc.block _ (cr h)).trans h;exact⟨⟨none,false,[],_,⟨_,up g0,rfl,rfl⟩,(fun i hi=>by cases hi),up g2,Own.nil _ _,rfl⟩,up g1,rfl,rfl,aM gF.out tc,⟨sM.out.1,sM.out.2.1⟩⟩)
 have HPC:Hid (∀(x:Nat×Nat),x.1<x.2→x.2≤D.length→ ∃bD oD,PkC w2 k2 AF cF mp B bD oD∧k2.D=D):=ae (fun x h1 h2=>by
  have hBw:Bytes w2 A D:=ou.out.1.below dW.out;obtain⟨bD,oD,hA,hbD,_⟩:=hBw.addr aa;refine⟨bD,oD,?_,by rw[←g_.out]⟩;rw[←g_.out];have ho:=HO.out;exact⟨EU.out,hA,hBw,hbD,ou.out.2.2.1,ou.out.2.2.2,by show 1≤dict;omega,ho.2.2.2.2.1.2,ho.1,ho.2.1,ho.2.2.1,ho.2.2.2.1⟩)
 have HPM:Hid (∀pre x t,bc D.length chunk.toNat 0=pre++x::t→(x.1<x.2∧x.2≤D.length)∧(aU k2 pre (none,false)).1.length+(x.2-x.1+3)≤140737488355328):=ae (fun pre x t h=>by
  have cC:1≤chunk.toNat:=am HO.out;have hm:=yW (n:=D.length) cC (D.length-0) 0 (Nat.le_refl _);rw[h]at hm;have hx:=hm x ag;have hlen:=np (n:=D.length) cC (D.length-0) 0 (Nat.le_refl _);rw[h,List.length_append]at hlen;have hp:=yX (k:=k2) pre (none,false) (fun y hy=>by rw[←g_.out];exact hm y (by simp[hy]));rw[show k2.D.length=D.length by rw[←g_.out]]at hp;have hl:=ou.out.2.2.2;have hle:pre.length*(D.length+3)≤100000*100003:=Nat.mul_le_mul aa aa;exact⟨hx,aa⟩)
 have Cl:Hid (∀W',Below w2.heap.size w2 W'→W'.heap[w.heap.size+1]? =some (.cells #[.slice none 0 0] 22 (0,0))∧W'.heap[w.heap.size+1+1]? =some (.cells #[.int .i64 0] 36 (0,0))):=ae (fun W' yv=>by
  have jS:=aM abq.out yv;exact⟨(jS.block _ (cr HR.out.1)).trans HR.out.1,(jS.block _ (cr HR.out.2)).trans HR.out.2⟩)
 have abi:Hid (w.heap.size+1+1<w2.heap.size):=ae (Nat.lt_of_lt_of_le (cr HR.out.2) abq.out.size);clear jA fL tc mG hq hbP hbO az aD
 refine Ea rfl ak (gf:=105) (lb:= #[PF b1,PF b2]) rfl trivial (enters_of func105 ai rfl)
  (NW Fence.wide 5 trivial rfl ak D.length chunk.toNat b1 b2 (am HO.out) (am HO.out) (am ou.out.2.2.2) W4 ⟨_,HX.out.1⟩ ⟨_,HX.out.2⟩) rfl
  (vQ w2 W4 q bP bO b1 b2 k2) (fun s W o h=>h.alloc s W o) (fun s W l o o' h=>h.put sM.out.2.2.2.2.2 ⟨sM.out.1,sM.out.2.1⟩ s W l o o') (fun s W h=>⟨h.n1,h.n2⟩) H0.out
  (fun x=>{tmps:= #[.slice A D.length cD,Bh (lc:Nat) (lp:Nat) (pb:Nat) nice chunk block check chain dict,undef,.pointer (some ⟨w.heap.size,0,none⟩),.pointer (some ⟨w.heap.size+1,0,none⟩),.pointer (some ⟨w.heap.size+1+1,0,none⟩),PF F2,.int .i64 0,.pointer (some ⟨bP,0,none⟩),.pointer (some ⟨bO,0,none⟩),.int .i64 (x.1:Nat),.int .i64 (x.2:Nat),undef,undef,Bh (lc:Nat) (lp:Nat) (pb:Nat) nice chunk block check chain dict,.bool true,.bool false,.tuple #[PF F2,.int .i64 0],.slice A D.length cD,.pointer (some ⟨w.heap.size,8,none⟩),.int .u32 (dict:Nat),.int .i64 (dict:Nat),.pointer (some ⟨w.heap.size,3,none⟩),.int .i64 nice,.tuple #[PF F2,.int .i64 0],PF F2,.int .i64 0,.int .i64 0,.bool false,undef,.slice A D.length cD,Bh (lc:Nat) (lp:Nat) (pb:Nat) nice chunk block check chain dict,PF F2,.agg #[.slice A D.length cD,.int .i64 (lc:Nat),.int .i64 (lp:Nat),.int .i64 (pb:Nat),.int .i64 nice,.int .i64 chunk,.int .i64 block,.int .i64 check,chain,.int .u32 (dict:Nat),PF F2,.pointer none,.bool false],.pointer (some ⟨q,0,none⟩),.slice A D.length cD,.int .i64 (D.length:Nat),.pointer (some ⟨w.heap.size,4,none⟩),.int .i64 chunk,.func (.func 105) #[] #[PF b1,PF b2],.int .i64 (x.1:Nat),.int .i64 (x.2:Nat),undef,undef,undef,undef,undef,undef,undef,undef,undef,undef,undef,undef,undef,undef,undef,undef],defers:=[]}) ?assign ?body ?done
 case assign=>
  intro l x W K hK
  gi_wp2
  exact hK
 case body=>
  rintro l pre x t W jN hI;obtain⟨s,had,Y,v,SY,hYg,kO,aK,bQ⟩:=hI.ex;obtain⟨⟨uG,h2n⟩,hlen⟩:=HPM.out pre x t jN;obtain⟨bD,oD,hC,hkD⟩:=HPC.out x uG h2n;have hq:w2.heap.size=q:=ZZ.out.1;have EV:=ae (NV hC hI.below SY (Nat.le_of_eq hq) hYg x.1 x.2 uG (by rw[hkD];exact h2n));have cP:W.cell? ⟨bP,0,none⟩=some (PF q):=by rw[cell_of_row W _ _ _ _ _ hI.box];rfl
  have si:=pq (k:=k2) (a:=x.1) (b:=x.2) (s:=s) (had:=had) uG (by rw[hkD];exact h2n);have⟨L,hL⟩:=ex ((aU k2 pre (none,false)).1);rw[hL]at aK hlen;have S8:aU k2 (pre++[x]) (none,false)=(L++(aJ k2 x.1 x.2 s had).1,(aJ k2 x.1 x.2 s had).2):=by rw[vO,hL,bQ]
  obtain⟨⟨R,s3,abr⟩,hR⟩: ∃r,aJ k2 x.1 x.2 s had=r:=⟨_,rfl⟩
  rw[hR]at S8 EV si;have⟨LR,hLR⟩:=ex (L++R);have agu:aU k2 (pre++[x]) (none,false)=(LR,s3,abr):=by rw[S8,←hLR]
  have HLR:=ae hLR;have HSN:=ae agu;have Ck:Hid (L.length+R.length≤140737488355328):=ae (by have:R.length≤x.2-x.1+3:=si;omega);have N1:=ae SY;have HYG:=ae hYg;have Qk:=ae kO;have HOW:=ae aK;have HI:=ae hI;clear SY hYg kO aK bQ hlen hC si hL S8 agu hLR hR hq hI uG h2n hkD
  gi_wp2_with fail
  refine⟨trivial,(CallsIn.inRound _ (callsIn_wide.2 EV.out)).mono ?_⟩;rintro e w3 ⟨v3,Y3,rfl,fE,hP3,dK,hY3⟩;simp only at fE hP3;obtain⟨A3,c3,rfl,_,_,ln⟩:=fE.read;have nO:=N1.out.off Qk.out ak ak ak;have nP:=N1.out.off HI.out.box ak ak ak;have abt:=(dK.block bO (cr Qk.out) nO).trans Qk.out;have agw:=(dK.block bP (cr HI.out.box) nP).trans HI.out.box;have n1:=N1.out.off (HI.out.n1.trans HX.out.1) ak ak ak;have n2:=N1.out.off (HI.out.n2.trans HX.out.2) ak ak ak;have h31:=(dK.block b1 HI.out.lt.1 n1).trans HI.out.n1;have IU:=(dK.block b2 HI.out.lt.2 n2).trans HI.out.n2;have sy:Own w2.heap.size w3 v L:=HOW.out.qT (fun g hg=>dK.block g (HOW.out.ax g hg).2 (N1.out.own HOW.out g hg));have bA:Below w2.heap.size w2 w3:=HI.out.below.trans (dK.below HI.out.below.size (fun i hi=>by
   rcases List.mem_cons.1 hi with rfl | hi;·exact Nat.le_of_eq ZZ.out.1
   ·exact HYG.out i hi))
  have cO3:w3.cell? ⟨bO,0,none⟩=some v:=by rw[cell_of_row w3 _ _ _ _ _ abt];rfl
  have RY:=ae sy;have abu:=ae bA;have SE:=ae ln;have LY:=ae hP3;have am9:=ae dK;have HY3:=ae hY3;have td:=ae (And.intro abt (And.intro agw (And.intro h31 IU)));clear fE hP3 dK hY3 ln nO nP abt agw n1 n2 h31 IU sy bA cP
  gi_wp2_with (gi_at_builtin;refine iY ?_ (.tmp 52) (.tmp 53) ?_ w2.heap.size w3 v L ?_ RY.out A3 R c3 ?_ SE.out Ck.out abu.out.size ?_;rfl;rfl;rfl;rfl;intro v4 w4 cY et;rw[HLR.out]at cY;obtain⟨A4,c4,rfl,_,_,_⟩:=cY.read;have Ba:=ae cY;have WW:=ae et;have Yc:=(et.block bO (cr td.out.1) (fun e=>RY.out.ne td.out.1 ak e.symm)).trans td.out.1;have cO4:w4.cell? ⟨bO,0,none⟩=some v:=(by rw[cell_of_row w4 _ _ _ _ _ Yc];rfl);have fO4:=frozen_of_row w4 bO 0 _ _ Yc;have abv:=ae Yc;clear cY et Yc)
  have et:=WW.out;have dH:=fun{j:Nat} {cs:Array Value} {t:TypeId} {y:Nat×Nat} (hj:w3.heap[j]? =some (.cells cs t y)) (ht:t≠5)=>(et.block j (cr hj) (fun e=>RY.out.ne hj ht e.symm))
  have ana:=(dH td.out.2.1 ak).trans td.out.2.1;have h41:=(dH (td.out.2.2.1.trans HX.out.1) ak).trans td.out.2.2.1;have h42:=(dH (td.out.2.2.2.trans HX.out.2) ak).trans td.out.2.2.2;have hP4:Pk w4 q k2 s3 abr Y3:=LY.out.aA (fun i hi=>et.block i (by
   rcases List.mem_cons.1 hi with rfl | hi;·exact LY.out.lt
   ·exact LY.out.ltY i hi) (fun e=>LY.out.own RY.out i e.symm hi))
  have bm:Below w2.heap.size w2 w4:=ao abu.out et abu.out.size (fun g e=>(RY.out.ax g e).1);have h_: ∀i,i≠bO→(w4.setCell ⟨bO,0,none⟩ (.slice A4 LR.length c4)).heap[i]? =w4.heap[i]? :=fun i hi=>ah _ _ _ _ hi;have hbe:=ZZ.out;have dl:=sM.out;have nO4:=hP4.off abv.out ak ak ak;refine⟨((uH am9.out N1.out.isCells).trans (KeepsOthers.of_grownBy et (fun j o hj ho=>RY.out.isCells hj ho))).trans (KeepsOthers.setCell _ _ _),⟨⟨s3,abr,Y3,.slice A4 LR.length c4,hP4.aA (fun i hi=>h_ i (fun e=>by subst e;exact nO4 hi)),fun i hi=> ?_,?_,?_,?_⟩,(h_ bP aa).trans ana,(h_ b1 aa).trans h41,(h_ b2 aa).trans h42,bm.setCell (by show w2.heap.size≤bO;omega) _,?_⟩⟩
  ·rcases HY3.out i hi with h | h;·exact HYG.out i h
   ·exact Nat.le_trans HI.out.below.size h
  ·exact heap_set abv.out 0 _
  ·rw[HSN.out];exact Ba.out.qT (fun g hg=>h_ g (fun e=>by subst e;exact Ba.out.ne abv.out ak hg))
  ·rw[HSN.out]
  ·have e1:=(Array.getElem?_eq_some_iff.1 (h41.trans HX.out.1)).1;have e2:=(Array.getElem?_eq_some_iff.1 (h42.trans HX.out.2)).1;simpa [World.setCell]using And.intro e1 e2
 case done=>
  rintro DD W hD hI hK;obtain⟨s,had,Y,v,SY,hYg,kO,aK,bQ⟩:=hI.ex;have⟨L,hL⟩:=ex ((aU k2 (bc D.length chunk.toNat 0) (none,false)).1);rw[hL]at aK;have⟨LR,hLR⟩:=ex (L++[0]);have HPB:Hid (gu k=LR):=ae (by
   rw[←HK.out,←hLR,←hL,←g_.out];exact congrArg (fun z:List UInt8×eZ×Bool=>z.1++[0]) (Gm ⟨A,D,cD,lc,lp,pb,nice,chunk,block,check,chain,dict,F⟩ F2 _ _).symm)
  have Ck:Hid (L.length+1≤140737488355328):=ae (by
   have cC:1≤chunk.toNat:=am HO.out;have h1:=nt (k:=k2) (n:=D.length) cC (by rw[←g_.out]) (D.length-0) 0 (none,false) (Nat.le_refl _);have h2:=np (n:=D.length) cC (D.length-0) 0 (Nat.le_refl _);have h3:=ou.out.2.2.2;rw[hL]at h1;omega)
  have HLR:=ae hLR;have cO:W.cell? ⟨bO,0,none⟩=some v:=by rw[cell_of_row W _ _ _ _ _ kO];rfl
  have⟨W5,Qo⟩:=ex (W.alloc (.cells #[.int .u8 0] 5));have eu:Below W.heap.size W W5:=by rw[←Qo];exact ar
  have HX5:Hid (Bytes W5 (some ⟨W.heap.size,0,none⟩) [0]):=ae (by rw[←Qo];exact Bytes.one W 0);have Qb:Hid (Own w2.heap.size W5 v L):=ae (by rw[←Qo];exact aK.alloc _);have wC:Hid (Below w2.heap.size w2 W5):=ae (aM hI.below eu);have HK5:Hid (W5.heap[DD]? =some (.deferred (some []))):=ae ((eu.block _ (cr hK)).trans hK);have HW5:=ae Qo;have LI:=ae hD;have n12:w.heap.size+1≠w.heap.size+1+1:=aa;clear SY hYg kO aK bQ hL hLR Qo eu hI hK hD
  gi_wp2_with (gi_at_builtin;rw[HW5.out];refine iY ?_ (.tmp 55) (.tmp 56) ?_ w2.heap.size W5 v L ?_ Qb.out (some ⟨W.heap.size,0,none⟩) [0] 1 ?_ HX5.out Ck.out wC.out.size ?_;rfl;rfl;rfl;rfl;intro v6 w6 sF AA;rw[HLR.out]at sF;obtain⟨A6,c6,rfl,_,_,_⟩:=sF.read;have I3:=ae sF;have AC:=ae (ao wC.out AA wC.out.size (fun g e=>(Qb.out.ax g e).1));have HK6:Hid (w6.heap[DD]? =some (.deferred (some []))):=ae ((AA.block DD (cr HK5.out) (fun e=>by have:=Qb.out.isCells e.symm HK5.out;cases this)).trans HK5.out);obtain⟨s1,s2⟩:=Cl.out w6 AC.out;have k1:w6.cell? ⟨w.heap.size+1,0,none⟩=some (.slice none 0 0):=(by rw[cell_of_row w6 _ _ _ _ _ s1];rfl);have k2:w6.cell? ⟨w.heap.size+1+1,0,none⟩=some (.int .i64 0):=(by rw[cell_of_row w6 _ _ _ _ _ s2];rfl);have f1:=frozen_of_row w6 _ 0 _ _ s1;have f2:=frozen_of_row w6 _ 0 _ _ s2;have abw:=ae (And.intro s1 s2);clear sF AA s1 s2)
  have dl:=abi.out;have l4:w.heap.size+1+1<w6.heap.size:=(cr abw.out.2)
  have⟨W8,Ec⟩:=ex ((w6.setCell ⟨w.heap.size+1,0,none⟩ (.slice A6 LR.length c6)).setCell ⟨w.heap.size+1+1,0,none⟩ (.int .i64 0));have hK8:W8.heap[DD]? =some (.deferred (some [])):=by rw[←Ec];have h4:=LI.out;have h5:=sM.out;exact(ah _ _ _ _ (by show DD≠w.heap.size+1+1;omega)).trans ((ah _ _ _ _ (by show DD≠w.heap.size+1;omega)).trans HK6.out)
  have g1:W8.heap[w.heap.size+1]? =some (.cells #[.slice A6 LR.length c6] 22 (0,0)):=by rw[←Ec];exact(ah _ _ _ _ (by show w.heap.size+1≠w.heap.size+1+1;omega)).trans (heap_set abw.out.1 0 _)
  have g2:W8.heap[w.heap.size+1+1]? =some (.cells #[.int .i64 0] 36 (0,0)):=by rw[←Ec];exact heap_set ((ah _ _ _ _ (by show w.heap.size+1+1≠w.heap.size+1;omega)).trans abw.out.2) 0 _
  have rI:Below w.heap.size w W8:=by rw[←Ec];exact((aM dW.out AC.out).setCell ua _).setCell IA _
  have Bq:Own w.heap.size W8 (.slice A6 LR.length c6) LR:=by refine(I3.out.qT (fun g hg=> ?_)).weaken dW.out.size;have Lk:=(I3.out.ax g hg).1;rw[←Ec];exact(ah _ _ _ _ (by show g≠w.heap.size+1+1;omega)).trans (ah _ _ _ _ (by show g≠w.heap.size+1;omega))
  rw[Ec];have ne4:w.heap.size+1≠DD∧w.heap.size+1+1≠DD:=by have h4:=LI.out;have h5:=sM.out;omega
  have kk1:(W8.putObj DD (.deferred none)).cell? ⟨w.heap.size+1,0,none⟩=some (.slice A6 LR.length c6):=by rw[cell_of_row _ _ _ _ _ _ ((World.putObj_heap_other ne4.1).trans g1)];rfl
  have kk2:(W8.putObj DD (.deferred none)).cell? ⟨w.heap.size+1+1,0,none⟩=some (.int .i64 0):=by rw[cell_of_row _ _ _ _ _ _ ((World.putObj_heap_other ne4.2).trans g2)];rfl
  have V1:Own w.heap.size (W8.putObj DD (.deferred none)) (.slice A6 LR.length c6) LR:=Bq.qT (fun g hg=>World.putObj_heap_other (fun e=>by
   subst e;have:=Bq.isCells hg hK8;cases this))
  have L6:Below w.heap.size w (W8.putObj DD (.deferred none)):=rI.grown (grownBy_putObj' W8 DD (.deferred none)) rI.size (fun k e=>by cases e;have h4:=LI.out;have h5:=sM.out;have h6:=abi.out;omega);rw[HPB.out];refine⟨ag,.inl ⟨_,_,rfl,run_takeDeferred (b:=DD) (ds:=[]) hK8,?_⟩⟩;exact⟨_,(by simp[results,results35,go_sem,kk1,kk2]),_,rfl,V1,L6⟩
end

theorem OW(lc lp pb nice chunk block check:Int)(chain:Value)(dict:Nat)(w:World):
  Calls prog 50 #[Bh lc lp pb nice chunk block check chain dict] w (kU (jU lc lp pb nice chunk dict) w):=by
 have⟨R,hR⟩:=ex (jU lc lp pb nice chunk dict);rw[hR];have⟨W,hW⟩:=ex (w.alloc (.cells #[.int .i64 lc,.int .i64 lp,.int .i64 pb,.int .i64 nice,.int .i64 chunk,.int .i64 block,.int .i64 check,chain,.int .u32 (dict:Nat)] 26));obtain⟨aP,fw⟩:=gz (vs:=iG lc lp pb nice chunk block check chain dict) hW;have c0:W.cell? ⟨w.heap.size,0,none⟩=some (.int .i64 lc):=mX;have c1:W.cell? ⟨w.heap.size,1,none⟩=some (.int .i64 lp):=mX;have c2:W.cell? ⟨w.heap.size,2,none⟩=some (.int .i64 pb):=mX;have c3:W.cell? ⟨w.heap.size,3,none⟩=some (.int .i64 nice):=mX;have c4:W.cell? ⟨w.heap.size,4,none⟩=some (.int .i64 chunk):=mX;have c8:W.cell? ⟨w.heap.size,8,none⟩=some (.int .u32 (dict:Nat)):=mX;have HW:=ae hW;have dE:=ae fw;have HM:=ae (YQ lc lp pb W);clear aP hW fw;cases hp:jT lc lp pb with
 | false=>
  rw[hp]at HM;have RW:Hid (R=false):=ae (by rw[←hR];unfold jU;rw[hp];rfl);clear hp hR;go_enter func50,ntmps50;go_upto_region 1 with fail;rw[HW.out];go_wp2_with fail;refine HM.out.mono ?_;rintro e w1 ⟨rfl,rfl⟩;go_wp2_with fail;go_ret;exact⟨by rw[RW.out];rfl,dE.out⟩
 | true=>
  rw[hp]at HM;have hRv:R=decide ((2≤nice∧nice≤273)∧(1≤chunk∧chunk≤65536)∧4096≤dict∧dict≤67108864):=by rw[←hR];unfold jU;rw[hp];rfl
  clear hp hR;rcases(by omega: ¬2≤nice∨(2≤nice∧ ¬nice≤273)∨((2≤nice∧nice≤273)∧ ¬1≤chunk)∨((2≤nice∧nice≤273)∧1≤chunk∧ ¬chunk≤65536)∨((2≤nice∧nice≤273)∧(1≤chunk∧chunk≤65536)∧ ¬(4096:Int)≤(dict:Int))∨((2≤nice∧nice≤273)∧(1≤chunk∧chunk≤65536)∧(4096:Int)≤(dict:Int)∧ ¬(dict:Int)≤67108864)∨((2≤nice∧nice≤273)∧(1≤chunk∧chunk≤65536)∧(4096:Int)≤(dict:Int)∧(dict:Int)≤67108864))with g1 | ⟨g1,g2⟩ | ⟨⟨g1,g2⟩,g3⟩ | ⟨⟨g1,g2⟩,g3,g4⟩ | ⟨⟨g1,g2⟩,⟨g3,g4⟩,g5⟩ | ⟨⟨g1,g2⟩,⟨g3,g4⟩,g5,g6⟩ | ⟨⟨g1,g2⟩,⟨g3,g4⟩,g5,g6⟩
  all_goals
   have RW:=ae (show R=false∨R=true from by cases R<;>simp);have HRd:Hid (R=decide ((2≤nice∧nice≤273)∧(1≤chunk∧chunk≤65536)∧4096≤dict∧dict≤67108864)):=ae hRv;clear hRv RW;go_enter func50,ntmps50;go_upto_region 1 with fail;rw[HW.out];go_wp2_with fail;refine HM.out.mono ?_;rintro e w1 ⟨rfl,rfl⟩;go_wp2_with fail;go_ret
   first
    | exact⟨by rw[show R=false from by rw[HRd.out];exact decide_eq_false aa];rfl,dE.out⟩
    | exact⟨by rw[show R=decide ((dict:Int)≤67108864)from by rw[HRd.out];exact decide_eq_decide.2 aa];rfl,dE.out⟩
    | exact⟨by rw[show R=true from by rw[HRd.out];exact decide_eq_true aa];rfl,dE.out⟩
end Go.Proofs.YtfcaoggfnkhfiaaGreatDoor
