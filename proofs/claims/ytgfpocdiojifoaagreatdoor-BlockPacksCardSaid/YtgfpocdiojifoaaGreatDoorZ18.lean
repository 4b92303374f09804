import Derived.Test.YtgfpocdiojifoaaGreatDoorZ17
namespace Go.Proofs.YtgfpocdiojifoaaGreatDoor
set_option maxRecDepth 100000
set_option maxHeartbeats 8000000
open Go.RowKit Go.Proofs.Tryz
variable{dict:Int}{D:List UInt8}{base g p:Nat}{r:R4}{t:TypeId}{v:Value}{w:World}
section
open Go.RowKit Go.Shelf
attribute [local go_sem] Oper.semAt_some
theorem EQ(k:fG)(F:Nat): ∀(l:List (Nat×Nat)) (z:eK×Bool),bG {k with F:=F} l z=bG k l z
 | [],_=>rfl
 | x::l,z=>by have h:=EQ k F l (aK k x.1 x.2 z.1 z.2).2;show((aK k x.1 x.2 z.1 z.2).1++(bG {k with F:=F} l (aK k x.1 x.2 z.1 z.2).2).1,(bG {k with F:=F} l (aK k x.1 x.2 z.1 z.2).2).2)=_;rw[h];rfl
def xI(w:World)(l:List UInt8)(e:Ending)(w':World):Prop:= ∃v,e= .returned (.tuple #[v,.int .i64 0])∧Own w.heap.size w' v l∧Below w.heap.size w w'
theorem Ri{k:fG}{o:Value}(h:PkO k o):jE (k.lc:Nat) (k.lp:Nat) (k.pb:Nat) k.nice k.chunk k.dict=true:=by have h1:=h.lc;have h2:=h.lp;have h3:=h.pb;have h4:=h.EL;have h5:=h.nice;have h6:=h.chunk;have h7:=h.dict;unfold jE mX;rw[decide_eq_true aa,decide_eq_true ⟨h5,h6,h7⟩];rfl
theorem Pk.isCells{w:World}{p:Nat}{k:fG}{s:eK}{had:Bool}{Y:List Nat}(h:Pk w p k s had Y): ∀i∈p::Y,∃cs t x,w.heap[i]? =some (.cells cs t x):=by
 obtain⟨cv,h1,h2⟩:=h.ex;intro i hi;rcases List.mem_cons.1 hi with rfl | hi;·exact⟨_,_,_,h1⟩
 ·cases s with
  | none=>obtain⟨_,rfl⟩:=h2;cases hi
  | some s=>
   obtain⟨C,L,_,rfl,hc⟩:=h2;simp only[List.mem_cons,List.not_mem_nil,or_false]at hi;rcases hi with rfl | rfl;·obtain⟨T,hT,_⟩:=hc.mod.box;exact⟨_,_,_,hT⟩
   ·obtain⟨T,hT,_⟩:=hc.mod.lits;exact⟨_,_,_,hT⟩
theorem Own.isCells{base:Nat}{W:World}{v:Value}{l:List UInt8}(h:Own base W v l){j:Nat}{o:Obj}(hj:v.ownBlock=some j)(ho:W.heap[j]? =some o):o.isCells=true:=by
 rcases h with⟨_,⟨rfl,_⟩ | ⟨g',bw,cur,rfl,_,h4,_⟩⟩
 ·cases hj
 ·have e:g'=j:=by simpa [Value.ownBlock]using hj
  subst e;rw[ho]at h4;injection h4 with h4;subst h4;rfl
theorem tC{X:List Nat}{a b:World}(h:az X a b)(hX: ∀i∈X,∃cs t x,a.heap[i]? =some (.cells cs t x)):KeepsOthers a b:=by
 refine⟨h.size,fun j o hj ho=> ?_⟩;have aF:j<a.heap.size:=(cr hj)
 refine(h.block j aF (fun hi=> ?_)).trans hj;obtain⟨cs,t,x,hc⟩:=hX j hi;rw[hj]at hc;injection hc with hc;subst hc;cases ho
theorem Pk.off{w:World}{p:Nat}{k:fG}{s:eK}{had:Bool}{Y:List Nat}(h:Pk w p k s had Y){j:Nat}{cs:Array Value}{t:TypeId}{x:Nat×Nat}(hj:w.heap[j]? =some (.cells cs t x))(h0:t≠75)(h1:t≠146)(h2:t≠291):j ∉ p::Y:=by
 obtain⟨cv,hP,hC⟩:=h.ex;intro hi;rcases List.mem_cons.1 hi with rfl | hi;·unfold eJ at hP;rw[hj]at hP;injection hP with hP;injection hP with _ e _;exact h0 e
 ·exact hC.apart hj h1 h2 hi
theorem Own.ne{base:Nat}{W:World}{v:Value}{l:List UInt8}(h:Own base W v l){j:Nat}{cs:Array Value}{t:TypeId}{x:Nat×Nat}(hj:W.heap[j]? =some (.cells cs t x))(ht:t≠5):v.ownBlock≠some j:=by
 intro he;rcases h with⟨_,⟨rfl,_⟩ | ⟨g',bw,cur,rfl,_,h4,_⟩⟩
 ·cases he
 ·have e:g'=j:=by simpa [Value.ownBlock]using he
  subst e;rw[h4]at hj;injection hj with hj;injection hj with _ e2 _;exact ht e2.symm
structure uo(w2 W4:World)(q bP bO b1 b2:Nat)(k:fG)(pre:List (Nat×Nat))(W:World):Prop where
 ex: ∃s had Y v,Pk W q k s had Y∧(∀i∈Y,w2.heap.size≤i)∧W.heap[bO]? =some (.cells #[v] 22 (0,0))∧Own w2.heap.size W v (bG k pre (none,false)).1∧(bG k pre (none,false)).2=(s,had)
 box:W.heap[bP]? =some (.cells #[PF q] 72 (0,0))
 n1:W.heap[b1]? =W4.heap[b1]?
 n2:W.heap[b2]? =W4.heap[b2]?
 below:Below w2.heap.size w2 W
 lt:b1<W.heap.size∧b2<W.heap.size
theorem uo.alloc{w2 W4:World}{q bP bO b1 b2:Nat}{k:fG}(pre:List (Nat×Nat))(W:World)(o:Obj)(h:uo w2 W4 q bP bO b1 b2 k pre W):uo w2 W4 q bP bO b1 b2 k pre (W.alloc o):=by obtain⟨s,had,Y,v,h1,h2,h3,h4,h5⟩:=h.ex;have hb:Below W.heap.size W (W.alloc o):=ap;have up: ∀{b:Nat} {o':Obj},W.heap[b]? =some o'→(W.alloc o).heap[b]? =some o':=fun h=>(Below.heap_alloc _ _ _ (cr h)).trans h;exact⟨⟨s,had,Y,v,h1.below hb,h2,up h3,h4.alloc _,h5⟩,up h.box,(Below.heap_alloc _ _ _ h.lt.1).trans h.n1,(Below.heap_alloc _ _ _ h.lt.2).trans h.n2,h.below.alloc h.below.size _,by have:=h.lt;simp;omega⟩
theorem uo.put{w2 W4:World}{q bP bO b1 b2:Nat}{k:fG}(hw:w2.heap.size≤W4.heap.size)(I':b1<W4.heap.size∧b2<W4.heap.size)(pre:List (Nat×Nat))(W:World)(l:Nat)(o o':Obj)(h:uo w2 W4 q bP bO b1 b2 k pre W)(hl:W4.heap.size≤l)(we:W.heap[l]? =some o)(XZ:o.isCells=false):uo w2 W4 q bP bO b1 b2 k pre (W.putObj l o'):=by
 obtain⟨s,had,Y,v,h1,h2,h3,h4,h5⟩:=h.ex;have ne: ∀{i:Nat},(∃cs t x,W.heap[i]? =some (.cells cs t x))→i≠l:=fun⟨cs,t,x,hc⟩ e=>by subst e;rw[we]at hc;injection hc with hc;subst hc;cases XZ
 have up: ∀{i:Nat},i≠l→(W.putObj l o').heap[i]? =W.heap[i]? :=fun e=>World.putObj_heap_other e;refine⟨⟨s,had,Y,v,h1.aI (fun i hi=>up (ne (h1.isCells i hi))),h2,(up (ne ⟨_,_,_,h3⟩)).trans h3,h4.xF (fun g hg=>up ?_),h5⟩,(up (ne ⟨_,_,_,h.box⟩)).trans h.box,(up aa).trans h.n1,(up aa).trans h.n2,?_,by simpa [World.putObj]using h.lt⟩;·intro e;subst e;have:=h4.isCells hg we;rw[XZ]at this;cases this
 ·exact h.below.grown (grownBy_putObj' W l o') h.below.size (fun k e=>by cases e;omega)
theorem Mg(k:fG)(o:Value)(w:World)(ho:PkO k o)(hB:Bytes w k.A k.D)(hA: ∀a,k.A=some a→a.block<w.heap.size)(hc:k.D.length≤k.cD)(hl:k.D.length≤100000):
  Calls prog 14 #[.slice k.A k.D.length k.cD,o] w (xI w (m8 k)):=by
 have Cf:=Ri ho;rw[ho.val];obtain⟨A,D,cD,lc,lp,pb,nice,chunk,block,check,chain,dict,F⟩:=k;simp only at Cf hB hA hc hl ⊢;have⟨k,hk⟩:=ex ((⟨A,D,cD,lc,lp,pb,nice,chunk,block,check,chain,dict,F⟩:fG):fG);have HO:Hid (lc≤4∧lp≤4∧pb≤4∧lc+lp≤4∧(2≤nice∧nice≤273)∧(1≤chunk∧chunk≤65536)∧4096≤dict∧dict≤67108864):=hdd ⟨ho.lc,ho.lp,ho.pb,ho.EL,ho.nice,ho.chunk,ho.dict⟩;rw[hk];have⟨W,hW⟩:=ex (((w.alloc (.cells #[.int .i64 (lc:Nat),.int .i64 (lp:Nat),.int .i64 (pb:Nat),.int .i64 nice,.int .i64 chunk,.int .i64 block,.int .i64 check,chain,.int .u32 (dict:Nat)] 26)).alloc (.cells #[.slice none 0 0] 22)).alloc (.cells #[.int .i64 0] 30));obtain⟨r0,r1,r2,hb,hs⟩:=Al (vs:=ip lc lp pb nice chunk block check chain dict) hW;have HF:=hdd (D3 lc lp pb nice chunk block check chain dict W);rw[Cf]at HF;have Dd:Hid (∀W',Below W.heap.size W W'→W'.cell? ⟨w.heap.size,0,none⟩=some (.int .i64 (lc:Nat))∧W'.cell? ⟨w.heap.size,1,none⟩=some (.int .i64 (lp:Nat))∧W'.cell? ⟨w.heap.size,2,none⟩=some (.int .i64 (pb:Nat))∧W'.cell? ⟨w.heap.size,3,none⟩=some (.int .i64 nice)∧W'.cell? ⟨w.heap.size,4,none⟩=some (.int .i64 chunk)∧W'.cell? ⟨w.heap.size,5,none⟩=some (.int .i64 block)∧W'.cell? ⟨w.heap.size,6,none⟩=some (.int .i64 check)∧W'.cell? ⟨w.heap.size,7,none⟩=some chain∧W'.cell? ⟨w.heap.size,8,none⟩=some (.int .u32 (dict:Nat))):=hdd (fun W' zY=>by
  have r:=(zY.block _ (cr r0)).trans r0;refine⟨?_,?_,?_,?_,?_,?_,?_,?_,?_⟩<;>(rw[cell_of_row W' _ _ _ _ _ r];rfl))
 obtain⟨c0,c1,c2,c3,c4,c5,c6,c7,c8⟩:=Dd.out W (Below.refl _ _);have HR:Hid (W.heap[w.heap.size+1]? =some (.cells #[.slice none 0 0] 22 (0,0))∧W.heap[w.heap.size+1+1]? =some (.cells #[.int .i64 0] 30 (0,0))):=hdd ⟨r1,r2⟩;have L3:=hdd (fun(W':World) (zY:Below w.heap.size w W')=>Vb A D cD (dict:Nat) nice W' (hB.below zY) hc hl (ar HO.out) (ar HO.out) (ar HO.out));have HW:=hdd hW;have HB:=hdd hb;have HK:=hdd hk;have iG:=hdd (And.intro hB (And.intro hA (And.intro hc hl)));have G9:(dict:Int)≤67108864:=ar HO.out;have sQ:(D.length:Int)≤100000:=aa;clear hW hb hs r0 r1 r2 Cf ho hk hB hA hc hl;refine(callsIn_wide (n:=6)).1 ?_;refine callsIn_of_wp_marks func14 rfl trivial ?_ rfl;simp only[ntmps14,List.size_toArray,List.length_cons,List.length_nil,Nat.reduceAdd,Nat.reduceSub,Array.replicate_succ,Array.replicate_zero,List.push_toArray,List.append_toArray,List.nil_append,List.cons_append]
 gi_wp2_with fail
 rw[HW.out];refine⟨trivial,(callsIn_wide.2 HF.out).mono ?_⟩;rintro e w1 ⟨rfl,aC⟩;obtain⟨c0,c1,c2,c3,c4,c5,c6,c7,c8⟩:=Dd.out w1 aC;have cu:=hdd (aO HB.out aC);have aeQ:=hdd aC;clear aC
 gi_wp2_with fail
 refine⟨trivial,(callsIn_wide.2 (L3.out w1 cu.out)).mono ?_⟩;rintro e w2 ⟨F2,AF,cF,mp,B,rfl,hRd,aE⟩;clear c0 c1 c2 c3 c4 c5 c6 c7 c8;obtain⟨c0,c1,c2,c3,c4,c5,c6,c7,c8⟩:=Dd.out w2 (aO aeQ.out aE);have dY:=hdd (aO cu.out aE);have e_:=hdd (aO aeQ.out aE);have O8:=hdd hRd;clear aE hRd;have HPT:=hdd (fun W=>Mf D.length chunk.toNat W);rw[show((chunk.toNat:Nat):Int)=chunk by have:=HO.out;omega]at HPT;have⟨W3,jD⟩:=ex (((w2.alloc (.cells #[.slice A D.length cD,.int .i64 (lc:Nat),.int .i64 (lp:Nat),.int .i64 (pb:Nat),.int .i64 nice,.int .i64 chunk,.int .i64 block,.int .i64 check,chain,.int .u32 (dict:Nat),PF F2,.pointer none,.bool false] 75)).alloc (.cells #[.pointer (some ⟨w2.heap.size,0,none⟩)] 72)).alloc (.cells #[.slice none 0 0] 22));have⟨k2,my⟩:=ex ((⟨A,D,cD,lc,lp,pb,nice,chunk,block,check,chain,dict,F2⟩:fG):fG);obtain⟨q0,q1,q2,aW,PJ⟩:=Al (vs:=XL ⟨A,D,cD,lc,lp,pb,nice,chunk,block,check,chain,dict,F2⟩ (.pointer none) false) jD;rw[my]at q0;obtain⟨_,_,_,_,d4,_,_,_,_⟩:=Dd.out W3 (aO e_.out aW);rw[←jD]at d4;have C7:=hdd jD;have fc:=hdd aW;have HQ:Hid (eJ W3 w2.heap.size k2 (.pointer none) false∧W3.heap[w2.heap.size+1]? =some (.cells #[PF w2.heap.size] 72 (0,0))∧W3.heap[w2.heap.size+1+1]? =some (.cells #[.slice none 0 0] 22 (0,0))∧W3.heap.size=w2.heap.size+1+1+1):=hdd ⟨q0,q1,q2,PJ⟩;have HK2:=hdd my;clear jD aW q0 q1 q2 PJ my
 gi_wp2_with fail
 rw[C7.out];refine⟨trivial,(callsIn_wide.2 (HPT.out W3)).mono ?_⟩;rintro e W4 ⟨rfl,pz⟩;clear d4 c0 c1 c2 c3 c4 c5 c6 c7 c8;have⟨q,hq⟩:=ex (w2.heap.size);obtain⟨bP,hbP⟩: ∃b,q+1=b:=⟨_,rfl⟩
 obtain⟨bO,hbO⟩: ∃b,bP+1=b:=⟨_,rfl⟩
 obtain⟨b1,aC⟩: ∃b,W3.heap.size=b:=⟨_,rfl⟩
 obtain⟨b2,aE⟩: ∃b,b1+1=b:=⟨_,rfl⟩
 rw[aC,aE,hq,hbP,hbO]
 gi_wp2_with fail
 have ly:W4.heap[b1]? =some (.cells #[.int .i64 (D.length:Nat)] 3 (0,0)):=by rw[←pz,←aC];exact(Below.heap_alloc _ _ _ ae).trans (heap_alloc_last W3 _)
 have jo:W4.heap[b2]? =some (.cells #[.int .i64 (chunk.toNat:Nat)] 3 (0,0)):=by rw[←pz,←aE,←aC];have h:=heap_alloc_last (W3.alloc (.cells #[.int .i64 (D.length:Nat)] 3)) (.cells #[.int .i64 (chunk.toNat:Nat)] 3);rw[World.size_alloc]at h;exact h
 have lj:Below W3.heap.size W3 W4:=by rw[←pz];exact(ap).alloc ae _
 have HX:=hdd (And.intro ly jo);have VC:=hdd lj;have wG:Hid (w2.heap.size=q∧q+1=bP∧bP+1=bO∧W3.heap.size=b1∧b1+1=b2):=hdd ⟨hq,hbP,hbO,aC,aE⟩;have ju:Hid (b1<W4.heap.size∧b2<W4.heap.size∧q<b1∧bP<b1∧bO<b1∧w2.heap.size≤W4.heap.size):=hdd (by
  have e1:=(cr ly)
  have e2:=(cr jo)
  have e3:=HQ.out.2.2.2;have e4:=fc.out.size;have e5:=lj.size;omega)
 have H0:Hid (uo w2 W4 q bP bO b1 b2 k2 [] W4):=hdd (by
  obtain⟨g0,g1,g2,_⟩:=HQ.out;rw[hq]at g0 g1 g2;rw[hbP]at g1 g2;rw[hbO]at g2;have up: ∀{i:Nat} {o':Obj},W3.heap[i]? =some o'→W4.heap[i]? =some o':=fun h=>(lj.block _ (cr h)).trans h;exact⟨⟨none,false,[],_,⟨_,up g0,rfl,rfl⟩,(fun i hi=>by cases hi),up g2,Own.nil _ _,rfl⟩,up g1,rfl,rfl,aO fc.out lj,⟨ju.out.1,ju.out.2.1⟩⟩)
 have HPC:Hid (∀(x:Nat×Nat),x.1<x.2→x.2≤D.length→ ∃bD oD,PkC w2 k2 AF cF mp B bD oD∧k2.D=D):=hdd (fun x h1 h2=>by
  have hBw:Bytes w2 A D:=iG.out.1.below dY.out;obtain⟨bD,oD,hA,hbD,_⟩:=hBw.addr aa;refine⟨bD,oD,?_,by rw[←HK2.out]⟩;rw[←HK2.out];have ho:=HO.out;exact⟨O8.out,hA,hBw,hbD,iG.out.2.2.1,iG.out.2.2.2,by show 1≤dict;omega,ho.2.2.2.2.1.2,ho.1,ho.2.1,ho.2.2.1,ho.2.2.2.1⟩)
 have HPM:Hid (∀pre x t,dF D.length chunk.toNat 0=pre++x::t→(x.1<x.2∧x.2≤D.length)∧(bG k2 pre (none,false)).1.length+(x.2-x.1+3)≤140737488355328):=hdd (fun pre x t h=>by
  have fY:1≤chunk.toNat:=ar HO.out;have hm:=xG (n:=D.length) fY (D.length-0) 0 (Nat.le_refl _);rw[h]at hm;have hx:=hm x ae;have hlen:=mI (n:=D.length) fY (D.length-0) 0 (Nat.le_refl _);rw[h,List.length_append]at hlen;have hp:=xH (k:=k2) pre (none,false) (fun y hy=>by rw[←HK2.out];exact hm y (by simp[hy]));rw[show k2.D.length=D.length by rw[←HK2.out]]at hp;have hl:=iG.out.2.2.2;have hle:pre.length*(D.length+3)≤100000*100003:=Nat.mul_le_mul aa aa;exact⟨hx,aa⟩)
 have uc:Hid (∀W',Below w2.heap.size w2 W'→W'.heap[w.heap.size+1]? =some (.cells #[.slice none 0 0] 22 (0,0))∧W'.heap[w.heap.size+1+1]? =some (.cells #[.int .i64 0] 30 (0,0))):=hdd (fun W' zY=>by
  have fg:=aO e_.out zY;exact⟨(fg.block _ (cr HR.out.1)).trans HR.out.1,(fg.block _ (cr HR.out.2)).trans HR.out.2⟩)
 have Z1:Hid (w.heap.size+1+1<w2.heap.size):=hdd (Nat.lt_of_lt_of_le (cr HR.out.2) e_.out.size);clear ly jo lj pz hq hbP hbO aC aE
 refine Ce rfl an (gf:=74) (lb:= #[PF b1,PF b2]) rfl trivial (enters_of func74 ak rfl)
  (Mc Fence.wide 5 trivial rfl an D.length chunk.toNat b1 b2 (ar HO.out) (ar HO.out) (ar iG.out.2.2.2) W4 ⟨_,HX.out.1⟩ ⟨_,HX.out.2⟩) rfl
  (uo w2 W4 q bP bO b1 b2 k2) (fun s W o h=>h.alloc s W o) (fun s W l o o' h=>h.put ju.out.2.2.2.2.2 ⟨ju.out.1,ju.out.2.1⟩ s W l o o') (fun s W h=>⟨h.n1,h.n2⟩) H0.out
  (fun x=>{tmps:= #[.slice A D.length cD,wV (lc:Nat) (lp:Nat) (pb:Nat) nice chunk block check chain dict,undef,.pointer (some ⟨w.heap.size,0,none⟩),.pointer (some ⟨w.heap.size+1,0,none⟩),.pointer (some ⟨w.heap.size+1+1,0,none⟩),PF F2,.int .i64 0,.pointer (some ⟨bP,0,none⟩),.pointer (some ⟨bO,0,none⟩),.int .i64 (x.1:Nat),.int .i64 (x.2:Nat),undef,undef,wV (lc:Nat) (lp:Nat) (pb:Nat) nice chunk block check chain dict,.bool true,.bool false,.tuple #[PF F2,.int .i64 0],.slice A D.length cD,.pointer (some ⟨w.heap.size,8,none⟩),.int .u32 (dict:Nat),.int .i64 (dict:Nat),.pointer (some ⟨w.heap.size,3,none⟩),.int .i64 nice,.tuple #[PF F2,.int .i64 0],PF F2,.int .i64 0,.int .i64 0,.bool false,undef,.slice A D.length cD,wV (lc:Nat) (lp:Nat) (pb:Nat) nice chunk block check chain dict,PF F2,.agg #[.slice A D.length cD,.int .i64 (lc:Nat),.int .i64 (lp:Nat),.int .i64 (pb:Nat),.int .i64 nice,.int .i64 chunk,.int .i64 block,.int .i64 check,chain,.int .u32 (dict:Nat),PF F2,.pointer none,.bool false],.pointer (some ⟨q,0,none⟩),.slice A D.length cD,.int .i64 (D.length:Nat),.pointer (some ⟨w.heap.size,4,none⟩),.int .i64 chunk,.func (.func 74) #[] #[PF b1,PF b2],.int .i64 (x.1:Nat),.int .i64 (x.2:Nat),undef,undef,undef,undef,undef,undef,undef,undef,undef,undef,undef,undef,undef,undef,undef,undef],defers:=[]}) ?assign ?body ?done
 case assign=>
  intro l x W K hK
  gi_wp2
  exact hK
 case body=>
  rintro l pre x t W jv hI;obtain⟨s,had,Y,v,Ra,hYg,jB,aD,bJ⟩:=hI.ex;obtain⟨⟨I',h2n⟩,hlen⟩:=HPM.out pre x t jv;obtain⟨bD,oD,hC,hkD⟩:=HPC.out x I' h2n;have hq:w2.heap.size=q:=wG.out.1;have C1:=hdd (Ma hC hI.below Ra (Nat.le_of_eq hq) hYg x.1 x.2 I' (by rw[hkD];exact h2n));have cP:W.cell? ⟨bP,0,none⟩=some (PF q):=by rw[cell_of_row W _ _ _ _ _ hI.box];rfl
  have ks:=kQ (k:=k2) (a:=x.1) (b:=x.2) (s:=s) (had:=had) I' (by rw[hkD];exact h2n);have⟨L,hL⟩:=ex ((bG k2 pre (none,false)).1);rw[hL]at aD hlen;have Rj:bG k2 (pre++[x]) (none,false)=(L++(aK k2 x.1 x.2 s had).1,(aK k2 x.1 x.2 s had).2):=by rw[un,hL,bJ]
  obtain⟨⟨R,s3,f_⟩,hR⟩: ∃r,aK k2 x.1 x.2 s had=r:=⟨_,rfl⟩
  rw[hR]at Rj C1 ks;have⟨LR,g_⟩:=ex (L++R);have aeU:bG k2 (pre++[x]) (none,false)=(LR,s3,f_):=by rw[Rj,←g_]
  have HLR:=hdd g_;have HSN:=hdd aeU;have yJ:Hid (L.length+R.length≤140737488355328):=hdd (by have:R.length≤x.2-x.1+3:=ks;omega);have Mh:=hdd Ra;have HYG:=hdd hYg;have Df:=hdd jB;have HOW:=hdd aD;have HI:=hdd hI;clear Ra hYg jB aD bJ hlen hC ks hL Rj aeU g_ hR hq hI I' h2n hkD
  gi_wp2_with fail
  refine⟨trivial,(CallsIn.inRound _ (callsIn_wide.2 C1.out)).mono ?_⟩;rintro e w3 ⟨v3,Y3,rfl,gW,hP3,cK,yF⟩;simp only at gW hP3;obtain⟨A3,c3,rfl,_,_,nR⟩:=gW.read;have nO:=Mh.out.off Df.out an an an;have nP:=Mh.out.off HI.out.box an an an;have h_:=(cK.block bO (cr Df.out) nO).trans Df.out;have aeV:=(cK.block bP (cr HI.out.box) nP).trans HI.out.box;have n1:=Mh.out.off (HI.out.n1.trans HX.out.1) an an an;have n2:=Mh.out.off (HI.out.n2.trans HX.out.2) an an an;have h31:=(cK.block b1 HI.out.lt.1 n1).trans HI.out.n1;have OQ:=(cK.block b2 HI.out.lt.2 n2).trans HI.out.n2;have bj:Own w2.heap.size w3 v L:=HOW.out.xF (fun g hg=>cK.block g (HOW.out.aw g hg).2 (Mh.out.own HOW.out g hg));have aW:Below w2.heap.size w2 w3:=HI.out.below.trans (cK.below HI.out.below.size (fun i hi=>by
   rcases List.mem_cons.1 hi with rfl | hi;·exact Nat.le_of_eq wG.out.1
   ·exact HYG.out i hi))
  have cO3:w3.cell? ⟨bO,0,none⟩=some v:=by rw[cell_of_row w3 _ _ _ _ _ h_];rfl
  have GZ:=hdd bj;have i_:=hdd aW;have QE:=hdd nR;have TA:=hdd hP3;have D':=hdd cK;have Ai:=hdd yF;have se:=hdd (And.intro h_ (And.intro aeV (And.intro h31 OQ)));clear gW hP3 cK yF nR nO nP h_ aeV n1 n2 h31 OQ bj aW cP
  gi_wp2_with (gi_at_builtin;refine iJ ?_ (.tmp 52) (.tmp 53) ?_ w2.heap.size w3 v L ?_ GZ.out A3 R c3 ?_ QE.out yJ.out i_.out.size ?_;rfl;rfl;rfl;rfl;intro v4 w4 cH dK;rw[HLR.out]at cH;obtain⟨A4,c4,rfl,_,_,_⟩:=cH.read;have CX:=hdd cH;have HG4:=hdd dK;have VD:=(dK.block bO (cr se.out.1) (fun e=>GZ.out.ne se.out.1 an e.symm)).trans se.out.1;have cO4:w4.cell? ⟨bO,0,none⟩=some v:=(by rw[cell_of_row w4 _ _ _ _ _ VD];rfl);have fO4:=frozen_of_row w4 bO 0 _ _ VD;have j_:=hdd VD;clear cH dK VD)
  have dK:=HG4.out;have dr:=fun{j:Nat} {cs:Array Value} {t:TypeId} {y:Nat×Nat} (hj:w3.heap[j]? =some (.cells cs t y)) (ht:t≠5)=>(dK.block j (cr hj) (fun e=>GZ.out.ne hj ht e.symm))
  have ali:=(dr se.out.2.1 an).trans se.out.2.1;have h41:=(dr (se.out.2.2.1.trans HX.out.1) an).trans se.out.2.2.1;have h42:=(dr (se.out.2.2.2.trans HX.out.2) an).trans se.out.2.2.2;have hP4:Pk w4 q k2 s3 f_ Y3:=TA.out.aI (fun i hi=>dK.block i (by
   rcases List.mem_cons.1 hi with rfl | hi;·exact TA.out.lt
   ·exact TA.out.ltY i hi) (fun e=>TA.out.own GZ.out i e.symm hi))
  have bc:Below w2.heap.size w2 w4:=am i_.out dK i_.out.size (fun g e=>(GZ.out.aw g e).1);have oth: ∀i,i≠bO→(w4.setCell ⟨bO,0,none⟩ (.slice A4 LR.length c4)).heap[i]? =w4.heap[i]? :=fun i hi=>ag _ _ _ _ hi;have hbe:=wG.out;have dJ:=ju.out;have nO4:=hP4.off j_.out an an an;refine⟨((tC D'.out Mh.out.isCells).trans (KeepsOthers.of_grownBy dK (fun j o hj ho=>GZ.out.isCells hj ho))).trans (KeepsOthers.setCell _ _ _),⟨⟨s3,f_,Y3,.slice A4 LR.length c4,hP4.aI (fun i hi=>oth i (fun e=>by subst e;exact nO4 hi)),fun i hi=> ?_,?_,?_,?_⟩,(oth bP aa).trans ali,(oth b1 aa).trans h41,(oth b2 aa).trans h42,bc.setCell (by show w2.heap.size≤bO;omega) _,?_⟩⟩
  ·rcases Ai.out i hi with h | h;·exact HYG.out i h
   ·exact Nat.le_trans HI.out.below.size h
  ·exact heap_set j_.out 0 _
  ·rw[HSN.out];exact CX.out.xF (fun g hg=>oth g (fun e=>by subst e;exact CX.out.ne j_.out an hg))
  ·rw[HSN.out]
  ·have e1:=(Array.getElem?_eq_some_iff.1 (h41.trans HX.out.1)).1;have e2:=(Array.getElem?_eq_some_iff.1 (h42.trans HX.out.2)).1;simpa [World.setCell]using And.intro e1 e2
 case done=>
  rintro DD W hD hI hK;obtain⟨s,had,Y,v,Ra,hYg,jB,aD,bJ⟩:=hI.ex;have⟨L,hL⟩:=ex ((bG k2 (dF D.length chunk.toNat 0) (none,false)).1);rw[hL]at aD;have⟨LR,g_⟩:=ex (L++[0]);have HPB:Hid (m8 k=LR):=hdd (by
   rw[←HK.out,←g_,←hL,←HK2.out];exact congrArg (fun z:List UInt8×eK×Bool=>z.1++[0]) (EQ ⟨A,D,cD,lc,lp,pb,nice,chunk,block,check,chain,dict,F⟩ F2 _ _).symm)
  have yJ:Hid (L.length+1≤140737488355328):=hdd (by
   have fY:1≤chunk.toNat:=ar HO.out;have h1:=qr (k:=k2) (n:=D.length) fY (by rw[←HK2.out]) (D.length-0) 0 (none,false) (Nat.le_refl _);have h2:=mI (n:=D.length) fY (D.length-0) 0 (Nat.le_refl _);have h3:=iG.out.2.2.2;rw[hL]at h1;omega)
  have HLR:=hdd g_;have cO:W.cell? ⟨bO,0,none⟩=some v:=by rw[cell_of_row W _ _ _ _ _ jB];rfl
  have⟨W5,TL⟩:=ex (W.alloc (.cells #[.int .u8 0] 5));have fj:Below W.heap.size W W5:=by rw[←TL];exact ap
  have YV:Hid (Bytes W5 (some ⟨W.heap.size,0,none⟩) [0]):=hdd (by rw[←TL];exact Bytes.one W 0);have CY:Hid (Own w2.heap.size W5 v L):=hdd (by rw[←TL];exact aD.alloc _);have sP:Hid (Below w2.heap.size w2 W5):=hdd (aO hI.below fj);have HK5:Hid (W5.heap[DD]? =some (.deferred (some []))):=hdd ((fj.block _ (cr hK)).trans hK);have HW5:=hdd TL;have N6:=hdd hD;have n12:w.heap.size+1≠w.heap.size+1+1:=aa;clear Ra hYg jB aD bJ hL g_ TL fj hI hK hD
  gi_wp2_with (gi_at_builtin;rw[HW5.out];refine iJ ?_ (.tmp 55) (.tmp 56) ?_ w2.heap.size W5 v L ?_ CY.out (some ⟨W.heap.size,0,none⟩) [0] 1 ?_ YV.out yJ.out sP.out.size ?_;rfl;rfl;rfl;rfl;intro v6 w6 mV wU;rw[HLR.out]at mV;obtain⟨A6,c6,rfl,_,_,_⟩:=mV.read;have Ts:=hdd mV;have uN:=hdd (am sP.out wU sP.out.size (fun g e=>(CY.out.aw g e).1));have HK6:Hid (w6.heap[DD]? =some (.deferred (some []))):=hdd ((wU.block DD (cr HK5.out) (fun e=>by have:=CY.out.isCells e.symm HK5.out;cases this)).trans HK5.out);obtain⟨s1,s2⟩:=uc.out w6 uN.out;have k1:w6.cell? ⟨w.heap.size+1,0,none⟩=some (.slice none 0 0):=(by rw[cell_of_row w6 _ _ _ _ _ s1];rfl);have k2:w6.cell? ⟨w.heap.size+1+1,0,none⟩=some (.int .i64 0):=(by rw[cell_of_row w6 _ _ _ _ _ s2];rfl);have f1:=frozen_of_row w6 _ 0 _ _ s1;have f2:=frozen_of_row w6 _ 0 _ _ s2;have k_:=hdd (And.intro s1 s2);clear mV wU s1 s2)
  have dJ:=Z1.out;have l4:w.heap.size+1+1<w6.heap.size:=(cr k_.out.2)
  have⟨W8,hW8⟩:=ex ((w6.setCell ⟨w.heap.size+1,0,none⟩ (.slice A6 LR.length c6)).setCell ⟨w.heap.size+1+1,0,none⟩ (.int .i64 0));have hK8:W8.heap[DD]? =some (.deferred (some [])):=by rw[←hW8];have h4:=N6.out;have h5:=ju.out;exact(ag _ _ _ _ (by show DD≠w.heap.size+1+1;omega)).trans ((ag _ _ _ _ (by show DD≠w.heap.size+1;omega)).trans HK6.out)
  have g1:W8.heap[w.heap.size+1]? =some (.cells #[.slice A6 LR.length c6] 22 (0,0)):=by rw[←hW8];exact(ag _ _ _ _ (by show w.heap.size+1≠w.heap.size+1+1;omega)).trans (heap_set k_.out.1 0 _)
  have g2:W8.heap[w.heap.size+1+1]? =some (.cells #[.int .i64 0] 30 (0,0)):=by rw[←hW8];exact heap_set ((ag _ _ _ _ (by show w.heap.size+1+1≠w.heap.size+1;omega)).trans k_.out.2) 0 _
  have qW:Below w.heap.size w W8:=by rw[←hW8];exact((aO dY.out uN.out).setCell (by show w.heap.size≤w.heap.size+1;omega) _).setCell (by show w.heap.size≤w.heap.size+1+1;omega) _
  have sa:Own w.heap.size W8 (.slice A6 LR.length c6) LR:=by refine(Ts.out.xF (fun g hg=> ?_)).weaken dY.out.size;have Dy:=(Ts.out.aw g hg).1;rw[←hW8];exact(ag _ _ _ _ (by show g≠w.heap.size+1+1;omega)).trans (ag _ _ _ _ (by show g≠w.heap.size+1;omega))
  rw[hW8];have ne4:w.heap.size+1≠DD∧w.heap.size+1+1≠DD:=by have h4:=N6.out;have h5:=ju.out;omega
  have kk1:(W8.putObj DD (.deferred none)).cell? ⟨w.heap.size+1,0,none⟩=some (.slice A6 LR.length c6):=by rw[cell_of_row _ _ _ _ _ _ ((World.putObj_heap_other ne4.1).trans g1)];rfl
  have kk2:(W8.putObj DD (.deferred none)).cell? ⟨w.heap.size+1+1,0,none⟩=some (.int .i64 0):=by rw[cell_of_row _ _ _ _ _ _ ((World.putObj_heap_other ne4.2).trans g2)];rfl
  have Aj:Own w.heap.size (W8.putObj DD (.deferred none)) (.slice A6 LR.length c6) LR:=sa.xF (fun g hg=>World.putObj_heap_other (fun e=>by
   subst e;have:=sa.isCells hg hK8;cases this))
  have vr:Below w.heap.size w (W8.putObj DD (.deferred none)):=qW.grown (grownBy_putObj' W8 DD (.deferred none)) qW.size (fun k e=>by cases e;have h4:=N6.out;have h5:=ju.out;have h6:=Z1.out;omega);rw[HPB.out];refine⟨ae,.inl ⟨_,_,rfl,run_takeDeferred (b:=DD) (ds:=[]) hK8,?_⟩⟩;exact⟨_,(by simp[results,results14,go_sem,kk1,kk2]),_,rfl,Aj,vr⟩
end

theorem Nq(lc lp pb nice chunk block check:Int)(chain:Value)(dict:Nat)(w:World):
  Calls prog 21 #[wV lc lp pb nice chunk block check chain dict] w (rM (jE lc lp pb nice chunk dict) w):=by
 have⟨R,hR⟩:=ex (jE lc lp pb nice chunk dict);rw[hR];have⟨W,hW⟩:=ex (w.alloc (.cells #[.int .i64 lc,.int .i64 lp,.int .i64 pb,.int .i64 nice,.int .i64 chunk,.int .i64 block,.int .i64 check,chain,.int .u32 (dict:Nat)] 26));obtain⟨aY,eO⟩:=ef (vs:=ip lc lp pb nice chunk block check chain dict) hW;have c0:W.cell? ⟨w.heap.size,0,none⟩=some (.int .i64 lc):=mf;have c1:W.cell? ⟨w.heap.size,1,none⟩=some (.int .i64 lp):=mf;have c2:W.cell? ⟨w.heap.size,2,none⟩=some (.int .i64 pb):=mf;have c3:W.cell? ⟨w.heap.size,3,none⟩=some (.int .i64 nice):=mf;have c4:W.cell? ⟨w.heap.size,4,none⟩=some (.int .i64 chunk):=mf;have c8:W.cell? ⟨w.heap.size,8,none⟩=some (.int .u32 (dict:Nat)):=mf;have HW:=hdd hW;have dV:=hdd eO;have HM:=hdd (Wu lc lp pb W);clear aY hW eO;cases hp:mX lc lp pb with
 | false=>
  rw[hp]at HM;have PZ:Hid (R=false):=hdd (by rw[←hR];unfold jE;rw[hp];rfl);clear hp hR;go_enter func21,ntmps21;go_upto_region 1 with fail;rw[HW.out];go_wp2_with fail;refine HM.out.mono ?_;rintro e w1 ⟨rfl,rfl⟩;go_wp2_with fail;go_ret;exact⟨by rw[PZ.out];rfl,dV.out⟩
 | true=>
  rw[hp]at HM;have hRv:R=decide ((2≤nice∧nice≤273)∧(1≤chunk∧chunk≤65536)∧4096≤dict∧dict≤67108864):=by rw[←hR];unfold jE;rw[hp];rfl
  clear hp hR;rcases(by omega: ¬2≤nice∨(2≤nice∧ ¬nice≤273)∨((2≤nice∧nice≤273)∧ ¬1≤chunk)∨((2≤nice∧nice≤273)∧1≤chunk∧ ¬chunk≤65536)∨((2≤nice∧nice≤273)∧(1≤chunk∧chunk≤65536)∧ ¬(4096:Int)≤(dict:Int))∨((2≤nice∧nice≤273)∧(1≤chunk∧chunk≤65536)∧(4096:Int)≤(dict:Int)∧ ¬(dict:Int)≤67108864)∨((2≤nice∧nice≤273)∧(1≤chunk∧chunk≤65536)∧(4096:Int)≤(dict:Int)∧(dict:Int)≤67108864))with g1 | ⟨g1,g2⟩ | ⟨⟨g1,g2⟩,g3⟩ | ⟨⟨g1,g2⟩,g3,g4⟩ | ⟨⟨g1,g2⟩,⟨g3,g4⟩,g5⟩ | ⟨⟨g1,g2⟩,⟨g3,g4⟩,g5,g6⟩ | ⟨⟨g1,g2⟩,⟨g3,g4⟩,g5,g6⟩
  all_goals
   have PZ:=hdd (show R=false∨R=true from by cases R<;>simp);have HRd:Hid (R=decide ((2≤nice∧nice≤273)∧(1≤chunk∧chunk≤65536)∧4096≤dict∧dict≤67108864)):=hdd hRv;clear hRv PZ;go_enter func21,ntmps21;go_upto_region 1 with fail;rw[HW.out];go_wp2_with fail;refine HM.out.mono ?_;rintro e w1 ⟨rfl,rfl⟩;go_wp2_with fail;go_ret
   first
    | exact⟨by rw[show R=false from by rw[HRd.out];exact decide_eq_false aa];rfl,dV.out⟩
    | exact⟨by rw[show R=decide ((dict:Int)≤67108864)from by rw[HRd.out];exact decide_eq_decide.2 aa];rfl,dV.out⟩
    | exact⟨by rw[show R=true from by rw[HRd.out];exact decide_eq_true aa];rfl,dV.out⟩
theorem Fs(n:Nat)(hn:n≤281474976710656)(w:World):Calls prog 56 #[.int .i64 (n:Nat)] w (li w (nt n)):=by
 have sO:(n:Int)≤281474976710656:=aa;have hq:(n:Int).tdiv 256=(n:Int)/256:=Int.tdiv_eq_ediv_of_nonneg aa;have HO:=hdd (fun(v1 v2:Value) (e1:v1=B8 (UInt8.ofNat (n/256))) (e2:v2=B8 (UInt8.ofNat n))=>show Own w.heap.size (w.alloc (.cells #[v1,v2] 5)) (.slice (some ⟨w.heap.size,0,none⟩) 2 2) (nt n) by
  subst e1 e2;exact Own.lit w (nt n) (Nat.le_refl _) (by unfold nt;simp))
 go_enter func56,ntmps56;go_wp2_with fail;go_ret;refine⟨_,rfl,HO.out _ _ ?_ ?_,ap⟩;·simp only[B8,UInt8.toNat_ofNat'];congr 1
 ·simp only[B8,UInt8.toNat_ofNat'];congr 1
def gg(g:Nat→Nat):Nat→Nat×Nat→Nat×Nat
 | 0,z=>z
 | n+1,z=>gg g n (if z.1≤g n then(g n,n)else z)
theorem zt(g:Nat→Nat):gg g 4 (0,0)=aH g 4:=by
 simp only[gg,aH]
 grind
def oneOf(D:List UInt8)(p:Nat)(rep m:Nat×Nat)(first:Nat):Sy:=
 if 1<rep.1∧m.1≤rep.1+1 then⟨2,0,rep.1,0,rep.2⟩
 else if 2<m.1∨(m.1=2∧m.2<129)then⟨1,0,m.1,m.2,0⟩
 else if 0<first then⟨2,0,1,0,0⟩
 else⟨0,D.getD p 0,0,0,0⟩
theorem Js{nice:Int}{tt:Nat}(hp:p<D.length):
  oneOf D p (dI D dict (p:Int) ((tt:Int)-(p:Int)) r.1 r.2.1 r.2.2.1 r.2.2.2) (fU D dict nice p ((tt:Int)-(p:Int))) (df D dict (p:Int) r.1 ((tt:Int)-(p:Int)))=fe D dict nice tt p r:=by
 have hb:kN D dict nice (p:Int) ((tt:Int)-(p:Int))=fU D dict nice p ((tt:Int)-(p:Int)):=by unfold kN;rw[if_pos ⟨aa,aa⟩,Int.toNat_natCast]
 have h2:(fU D dict nice p ((tt:Int)-(p:Int))).1=0∨2≤(fU D dict nice p ((tt:Int)-(p:Int))).1:=by
  unfold fU;split;·exact .inl rfl
  ·right;omega
 unfold fe gj oneOf;rw[hb];generalize fU D dict nice p ((tt:Int)-(p:Int))=m at*;generalize dI D dict (p:Int) ((tt:Int)-(p:Int)) r.1 r.2.1 r.2.2.1 r.2.2.2=rp;generalize df D dict (p:Int) r.1 ((tt:Int)-(p:Int))=f;simp only;by_cases c1:2≤rp.1∧m.1≤rp.1+1;·rw[if_pos c1,if_pos aa]
 ·rw[if_neg c1,if_neg aa];by_cases c2:3≤m.1∨(0<m.1∧m.2≤128);·rw[if_pos c2,if_pos aa]
  ·rw[if_neg c2,if_neg aa];by_cases c3:1≤f;·rw[if_pos c3,if_pos aa]
   ·rw[if_neg c3,if_neg aa]
def AM(w:World)(g:Nat)(r:R4):Prop:=g<w.heap.size∧w.cell? ⟨g,0,none⟩=some (.int .i64 r.1)∧w.cell? ⟨g,1,none⟩=some (.int .i64 r.2.1)∧w.cell? ⟨g,2,none⟩=some (.int .i64 r.2.2.1)∧w.cell? ⟨g,3,none⟩=some (.int .i64 r.2.2.2)
theorem AM.below{w':World}(h:AM w g r)(hb:Below w.heap.size w w'):AM w' g r:=
 ⟨Nat.lt_of_lt_of_le h.1 hb.size,(hb.cell (p:=⟨g,0,none⟩) h.1).trans h.2.1,(hb.cell (p:=⟨g,1,none⟩) h.1).trans h.2.2.1,(hb.cell (p:=⟨g,2,none⟩) h.1).trans h.2.2.2.1,(hb.cell (p:=⟨g,3,none⟩) h.1).trans h.2.2.2.2⟩
theorem AM.at_(h:AM w g r){i:Nat}(hi:i<4):w.cell? ⟨g,i,none⟩=some (.int .i64 (r4 r.1 r.2.1 r.2.2.1 r.2.2.2 i)):=by
 rcases(by omega:i=0∨i=1∨i=2∨i=3)with rfl | rfl | rfl | rfl;·exact h.2.1
 ·exact h.2.2.1
 ·exact h.2.2.2.1
 ·exact h.2.2.2.2
theorem WO(A:Option Addr)(D:List UInt8)(c:Nat)(dict nice:Int)(p tt:Nat)(r:R4)(gR cap:Nat)(w:World)(hB:Bytes w A D)(hc:D.length≤c)(hl:D.length≤100000)(hp:p<tt)(ht:tt≤D.length)(hr:AM w gR r)(DO:4≤cap):
  Calls prog 133 #[.slice A D.length c,.int .i64 (p:Nat),.int .i64 (tt:Nat),.int .i64 dict,.int .i64 nice,.slice (some ⟨gR,0,none⟩) 4 cap] w (ql (fe D dict nice tt p r) w):=by
 rw[←Js (D:=D) (dict:=dict) (nice:=nice) (tt:=tt) (p:=p) (r:=r) aa];have⟨X,hX⟩:=ex ((tt:Int)-(p:Int):Int);rw[hX];have⟨W,hW⟩:=ex (w.alloc (.cells #[.int .i64 0,.int .u8 0,.int .i64 0,.int .i64 0,.int .i64 0] 158));have aY:W.heap[w.heap.size]? =some (.cells #[.int .i64 0,.int .u8 0,.int .i64 0,.int .i64 0,.int .i64 0] 158 (0,0)):=by rw[←hW];exact heap_alloc_new _ _
 have eO:Below w.heap.size w W:=by rw[←hW];exact ap
 have hrW:=hr.below eO;have Ho:=hdd (fun(i:Nat) (hi:i<4)=>hrW.at_ hi);obtain⟨g,hg⟩: ∃g:Nat→Nat,(fun i=>df D dict (p:Int) (r4 r.1 r.2.1 r.2.2.1 r.2.2.2 i) X)=g:=⟨_,rfl⟩
 have ve:Hid (∀(i:Nat) (m:Nat) (q:Int),q=r4 r.1 r.2.1 r.2.2.1 r.2.2.2 i→Calls prog 171 #[.slice A D.length c,.int .i64 dict,.int .i64 (p:Nat),.int .i64 q,.int .i64 X] (W.drewN m) fun e w'=>e= .returned (.int .i64 (g i:Nat))∧ ∃n,w'=(W.drewN m).drewN n):=hdd (fun i m q hq=>by
  rw[hq,←hg];exact NL A D c dict (p:Nat) _ X (W.drewN m) ((hB.below eO).drewN m) hc hl)
 have wG:=hdd (fun(m:Nat)=>NK A D c dict nice p X (W.drewN m) ((hB.below eO).drewN m) hc hl aa);have hbr:dI D dict (p:Int) X r.1 r.2.1 r.2.2.1 r.2.2.2=gg g 4 (0,0):=by rw[zt,←hg];rfl
 rw[hbr];have uI:df D dict (p:Int) r.1 X=g 0:=by rw[←hg];rfl
 rw[uI];obtain⟨⟨M1,M2⟩,hM⟩: ∃z,fU D dict nice p X=z:=⟨_,rfl⟩
 rw[hM];simp only[hM]at wG;have⟨Z,hZ⟩:=ex (gg g 4 (0,0));rw[hZ];have hgs: ∀i,g i≤273:=fun i=>by rw[←hg];exact zZ _ _ _ _ _
 have hMs:(M1:Int)≤100000∧(M2:Int)≤100000:=by
  have h:=iN (fun k=>aU D p (p-k) (py D p (min nice X))) (min (p:Int) dict).toNat;unfold fU at hM;split at hM;·injection hM with h1 h2;omega
  ·rw[hM]at h;rcases h.at_ with⟨h1,h2⟩ | ⟨h1,h2,h3,h4⟩
   ·omega
   ·have h5:=ir D p (p-M2) (py D p (min nice X));have h6:py D p (min nice X)=(min (min nice X) ((D.length:Int)-(p:Int))).toNat:=rfl;have h7:aU D p (p-M2) (py D p (min nice X))=M1:=h3;constructor<;>omega
 obtain⟨avX,avY⟩:=hMs;have HG:=hdd hgs;have HZ:=hdd hZ;have HW:=hdd hW;have dV:=hdd eO;have ng:=hdd aY;have aqG:(4:Int)≤(cap:Int):=aa;obtain⟨b,off,rfl,Dz,bx⟩:=hB.addr aa;have wl:W.cell? ⟨b,off+p,none⟩=some (.int .u8 ((D.getD p 0).toNat:Nat)):=by have h:=(eO.cell (p:=⟨b,off+p,none⟩) Dz).trans (bx p aa);rw[cY aa];exact h
 have⟨ch,FQ⟩:=ex (D.getD p 0);have ku:oneOf D p Z (M1,M2) (g 0)=(if 1<Z.1∧M1≤Z.1+1 then⟨2,0,Z.1,0,Z.2⟩else if 2<M1∨(M1=2∧M2<129)then⟨1,0,M1,M2,0⟩else if 0<g 0 then⟨2,0,1,0,0⟩else⟨0,ch,0,0,0⟩):=by unfold oneOf;rw[FQ]
 rw[FQ]at wl;have⟨S,hS⟩:=ex (oneOf D p Z (M1,M2) (g 0));rw[hS];have HS:=hdd (hS.symm.trans ku);have rz:(p:Int)<(D.length:Int):=aa;have Qv:(p:Int)≤100000:=aa;have hpc:(p:Int)<(c:Int):=aa;have htd:(tt:Int)≤100000:=aa;have HPC:=hdd wl;have hXi:IntKind.i64.wrap ((tt:Int)-(p:Int))=X:=by rw[←hX];exact IntWalk.i64_in _ aa
 have JX:(tt:Int)-(p:Int)=X:=hX;clear hW eO hrW hr hB hg hM hZ hgs aY hc hl hp ht DO bx hbr uI ku hS FQ hX wl Dz;go_enter func133,ntmps133;go_upto_region 1 with fail;rw[HW.out];go_wp2_with fail;go_loopw [14,15,16] (fun s14 s15 s16 wr=> ∃(n:Nat) (z1 z2:Nat) (q:Int) (m:Nat),s14= .int .i64 (z2:Nat)∧s15= .int .i64 (z1:Nat)∧s16= .int .i64 q∧Hid (q=(n:Int)-1)∧n≤4∧z1≤273∧z2≤3∧Hid (Z=gg g n (z1,z2))∧wr=W.drewN m) (fun _ _ s16 _=>(intOf s16+1).toNat);case atStart=>exact⟨4,0,0,3,0,rfl,rfl,rfl,hdd rfl,Nat.le_refl _,an,an,hdd HZ.out.symm,rfl⟩
 case round=>
  obtain⟨n,z1,z2,q,m,rfl,rfl,rfl,HQ,hn,gU,qR,HL,rfl⟩:=hrel;have avZ:(z1:Int)≤273:=aa;have av0:(z2:Int)≤3:=aa;cases n with
  | zero=>
   have hq:q= -1:=(by rw[HQ.out];rfl);subst hq;have HZ2:Hid (Z=(z1,z2)):=hdd HL.out;have c0:=Ho.out 0 an;have IJ:=hdd (fun m'=>ve.out 0 m' _ rfl);have⟨r0,wP⟩:=ex (r4 r.1 r.2.1 r.2.2.1 r.2.2.2 0);rw[wP]at c0 IJ;have⟨f0,hf0⟩:=ex (g 0);rw[hf0]at IJ;have av1:(f0:Int)≤273:=(by rw[←hf0];have:=HG.out 0;omega);have fE:Hid (S=(if 1<z1∧M1≤z1+1 then⟨2,0,z1,0,z2⟩else if 2<M1∨(M1=2∧M2<129)then⟨1,0,M1,M2,0⟩else if 0<f0 then⟨2,0,1,0,0⟩else⟨0,ch,0,0,0⟩)):=hdd (by rw[HS.out,HZ2.out,hf0]);have k0:W.cell? ⟨w.heap.size,0,none⟩=some (.int .i64 0):=rk;have k1:W.cell? ⟨w.heap.size,1,none⟩=some (.int .u8 0):=rk;have k2:W.cell? ⟨w.heap.size,2,none⟩=some (.int .i64 0):=rk;have k3:W.cell? ⟨w.heap.size,3,none⟩=some (.int .i64 0):=rk;have k4:W.cell? ⟨w.heap.size,4,none⟩=some (.int .i64 0):=rk;have fz0:=frozen_of_row W _ 0 _ _ ng.out;have fz1:=frozen_of_row W _ 1 _ _ ng.out;have fz2:=frozen_of_row W _ 2 _ _ ng.out;have fz3:=frozen_of_row W _ 3 _ _ ng.out;have fz4:=frozen_of_row W _ 4 _ _ ng.out;have wl:=HPC.out;have fi:Hid (∀(m5:Nat) (a0 a1 a2 a3 a4:Value),Below w.heap.size w ((((((W.drewN m5).setCell ⟨w.heap.size,0,none⟩ a0).setCell ⟨w.heap.size,1,none⟩ a1).setCell ⟨w.heap.size,2,none⟩ a2).setCell ⟨w.heap.size,3,none⟩ a3).setCell ⟨w.heap.size,4,none⟩ a4)):=hdd (fun m5 a0 a1 a2 a3 a4=>by
    have h:=below_drewN dV.out m5;exact((((h.setCell (p:=⟨w.heap.size,0,none⟩) (Nat.le_refl _) _).setCell (p:=⟨w.heap.size,1,none⟩) (Nat.le_refl _) _).setCell (p:=⟨w.heap.size,2,none⟩) (Nat.le_refl _) _).setCell (p:=⟨w.heap.size,3,none⟩) (Nat.le_refl _) _).setCell (p:=⟨w.heap.size,4,none⟩) (Nat.le_refl _) _)
   clear wP hf0 hn gU qR;have aaO:(1<z1∧M1≤z1+1)∨(¬(1<z1∧M1≤z1+1)∧(2<M1∨(M1=2∧M2<129)))∨(¬(1<z1∧M1≤z1+1)∧ ¬(2<M1∨(M1=2∧M2<129))∧0<f0)∨(¬(1<z1∧M1≤z1+1)∧ ¬(2<M1∨(M1=2∧M2<129))∧ ¬0<f0):=aa;go_wp2_with fail;refine(IJ.out m).mono ?_;rintro e wa ⟨rfl,ma,rfl⟩;go_wp2_with fail;refine(wG.out _).mono ?_;rintro e wb ⟨rfl,mb,rfl⟩;have⟨m5,Ol⟩:=ex (m+ma+mb);simp only[World.drewN_drewN,Ol];clear aaO;have hA:((1:Int)<(z1:Int)∧(M1:Int)≤(z1:Int)+1)∨ ¬(1:Int)<(z1:Int)∨((1:Int)<(z1:Int)∧ ¬(M1:Int)≤(z1:Int)+1):=aa;have hB:(2:Int)<(M1:Int)∨(¬(2:Int)<(M1:Int)∧(M1:Int)=2∧(M2:Int)<129)∨(¬(2:Int)<(M1:Int)∧(M1:Int)=2∧ ¬(M2:Int)<129)∨(¬(2:Int)<(M1:Int)∧(M1:Int)≠2):=aa;have hC:(0:Int)<(f0:Int)∨ ¬(0:Int)<(f0:Int):=aa;rcases hA with⟨a1,a2⟩ | a1 | ⟨a1,a2⟩
   ·clear hB hC;have WU:Hid (S=⟨2,0,z1,0,z2⟩):=hdd (by rw[fE.out];exact if_pos aa);clear fE;go_wp2_with fail;refine bodyPost_ret (v:=j2 2 0 (z1:Nat) 0 (z2:Nat)) kD rfl ⟨kE,fi.out m5 _ _ _ _ _⟩
   ·rcases hB with b1 | ⟨b1,b2,b3⟩ | ⟨b1,b2,b3⟩ | ⟨b1,b2⟩
    ·clear hC;have WU:Hid (S=⟨1,0,M1,M2,0⟩):=hdd (by rw[fE.out];rw[if_neg aa];exact if_pos aa);clear fE;go_wp2_with fail;refine bodyPost_ret (v:=j2 1 0 (M1:Nat) (M2:Nat) 0) kD rfl ⟨kE,fi.out m5 _ _ _ _ _⟩
    ·have e2:((M1:Int)==2)=true:=(by rw[beq_iff_eq];exact b2);have dY:=hdd b2;clear hC b2;have WU:Hid (S=⟨1,0,M1,M2,0⟩):=hdd (by rw[fE.out];have b2:=dY.out;rw[if_neg aa];exact if_pos aa);clear fE;go_wp2_with fail;refine bodyPost_ret (v:=j2 1 0 (M1:Nat) (M2:Nat) 0) kD rfl ⟨kE,fi.out m5 _ _ _ _ _⟩
    ·have e2:((M1:Int)==2)=true:=(by rw[beq_iff_eq];exact b2);have dY:=hdd b2;clear b2;rcases hC with c1 | c1;·skip;have WU:Hid (S=⟨2,0,1,0,0⟩):=hdd (by rw[fE.out];have b2:=dY.out;rw[if_neg aa,if_neg aa];exact if_pos aa);clear fE;go_wp2_with fail;refine bodyPost_ret (v:=j2 2 0 1 0 0) kD rfl ⟨kE,fi.out m5 _ _ _ _ _⟩
     ·skip;have WU:Hid (S=⟨0,ch,0,0,0⟩):=hdd (by rw[fE.out];have b2:=dY.out;rw[if_neg aa,if_neg aa];exact if_neg aa);clear fE;go_wp2_with fail;refine bodyPost_ret (v:=j2 0 ch 0 0 0) kD rfl ⟨kE,fi.out m5 _ _ _ _ _⟩
    ·have e2:((M1:Int)==2)=false:=(by rw[beq_eq_false_iff_ne];exact b2);have dY:=hdd b2;clear b2;rcases hC with c1 | c1;·skip;have WU:Hid (S=⟨2,0,1,0,0⟩):=hdd (by rw[fE.out];have b2:=dY.out;rw[if_neg aa,if_neg aa];exact if_pos aa);clear fE;go_wp2_with fail;refine bodyPost_ret (v:=j2 2 0 1 0 0) kD rfl ⟨kE,fi.out m5 _ _ _ _ _⟩
     ·skip;have WU:Hid (S=⟨0,ch,0,0,0⟩):=hdd (by rw[fE.out];have b2:=dY.out;rw[if_neg aa,if_neg aa];exact if_neg aa);clear fE;go_wp2_with fail;refine bodyPost_ret (v:=j2 0 ch 0 0 0) kD rfl ⟨kE,fi.out m5 _ _ _ _ _⟩
   ·have b1:(2:Int)<(M1:Int):=(by omega);clear hB hC;have WU:Hid (S=⟨1,0,M1,M2,0⟩):=hdd (by rw[fE.out];rw[if_neg aa];exact if_pos aa);clear fE;go_wp2_with fail;refine bodyPost_ret (v:=j2 1 0 (M1:Nat) (M2:Nat) 0) kD rfl ⟨kE,fi.out m5 _ _ _ _ _⟩
  | succ n=>
   obtain⟨i,rfl⟩: ∃i:Nat,q=(i:Int):=⟨n,by rw[HQ.out];omega⟩
   have NV:i=n:=ar HQ.out;subst NV;have UU:(i:Int)≤3:=aa;have ci:=Ho.out i aa;have⟨ri,hri⟩:=ex (r4 r.1 r.2.1 r.2.2.1 r.2.2.2 i);have uP:=hdd (fun m'=>ve.out i m' ri hri.symm);rw[hri]at ci;have⟨gi,hgi⟩:=ex (g i);rw[hgi]at uP;have l5:gi≤273:=(by rw[←hgi];exact HG.out i);have av2:(gi:Int)≤273:=aa;have yT:Hid (Z=gg g i (if z1≤gi then(gi,i)else(z1,z2))):=hdd (by rw[HL.out];show gg g i (if z1≤g i then(g i,i)else(z1,z2))=_;rw[hgi]);have C8:=hdd (And.intro hn (And.intro gU (And.intro qR l5)));clear hri hgi hn gU qR l5;go_wp2_with fail;refine(uP.out m).mono ?_;rintro e wa ⟨rfl,ma,rfl⟩;rw[World.drewN_drewN];by_cases Dy:z1≤gi
   ·have am7:(z1:Int)≤(gi:Int):=(by omega);have Tu:Hid (Z=gg g i (gi,i)):=hdd (by rw[yT.out,if_pos Dy]);clear Dy;go_wp2_with fail;go_roundw;case rel=>exact⟨i,gi,i,(i:Int)-1,_,rfl,rfl,rfl,hdd rfl,ar C8.out,C8.out.2.2.2,ar C8.out,Tu,rfl⟩
    case measure=>simp[intOf]
   ·have am7: ¬(z1:Int)≤(gi:Int):=(by omega);have Tu:Hid (Z=gg g i (z1,z2)):=hdd (by rw[yT.out,if_neg Dy]);clear Dy;go_wp2_with fail;go_roundw;case rel=>exact⟨i,z1,z2,(i:Int)-1,_,rfl,rfl,rfl,hdd rfl,ar C8.out,C8.out.2.1,C8.out.2.2.1,Tu,rfl⟩
    case measure=>simp[intOf]
theorem FJ(C base:Nat)(lc lp pb st:Int)(r:R4)(P:List Nat)(vR vP:Value)(s:Sy)(w:World)(hC:bW w C base lc lp pb st r P vR vP)(aT:base≤w.heap.size)(h0:0≤st)(h1:st≤11)(hk:s.k≤2)(hr:s.r≤3):
  Calls prog 134 #[PF C,s.val] w (rN C base lc lp pb (aA st (s.k:Nat) (s.l:Nat)) (du s r) P vP w):=by
 rw[←jw s hk r];obtain⟨k,b,l,d,q⟩:=s;simp only at hk hr;rcases(by omega:k=0∨k=1∨k=2)with rfl | rfl | rfl;·exact D7 C base lc lp pb st r P vR vP b _ _ _ w hC h0 h1
 ·exact zd C base lc lp pb st r P vR vP b _ _ _ w hC aT
 ·exact Ea C base lc lp pb st r P vR vP b _ _ q w hC aT hr
theorem p8{st k l:Int}(h0:0≤st)(h1:st≤11):0≤aA st k l∧aA st k l≤11:=by
 unfold aA;split
 ·split;·omega
  ·split<;>omega
 ·split;·split<;>omega
  ·split;·omega
   ·split<;>omega
theorem yx{s:Sy}(h:Qz D dict p r s):(s.k=0→s.l=0)∧(s.k≠0→1≤s.l):=by
 refine⟨fun e=> ?_,fun e=> ?_⟩;·have hp:=h.plain;unfold BG at hp;rw[if_pos aa]at hp;have e:=congrArg (fun v:Value=>match v with | .agg a=>a[2]? | _=>none) hp;have e2:some (Value.int .i64 0)=some (Value.int .i64 ((s.l:Nat):Int)):=e;injection e2 with e2;injection e2 with _ e2;omega
 ·have hf:=h.fits;unfold iI at hf;by_cases k1:((s.k:Nat):Int)=1;·rw[if_pos k1]at hf;have:=of_decide_eq_true hf;omega
  ·rw[if_neg k1]at hf;by_cases k2:((s.k:Nat):Int)=2;·rw[if_pos k2]at hf;have:=of_decide_eq_true hf;omega
   ·rw[if_neg k2]at hf;have:=of_decide_eq_true hf;omega
theorem aP.aaP{l:List Value}(h:aP t base w v l)(hg:v.ownBlock=some g): ∃cs x,w.heap[g]? =some (.cells cs t x):=by
 rcases h with⟨_,⟨rfl,_⟩ | ⟨g',bw,cur,rfl,_,h4,_⟩⟩
 ·cases hg
 ·have e:g'=g:=by simpa [Value.ownBlock]using hg
  subst e;exact⟨_,_,h4⟩
theorem ev.ne{W:World}{l:List Sy}(h:ev base W v l){j:Nat}{cs:Array Value}{x:Nat×Nat}(hj:W.heap[j]? =some (.cells cs t x))(ht:t≠158):v.ownBlock≠some j:=by
 intro he;rcases h with⟨_,⟨rfl,_⟩ | ⟨g',bw,cur,rfl,_,h4,_⟩⟩
 ·cases he
 ·have e:g'=j:=by simpa [Value.ownBlock]using he
  subst e;rw[h4]at hj;injection hj with hj;injection hj with _ e2 _;exact ht e2.symm
def AN(L:List Sy)(w:World)(e:Ending)(w':World):Prop:= ∃v C,e= .returned (.tuple #[v,PF C])∧ev w.heap.size w' v L∧Below w.heap.size w w'
structure RsI(w wr:World)(base:Nat)(r:R4)(st:Int)(vR v:Value)(L:List Sy):Prop where
 F4:bW wr w.heap.size base 0 0 0 st r [] vR (.slice none 0 0)
 zy:0≤st
 um:st≤11
 below:Below w.heap.size w wr
 own:ev (w.heap.size+1) wr v L
theorem NM(A:Option Addr)(D:List UInt8)(c:Nat)(dict nice:Int)(a tt:Nat)(r:R4)(vR:Value)(base:Nat)(w:World)(hB:Bytes w A D)(hc:D.length≤c)(hl:D.length≤100000)(bx:a≤tt)(ht:tt≤D.length)(hd:1≤dict)(hn:nice≤273)(hR:aP 3 base w vR (Tv r))(aT:base≤w.heap.size):
  Calls prog 93 #[.slice A D.length c,.int .i64 (a:Nat),.int .i64 (tt:Nat),.int .i64 dict,.int .i64 nice,vR] w (AN (ba D dict nice tt (tt-a) a r).1 w):=by
 have⟨LS,GI⟩:=ex ((ba D dict nice tt (tt-a) a r).1);rw[GI];obtain⟨gR,cR,eR,_,_⟩:=hR.bK (show 0<4 by decide);rw[show(Tv r).length=4 from rfl]at eR;subst eR;have⟨W,hW⟩:=ex (w.alloc (.cells #[.int .i64 0,.int .i64 0,.int .i64 0,.int .i64 0,.slice (some ⟨gR,0,none⟩) 4 cR,.slice none 0 0] 150));have eO:Below w.heap.size w W:=by rw[←hW];exact ap
 have hI:RsI w W base r 0 (.slice (some ⟨gR,0,none⟩) 4 cR) (.slice none 0 0) []:=⟨⟨by rw[←hW];exact heap_alloc_new _ _,hR.below eO,aP.nil _ _ _⟩,an,an,eO,ev.nil _ _⟩
 have yT:=hdd GI;have HW:=hdd hW;have HI:=hdd hI;have iG:=hdd (And.intro hB (And.intro hc hl));have HD:=hdd (And.intro bx (And.intro ht (And.intro hd hn)));have C5:=hdd aT;have G9:(D.length:Int)≤100000:=aa;have hti:(tt:Int)≤(D.length:Int):=aa;clear GI hW eO hI hB hc hl bx ht hd hn hR aT;go_enter func93,ntmps93;go_upto_region 2 with fail;rw[HW.out];go_wp2_with fail;go_loopw [15,16] (fun s15 s16 wr=> ∃(pl:Nat) (st:Int) (r':R4) (L:List Sy) (v G2:Value),s15=v∧s16= .int .i64 (pl:Nat)∧Hid (RsI w wr base r' st G2 v L)∧Hid (LS=L++(ba D dict nice tt (tt-pl) pl r').1)∧pl≤tt∧L.length≤pl) (fun _ s16 _=>tt-(intOf s16).toNat);case atStart=>exact⟨a,0,r,[],_,_,rfl,rfl,HI,hdd (by rw[List.nil_append];exact yT.out.symm),HD.out.1,Nat.zero_le _⟩
 case round=>
  obtain⟨pl,st,r',L,v,G2,rfl,rfl,HR,HL,rI,hLl⟩:=hrel;have av3:(pl:Int)≤100000:=ar HD.out;by_cases aF:pl<tt;case neg=>have tr: ¬(pl:Int)<(tt:Int):=aa;have HE:Hid (LS=L):=hdd (by rw[HL.out,mB aF,List.append_nil]);clear aF;go_wp2_with fail;go_ret2;rw[HE.out];exact⟨_,_,rfl,HR.out.own.weaken (Nat.le_succ _),HR.out.below⟩
  case pos=>
   have tr:(pl:Int)<(tt:Int):=aa;have⟨S,hS⟩:=ex (fe D dict nice tt pl r');have bJ:=kb (D:=D) (dict:=dict) (nice:=nice) (r:=r') aF HD.out.2.1 iG.out.2.2 HD.out.2.2.1 HD.out.2.2.2;have Hg:=BW (D:=D) (dict:=dict) (nice:=nice) (r:=r') aF;have oa:=gJ (D:=D) (dict:=dict) (nice:=nice) (r:=r') aF;rw[hS]at bJ Hg oa;obtain⟨c3,c4,c5,cf,g',bw,eV,kJ,_,d0,d1,d2,d3,_,qc⟩:=HR.out.F4.cells;subst eV;have UE:=hdd (WO A D c dict nice pl tt r' g' bw wr (iG.out.1.below HR.out.below) iG.out.2.1 iG.out.2.2 aF HD.out.2.1 ⟨qc,d0,d1,d2,d3⟩ kJ);rw[hS]at UE;obtain⟨sl1,sl2⟩:=yx bJ;have my:S.k≤2:=bJ.k;have UW:S.r≤3:=bJ.q;have sQ:(S.l:Int)≤273:=ar bJ.short;have Tu:Hid (LS=(L++[S])++(ba D dict nice tt (tt-(pl+max S.l 1)) (pl+max S.l 1) (du S r')).1):=hdd (by rw[HL.out,oa];simp);have HT:=hdd (And.intro aF (And.intro Hg (And.intro sl1 (And.intro sl2 (And.intro my UW)))));have yJ:=hdd hLl;clear hS bJ Hg oa aF d0 d1 d2 d3 qc sl1 sl2 my UW kJ c3 c5 cf hLl;go_wp2_with fail;refine UE.out.mono ?_;rintro e w1 ⟨rfl,aC⟩;have cu:=hdd aC;have⟨W2,jT⟩:=ex (w1.alloc (.cells #[.int .i64 (S.k:Nat),.int .u8 (S.b.toNat:Nat),.int .i64 (S.l:Nat),.int .i64 (S.d:Nat),.int .i64 (S.r:Nat)] 158));have iD:W2.heap[w1.heap.size]? =some (.cells (bB [S]).toArray 158 (0,0)):=vM;have aE:Below wr.heap.size wr W2:=(by rw[←jT];exact aC.alloc aC.size _);have vk:=hdd jT;have Eo:=hdd iD;have dY:=hdd aE;have am9:=hdd (FJ w.heap.size base 0 0 0 st r' [] _ _ S W2 (HR.out.F4.below aE) (Nat.le_trans C5.out (Nat.le_trans HR.out.below.size aE.size)) HR.out.zy HR.out.um HT.out.2.2.2.2.1 HT.out.2.2.2.2.2);have y0:W2.cell? ⟨w1.heap.size,0,none⟩=some (.int .i64 (S.k:Nat)):=jY;have y1:W2.cell? ⟨w1.heap.size,1,none⟩=some (.int .u8 (S.b.toNat:Nat)):=jY;have y2:W2.cell? ⟨w1.heap.size,2,none⟩=some (.int .i64 (S.l:Nat)):=jY;have y3:W2.cell? ⟨w1.heap.size,3,none⟩=some (.int .i64 (S.d:Nat)):=jY;have y4:W2.cell? ⟨w1.heap.size,4,none⟩=some (.int .i64 (S.r:Nat)):=jY;clear jT iD aE aC c4;go_upto_region 6 with fail;rw[vk.out];go_wp2_with fail;refine am9.out.mono ?_;rintro e w3 ⟨vR3,rfl,uK,l5⟩;have F1:=hdd uK;have agn:w1.heap.size<W2.heap.size:=(cr Eo.out)
   have yA:wr.heap.size≤w1.heap.size:=cu.out.size;have hCw:w.heap.size<wr.heap.size:=(cr HR.out.F4.box)
   have iF:w3.heap[w1.heap.size]? =some (.cells (bB [S]).toArray 158 (0,0)):=(l5.block w1.heap.size agn (fun e=>sX)).trans Eo.out;have bj:ev (w.heap.size+1) w3 u15 L:=(HR.out.own.below dY.out).aI (fun g hg=>l5.block g (Nat.lt_of_lt_of_le (HR.out.own.lt g hg).2 dY.out.size) (fun e=>by injection e with e;have:=(HR.out.own.lt g hg).1;omega));have aW:Below w.heap.size w w3:=(by have h2:=aO HR.out.below dY.out;exact h2.grown l5 h2.size (fun k e=>by cases e;exact Nat.le_refl _));have⟨W4,pz⟩:=ex (w3.alloc (.cells #[.int .i64 (S.k:Nat),.int .u8 (S.b.toNat:Nat),.int .i64 (S.l:Nat),.int .i64 (S.d:Nat),.int .i64 (S.r:Nat)] 158));have nC:W4.heap[w3.heap.size]? =some (.cells (bB [S]).toArray 158 (0,0)):=(by rw[←pz];exact heap_alloc_last _ _);have lj:Below w3.heap.size w3 W4:=(by rw[←pz];exact ap);have z0:w3.cell? ⟨w1.heap.size,0,none⟩=some (.int .i64 (S.k:Nat)):=rl;have z1:w3.cell? ⟨w1.heap.size,1,none⟩=some (.int .u8 (S.b.toNat:Nat)):=rl;have z2:w3.cell? ⟨w1.heap.size,2,none⟩=some (.int .i64 (S.l:Nat)):=rl;have z3:w3.cell? ⟨w1.heap.size,3,none⟩=some (.int .i64 (S.d:Nat)):=rl;have z4:w3.cell? ⟨w1.heap.size,4,none⟩=some (.int .i64 (S.r:Nat)):=rl;have O7:=hdd pz;have Kj:=hdd nC;have Tf:Hid (W4.heap[w1.heap.size]? =some (.cells (bB [S]).toArray 158 (0,0))):=hdd ((lj.block _ (cr iF)).trans iF);have WP:=hdd (bj.below lj);have iz:=hdd (aO aW lj);have Tg:=hdd (uK.below lj);have HLM:Hid (L.length≤1000000):=hdd (by have:=yJ.out;have:=HD.out.2.1;have:=iG.out.2.2;omega);have F5:Hid (w.heap.size+1≤W4.heap.size∧w.heap.size<W4.heap.size):=hdd (by have:=lj.size;have:=(cr iF);omega);clear pz nC lj iF bj aW uK l5 y0 y1 y2 y3 y4 agn yA hCw;go_upto_region 8 with(at_builtin;rw[O7.out];refine lB rfl (.tmp 38) (.tmp 40) rfl (w.heap.size+1) W4 u15 L rfl WP.out w3.heap.size 1 S rfl Kj.out HLM.out F5.out.1 ?_;intro v5 w5 iZ iM;have CY:=hdd iZ;have HG5:=hdd iM;have qY:=(iM.block w1.heap.size (cr Tf.out) (fun e=>by have h1:=(HR.out.own.lt w1.heap.size e.symm).2;have h2:=cu.out.size;omega)).trans Tf.out;have u0:w5.cell? ⟨w1.heap.size,0,none⟩=some (.int .i64 (S.k:Nat)):=Gi;have u2:w5.cell? ⟨w1.heap.size,2,none⟩=some (.int .i64 (S.l:Nat)):=Gi;clear iZ iM qY)
   have Q7:Hid (RsI w w5 base (du S r') (aA st (S.k:Nat) (S.l:Nat)) vR3 v5 (L++[S])):=hdd (by
    have hg:=HG5.out;have hso:=p8 (k:=(S.k:Nat)) (l:=(S.l:Nat)) HR.out.zy HR.out.um;refine⟨⟨(hg.block w.heap.size F5.out.2 (fun e=>by have:=(WP.out.lt w.heap.size e.symm).1;omega)).trans Tg.out.box,Tg.out.fh.grown hg (fun g h1 h2=> ?_),aP.nil _ _ _⟩,hso.1,hso.2,am iz.out hg iz.out.size (fun g e=>Nat.le_trans (Nat.le_succ _) (WP.out.lt g e).1),CY.out⟩;obtain⟨cs,x,hc⟩:=Tg.out.fh.aaP h1;exact WP.out.ne hc an h2)
   by_cases hk:S.k=0;·have BI:((S.k:Int)==0)=true:=(by rw[beq_iff_eq];omega);have HE:Hid (pl+max S.l 1=pl+1∧S.l=0):=hdd (ar (HT.out.2.2.1 hk));clear hk;go_wp2_with fail;exact⟨⟨pl+max S.l 1,_,_,L++[S],v5,vR3,rfl,vd,Q7,Tu,HT.out.2.1,JK⟩,by have:=HE.out;have:=HT.out.1;simp[intOf];omega⟩
   ·have BI:((S.k:Int)==0)=false:=(by rw[beq_eq_false_iff_ne];omega);have HE:Hid (pl+max S.l 1=pl+S.l∧1≤S.l):=hdd (ar (HT.out.2.2.2.1 hk));clear hk;go_wp2_with fail;exact⟨⟨pl+max S.l 1,_,_,L++[S],v5,vR3,rfl,vd,Q7,Tu,HT.out.2.1,JK⟩,by have:=HE.out;have:=HT.out.1;simp[intOf];omega⟩
theorem uw(h:dL r){k d q:Nat}(hd:d≤4294967296)(ky:k=1→1≤d):dL (cT r (k:Nat) (d:Nat) (q:Nat)):=by
 obtain⟨⟨a1,a2,a3,a4⟩,b1,b2,b3,b4⟩:=h;unfold cT;split;·exact⟨⟨a1,a2,a3,a4⟩,b1,b2,b3,b4⟩
 ·split;·exact⟨⟨by have:=ky aa;show(1:Int)≤(d:Int);omega,a1,a2,a3⟩,by show(d:Int)≤4294967296;omega,b1,b2,b3⟩
  ·split;·exact⟨⟨a1,a2,a3,a4⟩,b1,b2,b3,b4⟩
   ·split;·exact⟨⟨a2,a1,a3,a4⟩,b2,b1,b3,b4⟩
    ·split;·exact⟨⟨a3,a1,a2,a4⟩,b3,b1,b2,b4⟩
     ·exact⟨⟨a4,a1,a2,a3⟩,b4,b1,b2,b3⟩
end Go.Proofs.YtgfpocdiojifoaaGreatDoor
