import Derived.Test.YtgfpocdiojifoaaGreatDoorZ26
import Derived.MapKept
import Derived.Deep.RegionHeld3
namespace Go.Proofs.YtgfpocdiojifoaaGreatDoor
set_option maxRecDepth 100000
set_option maxHeartbeats 8000000
open Go.RowKit
section
open Go.RowKit Go.Shelf
attribute [local go_sem] Oper.semAt_some
theorem La(k:jv)(F:Nat): ∀(l:List (Nat×Nat)) (z:iq×Bool),aH {k with F:=F} l z=aH k l z
 | [],_=>rfl
 | x::l,z=>by
  have h:=La k F l (aC k x.1 x.2 z.1 z.2).2
  show((aC k x.1 x.2 z.1 z.2).1++(aH {k with F:=F} l (aC k x.1 x.2 z.1 z.2).2).1,(aH {k with F:=F} l (aC k x.1 x.2 z.1 z.2).2).2)=_
  rw[h];rfl
def DN(w:World)(l:List UInt8)(e:Ending)(w':World):Prop:= ∃v,e= .returned (.tuple #[v,.int .i64 0])∧Own w.heap.size w' v l∧Below w.heap.size w w'
theorem Yr{k:jv}{o:Value}(h:PkO k o):lT (k.lc:Nat) (k.lp:Nat) (k.pb:Nat) k.nice k.chunk k.dict=true:=by
 have h1:=h.lc;have h2:=h.lp;have h3:=h.pb;have h4:=h.OL;have h5:=h.nice;have h6:=h.chunk;have h7:=h.dict
 unfold lT lS
 rw[decide_eq_true (by omega),decide_eq_true ⟨h5,h6,h7⟩];rfl
theorem Pk.isCells{w:World}{p:Nat}{k:jv}{s:iq}{had:Bool}{Y:List Nat}(h:Pk w p k s had Y): ∀i∈p::Y,∃cs t x,w.heap[i]? =some (.cells cs t x):=by
 obtain⟨cv,h1,h2⟩:=h.ex
 intro i hi
 rcases List.mem_cons.1 hi with rfl | hi
 ·exact⟨_,_,_,h1⟩
 ·cases s with
  | none=>obtain⟨_,rfl⟩:=h2;cases hi
  | some s=>
   obtain⟨C,L,_,rfl,hc⟩:=h2
   simp only[List.mem_cons,List.not_mem_nil,or_false]at hi
   rcases hi with rfl | rfl
   ·obtain⟨T,hT,_⟩:=hc.mod.box;exact⟨_,_,_,hT⟩
   ·obtain⟨T,hT,_⟩:=hc.mod.lits;exact⟨_,_,_,hT⟩
theorem Own.isCells{base:Nat}{W:World}{v:Value}{l:List UInt8}(h:Own base W v l){j:Nat}{o:Obj}(hj:v.ownBlock=some j)(ho:W.heap[j]? =some o):o.isCells=true:=by
 rcases h with⟨_,⟨rfl,_⟩ | ⟨g',cap',cur,rfl,_,h4,_⟩⟩
 ·cases hj
 ·have e:g'=j:=by simpa [Value.ownBlock]using hj
  subst e
  rw[ho]at h4;injection h4 with h4;subst h4;rfl
theorem zo{X:List Nat}{a b:World}(h:Only X a b)(hX: ∀i∈X,∃cs t x,a.heap[i]? =some (.cells cs t x)):KeepsOthers a b:=by
 refine⟨h.size,fun j o hj ho=> ?_⟩
 have hlt:j<a.heap.size:=(Array.getElem?_eq_some_iff.1 hj).1
 refine(h.block j hlt (fun hi=> ?_)).trans hj
 obtain⟨cs,t,x,hc⟩:=hX j hi
 rw[hj]at hc;injection hc with hc;subst hc;cases ho
theorem Pk.off{w:World}{p:Nat}{k:jv}{s:iq}{had:Bool}{Y:List Nat}(h:Pk w p k s had Y){j:Nat}{cs:Array Value}{t:TypeId}{x:Nat×Nat}(hj:w.heap[j]? =some (.cells cs t x))(h0:t≠75)(h1:t≠146)(h2:t≠291):j ∉ p::Y:=by
 obtain⟨cv,hP,hC⟩:=h.ex
 intro hi
 rcases List.mem_cons.1 hi with rfl | hi
 ·unfold iH at hP
  rw[hj]at hP;injection hP with hP;injection hP with _ e _;exact h0 e
 ·exact hC.apart hj h1 h2 hi
theorem Own.ne{base:Nat}{W:World}{v:Value}{l:List UInt8}(h:Own base W v l){j:Nat}{cs:Array Value}{t:TypeId}{x:Nat×Nat}(hj:W.heap[j]? =some (.cells cs t x))(ht:t≠5):v.ownBlock≠some j:=by
 intro he
 rcases h with⟨_,⟨rfl,_⟩ | ⟨g',cap',cur,rfl,_,h4,_⟩⟩
 ·cases he
 ·have e:g'=j:=by simpa [Value.ownBlock]using he
  subst e
  rw[h4]at hj;injection hj with hj;injection hj with _ e2 _;exact ht e2.symm
structure Ai(w2 W4:World)(q bP bO b1 b2:Nat)(k:jv)(pre:List (Nat×Nat))(W:World):Prop where
 ex: ∃s had Y v,Pk W q k s had Y∧(∀i∈Y,w2.heap.size≤i)∧W.heap[bO]? =some (.cells #[v] 22 (0,0))∧Own w2.heap.size W v (aH k pre (none,false)).1∧(aH k pre (none,false)).2=(s,had)
 box:W.heap[bP]? =some (.cells #[PF q] 72 (0,0))
 n1:W.heap[b1]? =W4.heap[b1]?
 n2:W.heap[b2]? =W4.heap[b2]?
 below:Below w2.heap.size w2 W
 lt:b1<W.heap.size∧b2<W.heap.size
theorem Ai.alloc{w2 W4:World}{q bP bO b1 b2:Nat}{k:jv}(pre:List (Nat×Nat))(W:World)(o:Obj)(h:Ai w2 W4 q bP bO b1 b2 k pre W):Ai w2 W4 q bP bO b1 b2 k pre (W.alloc o):=by
 obtain⟨s,had,Y,v,h1,h2,h3,h4,h5⟩:=h.ex
 have hb:Below W.heap.size W (W.alloc o):=(Below.refl _ _).alloc (Nat.le_refl _) _
 have up: ∀{b:Nat} {o':Obj},W.heap[b]? =some o'→(W.alloc o).heap[b]? =some o':=fun h=>(Below.heap_alloc _ _ _ (Array.getElem?_eq_some_iff.1 h).1).trans h
 exact⟨⟨s,had,Y,v,h1.below hb,h2,up h3,h4.alloc _,h5⟩,up h.box,(Below.heap_alloc _ _ _ h.lt.1).trans h.n1,(Below.heap_alloc _ _ _ h.lt.2).trans h.n2,h.below.alloc h.below.size _,by have:=h.lt;simp;omega⟩
theorem Ai.put{w2 W4:World}{q bP bO b1 b2:Nat}{k:jv}(hw:w2.heap.size≤W4.heap.size)(h12:b1<W4.heap.size∧b2<W4.heap.size)(pre:List (Nat×Nat))(W:World)(l:Nat)(o o':Obj)(h:Ai w2 W4 q bP bO b1 b2 k pre W)(hl:W4.heap.size≤l)(hlo:W.heap[l]? =some o)(hoc:o.isCells=false):Ai w2 W4 q bP bO b1 b2 k pre (W.putObj l o'):=by
 obtain⟨s,had,Y,v,h1,h2,h3,h4,h5⟩:=h.ex
 have ne: ∀{i:Nat},(∃cs t x,W.heap[i]? =some (.cells cs t x))→i≠l:=fun⟨cs,t,x,hc⟩ e=>by
  subst e;rw[hlo]at hc;injection hc with hc;subst hc;cases hoc
 have up: ∀{i:Nat},i≠l→(W.putObj l o').heap[i]? =W.heap[i]? :=fun e=>World.putObj_heap_other e
 refine⟨⟨s,had,Y,v,h1.keep (fun i hi=>up (ne (h1.isCells i hi))),h2,(up (ne ⟨_,_,_,h3⟩)).trans h3,h4.GR (fun g hg=>up ?_),h5⟩,(up (ne ⟨_,_,_,h.box⟩)).trans h.box,(up (by omega)).trans h.n1,(up (by omega)).trans h.n2,?_,by simpa [World.putObj]using h.lt⟩
 ·intro e;subst e
  have:=h4.isCells hg hlo
  rw[hoc]at this;cases this
 ·exact h.below.grown (grownBy_putObj' W l o') h.below.size (fun k e=>by cases e;omega)
theorem TM(k:jv)(o:Value)(w:World)(ho:PkO k o)(hB:Bytes w k.A k.D)(hA: ∀a,k.A=some a→a.block<w.heap.size)(hc:k.D.length≤k.cD)(hl:k.D.length≤100000):
  Calls Tryz.prog 14 #[.slice k.A k.D.length k.cD,o] w (DN w (dU k)):=by
 have HFB:=Yr ho
 rw[ho.val]
 obtain⟨A,D,cD,lc,lp,pb,nice,chunk,block,check,chain,dict,F⟩:=k
 simp only at HFB hB hA hc hl ⊢
 obtain⟨k,hk⟩: ∃k:jv,(⟨A,D,cD,lc,lp,pb,nice,chunk,block,check,chain,dict,F⟩:jv)=k:=⟨_,rfl⟩
 have HO:Hid (lc≤4∧lp≤4∧pb≤4∧lc+lp≤4∧(2≤nice∧nice≤273)∧(1≤chunk∧chunk≤65536)∧4096≤dict∧dict≤67108864):=Lib.hid ⟨ho.lc,ho.lp,ho.pb,ho.OL,ho.nice,ho.chunk,ho.dict⟩
 rw[hk]
 obtain⟨W,hW⟩: ∃W,((w.alloc (.cells #[.int .i64 (lc:Nat),.int .i64 (lp:Nat),.int .i64 (pb:Nat),.int .i64 nice,.int .i64 chunk,.int .i64 block,.int .i64 check,chain,.int .u32 (dict:Nat)] 26)).alloc (.cells #[.slice none 0 0] 22)).alloc (.cells #[.int .i64 0] 30)=W:=⟨_,rfl⟩
 obtain⟨r0,r1,r2,hb,hs⟩:=GU (vs:=qB lc lp pb nice chunk block check chain dict) hW
 have HF:=Lib.hid (Kw lc lp pb nice chunk block check chain dict W)
 rw[HFB]at HF
 have HCE:Hid (∀W',Below W.heap.size W W'→W'.cell? ⟨w.heap.size,0,none⟩=some (.int .i64 (lc:Nat))∧W'.cell? ⟨w.heap.size,1,none⟩=some (.int .i64 (lp:Nat))∧W'.cell? ⟨w.heap.size,2,none⟩=some (.int .i64 (pb:Nat))∧W'.cell? ⟨w.heap.size,3,none⟩=some (.int .i64 nice)∧W'.cell? ⟨w.heap.size,4,none⟩=some (.int .i64 chunk)∧W'.cell? ⟨w.heap.size,5,none⟩=some (.int .i64 block)∧W'.cell? ⟨w.heap.size,6,none⟩=some (.int .i64 check)∧W'.cell? ⟨w.heap.size,7,none⟩=some chain∧W'.cell? ⟨w.heap.size,8,none⟩=some (.int .u32 (dict:Nat))):=Lib.hid (fun W' hb'=>by
  have r:=(hb'.block _ (Array.getElem?_eq_some_iff.1 r0).1).trans r0
  refine⟨?_,?_,?_,?_,?_,?_,?_,?_,?_⟩<;>(rw[cell_of_row W' _ _ _ _ _ r];rfl))
 obtain⟨c0,c1,c2,c3,c4,c5,c6,c7,c8⟩:=HCE.out W (Below.refl _ _)
 have HR:Hid (W.heap[w.heap.size+1]? =some (.cells #[.slice none 0 0] 22 (0,0))∧W.heap[w.heap.size+1+1]? =some (.cells #[.int .i64 0] 30 (0,0))):=Lib.hid ⟨r1,r2⟩
 have DJ:=Lib.hid (fun(W':World) (hb':Below w.heap.size w W')=>abJ A D cD (dict:Nat) nice W' (hB.below hb') hc hl (by have:=HO.out;omega) (by have:=HO.out;omega) (by have:=HO.out;omega))
 have HW:=Lib.hid hW
 have HB:=Lib.hid hb
 have HK:=Lib.hid hk
 have E5:=Lib.hid (And.intro hB (And.intro hA (And.intro hc hl)))
 have hdi:(dict:Int)≤67108864:=by have:=HO.out;omega
 have Fb:(D.length:Int)≤100000:=by omega
 clear hW hb hs r0 r1 r2 HFB ho hk hB hA hc hl
 refine(callsIn_wide (n:=6)).1 ?_
 refine callsIn_of_wp_marks Tryz.func14 rfl trivial ?_ rfl
 simp only[Tryz.ntmps14,List.size_toArray,List.length_cons,List.length_nil,Nat.reduceAdd,Nat.reduceSub,Array.replicate_succ,Array.replicate_zero,List.push_toArray,List.append_toArray,List.nil_append,List.cons_append]
 gi_wp2_with fail
 rw[HW.out]
 refine⟨trivial,(callsIn_wide.2 HF.out).mono ?_⟩
 rintro e w1 ⟨rfl,hb1⟩
 obtain⟨c0,c1,c2,c3,c4,c5,c6,c7,c8⟩:=HCE.out w1 hb1
 have HB1:=Lib.hid (HB.out.trans (hb1.mono HB.out.size))
 have ab3:=Lib.hid hb1
 clear hb1
 gi_wp2_with fail
 refine⟨trivial,(callsIn_wide.2 (DJ.out w1 HB1.out)).mono ?_⟩
 rintro e w2 ⟨F2,AF,cF,mp,B,rfl,hRd,hb2⟩
 clear c0 c1 c2 c3 c4 c5 c6 c7 c8
 obtain⟨c0,c1,c2,c3,c4,c5,c6,c7,c8⟩:=HCE.out w2 (ab3.out.trans (hb2.mono ab3.out.size))
 have HB2:=Lib.hid (HB1.out.trans (hb2.mono HB1.out.size))
 have Yt:=Lib.hid (ab3.out.trans (hb2.mono ab3.out.size))
 have QH:=Lib.hid hRd
 clear hb2 hRd
 have HPT:=Lib.hid (fun W=>TL D.length chunk.toNat W)
 rw[show((chunk.toNat:Nat):Int)=chunk by have:=HO.out;omega]at HPT
 obtain⟨W3,hW3⟩: ∃W3,((w2.alloc (.cells #[.slice A D.length cD,.int .i64 (lc:Nat),.int .i64 (lp:Nat),.int .i64 (pb:Nat),.int .i64 nice,.int .i64 chunk,.int .i64 block,.int .i64 check,chain,.int .u32 (dict:Nat),PF F2,.pointer none,.bool false] 75)).alloc (.cells #[.pointer (some ⟨w2.heap.size,0,none⟩)] 72)).alloc (.cells #[.slice none 0 0] 22)=W3:=⟨_,rfl⟩
 obtain⟨k2,hk2⟩: ∃k2:jv,(⟨A,D,cD,lc,lp,pb,nice,chunk,block,check,chain,dict,F2⟩:jv)=k2:=⟨_,rfl⟩
 obtain⟨q0,q1,q2,hb3,hs3⟩:=GU (vs:=adH ⟨A,D,cD,lc,lp,pb,nice,chunk,block,check,chain,dict,F2⟩ (.pointer none) false) hW3
 rw[hk2]at q0
 obtain⟨_,_,_,_,d4,_,_,_,_⟩:=HCE.out W3 (Yt.out.trans (hb3.mono Yt.out.size))
 rw[←hW3]at d4
 have HW3:=Lib.hid hW3
 have HB3:=Lib.hid hb3
 have HQ:Hid (iH W3 w2.heap.size k2 (.pointer none) false∧W3.heap[w2.heap.size+1]? =some (.cells #[PF w2.heap.size] 72 (0,0))∧W3.heap[w2.heap.size+1+1]? =some (.cells #[.slice none 0 0] 22 (0,0))∧W3.heap.size=w2.heap.size+1+1+1):=Lib.hid ⟨q0,q1,q2,hs3⟩
 have HK2:=Lib.hid hk2
 clear hW3 hb3 q0 q1 q2 hs3 hk2
 gi_wp2_with fail
 rw[HW3.out]
 refine⟨trivial,(callsIn_wide.2 (HPT.out W3)).mono ?_⟩
 rintro e W4 ⟨rfl,sJ⟩
 clear d4 c0 c1 c2 c3 c4 c5 c6 c7 c8
 obtain⟨q,hq⟩: ∃q,w2.heap.size=q:=⟨_,rfl⟩
 obtain⟨bP,hbP⟩: ∃b,q+1=b:=⟨_,rfl⟩
 obtain⟨bO,hbO⟩: ∃b,bP+1=b:=⟨_,rfl⟩
 obtain⟨b1,hb1⟩: ∃b,W3.heap.size=b:=⟨_,rfl⟩
 obtain⟨b2,hb2⟩: ∃b,b1+1=b:=⟨_,rfl⟩
 rw[hb1,hb2,hq,hbP,hbO]
 gi_wp2_with fail
 have hx1:W4.heap[b1]? =some (.cells #[.int .i64 (D.length:Nat)] 3 (0,0)):=by
  rw[←sJ,←hb1];exact(Below.heap_alloc _ _ _ (by simp)).trans (heap_alloc_last W3 _)
 have hx2:W4.heap[b2]? =some (.cells #[.int .i64 (chunk.toNat:Nat)] 3 (0,0)):=by
  rw[←sJ,←hb2,←hb1]
  have h:=heap_alloc_last (W3.alloc (.cells #[.int .i64 (D.length:Nat)] 3)) (.cells #[.int .i64 (chunk.toNat:Nat)] 3)
  rw[World.size_alloc]at h
  exact h
 have xU:Below W3.heap.size W3 W4:=by
  rw[←sJ];exact((Below.refl _ _).alloc (Nat.le_refl _) _).alloc (by simp) _
 have HX:=Lib.hid (And.intro hx1 hx2)
 have afc:=Lib.hid xU
 have HBE:Hid (w2.heap.size=q∧q+1=bP∧bP+1=bO∧W3.heap.size=b1∧b1+1=b2):=Lib.hid ⟨hq,hbP,hbO,hb1,hb2⟩
 have CG:Hid (b1<W4.heap.size∧b2<W4.heap.size∧q<b1∧bP<b1∧bO<b1∧w2.heap.size≤W4.heap.size):=Lib.hid (by
  have e1:=(Array.getElem?_eq_some_iff.1 hx1).1
  have e2:=(Array.getElem?_eq_some_iff.1 hx2).1
  have e3:=HQ.out.2.2.2
  have e4:=HB3.out.size
  have e5:=xU.size
  omega)
 have H0:Hid (Ai w2 W4 q bP bO b1 b2 k2 [] W4):=Lib.hid (by
  obtain⟨g0,g1,g2,_⟩:=HQ.out
  rw[hq]at g0 g1 g2
  rw[hbP]at g1 g2
  rw[hbO]at g2
  have up: ∀{i:Nat} {o':Obj},W3.heap[i]? =some o'→W4.heap[i]? =some o':=fun h=>(xU.block _ (Array.getElem?_eq_some_iff.1 h).1).trans h
  exact⟨⟨none,false,[],_,⟨_,up g0,rfl,rfl⟩,(fun i hi=>by cases hi),up g2,Own.nil _ _,rfl⟩,up g1,rfl,rfl,HB3.out.trans (xU.mono HB3.out.size),⟨CG.out.1,CG.out.2.1⟩⟩)
 have HPC:Hid (∀(x:Nat×Nat),x.1<x.2→x.2≤D.length→ ∃bD oD,PkC w2 k2 AF cF mp B bD oD∧k2.D=D):=Lib.hid (fun x h1 h2=>by
  have hBw:Bytes w2 A D:=E5.out.1.below HB2.out
  obtain⟨bD,oD,hA,hbD,_⟩:=hBw.addr (by omega)
  refine⟨bD,oD,?_,by rw[←HK2.out]⟩
  rw[←HK2.out]
  have ho:=HO.out
  exact⟨QH.out,hA,hBw,hbD,E5.out.2.2.1,E5.out.2.2.2,by show 1≤dict;omega,ho.2.2.2.2.1.2,ho.1,ho.2.1,ho.2.2.1,ho.2.2.2.1⟩)
 have HPM:Hid (∀pre x t,aT D.length chunk.toNat 0=pre++x::t→(x.1<x.2∧x.2≤D.length)∧(aH k2 pre (none,false)).1.length+(x.2-x.1+3)≤140737488355328):=Lib.hid (fun pre x t h=>by
  have hc1:1≤chunk.toNat:=by have:=HO.out;omega
  have hm:=DK (n:=D.length) hc1 (D.length-0) 0 (Nat.le_refl _)
  rw[h]at hm
  have hx:=hm x (by simp)
  have hlen:=qF (n:=D.length) hc1 (D.length-0) 0 (Nat.le_refl _)
  rw[h,List.length_append]at hlen
  have hp:=DL (k:=k2) pre (none,false) (fun y hy=>by rw[←HK2.out];exact hm y (by simp[hy]))
  rw[show k2.D.length=D.length by rw[←HK2.out]]at hp
  have hl:=E5.out.2.2.2
  have hle:pre.length*(D.length+3)≤100000*100003:=Nat.mul_le_mul (by omega) (by omega)
  exact⟨hx,by omega⟩)
 have HRW:Hid (∀W',Below w2.heap.size w2 W'→W'.heap[w.heap.size+1]? =some (.cells #[.slice none 0 0] 22 (0,0))∧W'.heap[w.heap.size+1+1]? =some (.cells #[.int .i64 0] 30 (0,0))):=Lib.hid (fun W' hb'=>by
  have hbb:=Yt.out.trans (hb'.mono Yt.out.size)
  exact⟨(hbb.block _ (Array.getElem?_eq_some_iff.1 HR.out.1).1).trans HR.out.1,(hbb.block _ (Array.getElem?_eq_some_iff.1 HR.out.2).1).trans HR.out.2⟩)
 have ae2:Hid (w.heap.size+1+1<w2.heap.size):=Lib.hid (Nat.lt_of_lt_of_le (Array.getElem?_eq_some_iff.1 HR.out.2).1 Yt.out.size)
 clear hx1 hx2 xU sJ hq hbP hbO hb1 hb2
 refine IW rfl (by decide) (gf:=74) (lb:= #[PF b1,PF b2]) rfl trivial (enters_of Tryz.func74 (by kernel_rfl) rfl)
  (TJ Fence.wide 5 trivial rfl (by decide) D.length chunk.toNat b1 b2 (by have:=HO.out;omega) (by have:=HO.out;omega) (by have:=E5.out.2.2.2;omega) W4 ⟨_,HX.out.1⟩ ⟨_,HX.out.2⟩) rfl
  (Ai w2 W4 q bP bO b1 b2 k2) (fun s W o h=>h.alloc s W o) (fun s W l o o' h=>h.put CG.out.2.2.2.2.2 ⟨CG.out.1,CG.out.2.1⟩ s W l o o') (fun s W h=>⟨h.n1,h.n2⟩) H0.out
  (fun x=>{tmps:= #[.slice A D.length cD,FK (lc:Nat) (lp:Nat) (pb:Nat) nice chunk block check chain dict,undef,.pointer (some ⟨w.heap.size,0,none⟩),.pointer (some ⟨w.heap.size+1,0,none⟩),.pointer (some ⟨w.heap.size+1+1,0,none⟩),PF F2,.int .i64 0,.pointer (some ⟨bP,0,none⟩),.pointer (some ⟨bO,0,none⟩),.int .i64 (x.1:Nat),.int .i64 (x.2:Nat),undef,undef,FK (lc:Nat) (lp:Nat) (pb:Nat) nice chunk block check chain dict,.bool true,.bool false,.tuple #[PF F2,.int .i64 0],.slice A D.length cD,.pointer (some ⟨w.heap.size,8,none⟩),.int .u32 (dict:Nat),.int .i64 (dict:Nat),.pointer (some ⟨w.heap.size,3,none⟩),.int .i64 nice,.tuple #[PF F2,.int .i64 0],PF F2,.int .i64 0,.int .i64 0,.bool false,undef,.slice A D.length cD,FK (lc:Nat) (lp:Nat) (pb:Nat) nice chunk block check chain dict,PF F2,.agg #[.slice A D.length cD,.int .i64 (lc:Nat),.int .i64 (lp:Nat),.int .i64 (pb:Nat),.int .i64 nice,.int .i64 chunk,.int .i64 block,.int .i64 check,chain,.int .u32 (dict:Nat),PF F2,.pointer none,.bool false],.pointer (some ⟨q,0,none⟩),.slice A D.length cD,.int .i64 (D.length:Nat),.pointer (some ⟨w.heap.size,4,none⟩),.int .i64 chunk,.func (.func 74) #[] #[PF b1,PF b2],.int .i64 (x.1:Nat),.int .i64 (x.2:Nat),undef,undef,undef,undef,undef,undef,undef,undef,undef,undef,undef,undef,undef,undef,undef,undef],defers:=[]}) ?assign ?body ?done
 case assign=>
  intro l x W K hK
  gi_wp2
  exact hK
 case body=>
  rintro l pre x t W hsplit hI
  obtain⟨s,had,Y,v,Ym,hYg,ng,hown,hst⟩:=hI.ex
  obtain⟨⟨h12,h2n⟩,hlen⟩:=HPM.out pre x t hsplit
  obtain⟨bD,oD,hC,hkD⟩:=HPC.out x h12 h2n
  have hq:w2.heap.size=q:=HBE.out.1
  have Kr:=Lib.hid (TI hC hI.below Ym (Nat.le_of_eq hq) hYg x.1 x.2 h12 (by rw[hkD];exact h2n))
  have cP:W.cell? ⟨bP,0,none⟩=some (PF q):=by rw[cell_of_row W _ _ _ _ _ hI.box];rfl
  have hlc:=sZ (k:=k2) (a:=x.1) (b:=x.2) (s:=s) (had:=had) h12 (by rw[hkD];exact h2n)
  obtain⟨L,hL⟩: ∃L,(aH k2 pre (none,false)).1=L:=⟨_,rfl⟩
  rw[hL]at hown hlen
  have hsn:aH k2 (pre++[x]) (none,false)=(L++(aC k2 x.1 x.2 s had).1,(aC k2 x.1 x.2 s had).2):=by rw[Ah,hL,hst]
  obtain⟨⟨R,s3,afd⟩,hR⟩: ∃r,aC k2 x.1 x.2 s had=r:=⟨_,rfl⟩
  rw[hR]at hsn Kr hlc
  obtain⟨LR,hLR⟩: ∃LR,L++R=LR:=⟨_,rfl⟩
  have aiN:aH k2 (pre++[x]) (none,false)=(LR,s3,afd):=by rw[hsn,←hLR]
  have HLR:=Lib.hid hLR
  have HSN:=Lib.hid aiN
  have Vz:Hid (L.length+R.length≤140737488355328):=Lib.hid (by have:R.length≤x.2-x.1+3:=hlc;omega)
  have Lc:=Lib.hid Ym
  have HYG:=Lib.hid hYg
  have VA:=Lib.hid ng
  have HOW:=Lib.hid hown
  have HI:=Lib.hid hI
  clear Ym hYg ng hown hst hlen hC hlc hL hsn aiN hLR hR hq hI h12 h2n hkD
  gi_wp2_with fail
  refine⟨trivial,(CallsIn.inRound _ (callsIn_wide.2 Kr.out)).mono ?_⟩
  rintro e w3 ⟨v3,Y3,rfl,ho3,hP3,eU,hY3⟩
  simp only at ho3 hP3
  obtain⟨A3,c3,rfl,_,_,hB3⟩:=ho3.read
  have nO:=Lc.out.off VA.out (by decide) (by decide) (by decide)
  have nP:=Lc.out.off HI.out.box (by decide) (by decide) (by decide)
  have aff:=(eU.block bO (Array.getElem?_eq_some_iff.1 VA.out).1 nO).trans VA.out
  have aiO:=(eU.block bP (Array.getElem?_eq_some_iff.1 HI.out.box).1 nP).trans HI.out.box
  have n1:=Lc.out.off (HI.out.n1.trans HX.out.1) (by decide) (by decide) (by decide)
  have n2:=Lc.out.off (HI.out.n2.trans HX.out.2) (by decide) (by decide) (by decide)
  have h31:=(eU.block b1 HI.out.lt.1 n1).trans HI.out.n1
  have h32:=(eU.block b2 HI.out.lt.2 n2).trans HI.out.n2
  have hown3:Own w2.heap.size w3 v L:=HOW.out.GR (fun g hg=>eU.block g (HOW.out.aF g hg).2 (Lc.out.own HOW.out g hg))
  have hb3:Below w2.heap.size w2 w3:=HI.out.below.trans (eU.below HI.out.below.size (fun i hi=>by
   rcases List.mem_cons.1 hi with rfl | hi
   ·exact Nat.le_of_eq HBE.out.1
   ·exact HYG.out i hi))
  have cO3:w3.cell? ⟨bO,0,none⟩=some v:=by rw[cell_of_row w3 _ _ _ _ _ aff];rfl
  have Xw:=Lib.hid hown3
  have afg:=Lib.hid hb3
  have XY:=Lib.hid hB3
  have HP3:=Lib.hid hP3
  have amV:=Lib.hid eU
  have HY3:=Lib.hid hY3
  have xW:=Lib.hid (And.intro aff (And.intro aiO (And.intro h31 h32)))
  clear ho3 hP3 eU hY3 hB3 nO nP aff aiO n1 n2 h31 h32 hown3 hb3 cP
  gi_wp2_with (gi_at_builtin;refine kD ?_ (.tmp 52) (.tmp 53) ?_ w2.heap.size w3 v L ?_ Xw.out A3 R c3 ?_ XY.out Vz.out afg.out.size ?_;rfl;rfl;rfl;rfl;intro v4 w4 fE hg4;rw[HLR.out]at fE;obtain⟨A4,c4,rfl,_,_,_⟩:=fE.read;have J5:=Lib.hid fE;have HG4:=Lib.hid hg4;have ab4:=(hg4.block bO (Array.getElem?_eq_some_iff.1 xW.out.1).1 (fun e=>Xw.out.ne xW.out.1 (by decide) e.symm)).trans xW.out.1;have cO4:w4.cell? ⟨bO,0,none⟩=some v:=(by rw[cell_of_row w4 _ _ _ _ _ ab4];rfl);have fO4:=frozen_of_row w4 bO 0 _ _ ab4;have afh:=Lib.hid ab4;clear fE hg4 ab4)
  have hg4:=HG4.out
  have hne:=fun{j:Nat} {cs:Array Value} {t:TypeId} {y:Nat×Nat} (hj:w3.heap[j]? =some (.cells cs t y)) (ht:t≠5)=>(hg4.block j (Array.getElem?_eq_some_iff.1 hj).1 (fun e=>Xw.out.ne hj ht e.symm))
  have amW:=(hne xW.out.2.1 (by decide)).trans xW.out.2.1
  have h41:=(hne (xW.out.2.2.1.trans HX.out.1) (by decide)).trans xW.out.2.2.1
  have h42:=(hne (xW.out.2.2.2.trans HX.out.2) (by decide)).trans xW.out.2.2.2
  have hP4:Pk w4 q k2 s3 afd Y3:=HP3.out.keep (fun i hi=>hg4.block i (by
   rcases List.mem_cons.1 hi with rfl | hi
   ·exact HP3.out.lt
   ·exact HP3.out.ltY i hi) (fun e=>HP3.out.own Xw.out i e.symm hi))
  have hb4:Below w2.heap.size w2 w4:=below_grown afg.out hg4 afg.out.size (fun g e=>(Xw.out.aF g e).1)
  have oth: ∀i,i≠bO→(w4.setCell ⟨bO,0,none⟩ (.slice A4 LR.length c4)).heap[i]? =w4.heap[i]? :=fun i hi=>ah _ _ _ _ hi
  have hbe:=HBE.out
  have hsz:=CG.out
  have nO4:=hP4.off afh.out (by decide) (by decide) (by decide)
  refine⟨((zo amV.out Lc.out.isCells).trans (KeepsOthers.of_grownBy hg4 (fun j o hj ho=>Xw.out.isCells hj ho))).trans (KeepsOthers.setCell _ _ _),⟨⟨s3,afd,Y3,.slice A4 LR.length c4,hP4.keep (fun i hi=>oth i (fun e=>by subst e;exact nO4 hi)),fun i hi=> ?_,?_,?_,?_⟩,(oth bP (by omega)).trans amW,(oth b1 (by omega)).trans h41,(oth b2 (by omega)).trans h42,hb4.setCell (by show w2.heap.size≤bO;omega) _,?_⟩⟩
  ·rcases HY3.out i hi with h | h
   ·exact HYG.out i h
   ·exact Nat.le_trans HI.out.below.size h
  ·exact heap_set afh.out 0 _
  ·rw[HSN.out]
   exact J5.out.GR (fun g hg=>oth g (fun e=>by subst e;exact J5.out.ne afh.out (by decide) hg))
  ·rw[HSN.out]
  ·have e1:=(Array.getElem?_eq_some_iff.1 (h41.trans HX.out.1)).1
   have e2:=(Array.getElem?_eq_some_iff.1 (h42.trans HX.out.2)).1
   simpa [World.setCell]using And.intro e1 e2
 case done=>
  rintro DD W hD hI hK
  obtain⟨s,had,Y,v,Ym,hYg,ng,hown,hst⟩:=hI.ex
  obtain⟨L,hL⟩: ∃L,(aH k2 (aT D.length chunk.toNat 0) (none,false)).1=L:=⟨_,rfl⟩
  rw[hL]at hown
  obtain⟨LR,hLR⟩: ∃LR,L++[0]=LR:=⟨_,rfl⟩
  have HPB:Hid (dU k=LR):=Lib.hid (by
   rw[←HK.out,←hLR,←hL,←HK2.out]
   exact congrArg (fun z:List UInt8×iq×Bool=>z.1++[0]) (La ⟨A,D,cD,lc,lp,pb,nice,chunk,block,check,chain,dict,F⟩ F2 _ _).symm)
  have Vz:Hid (L.length+1≤140737488355328):=Lib.hid (by
   have hc1:1≤chunk.toNat:=by have:=HO.out;omega
   have h1:=qG (k:=k2) (n:=D.length) hc1 (by rw[←HK2.out]) (D.length-0) 0 (none,false) (Nat.le_refl _)
   have h2:=qF (n:=D.length) hc1 (D.length-0) 0 (Nat.le_refl _)
   have h3:=E5.out.2.2.2
   rw[hL]at h1
   omega)
  have HLR:=Lib.hid hLR
  have cO:W.cell? ⟨bO,0,none⟩=some v:=by rw[cell_of_row W _ _ _ _ _ ng];rfl
  obtain⟨W5,hW5⟩: ∃W5,W.alloc (.cells #[.int .u8 0] 5)=W5:=⟨_,rfl⟩
  have hb5:Below W.heap.size W W5:=by rw[←hW5];exact(Below.refl _ _).alloc (Nat.le_refl _) _
  have HX5:Hid (Bytes W5 (some ⟨W.heap.size,0,none⟩) [0]):=Lib.hid (by rw[←hW5];exact Bytes.one W 0)
  have Vw:Hid (Own w2.heap.size W5 v L):=Lib.hid (by rw[←hW5];exact hown.alloc _)
  have zk:Hid (Below w2.heap.size w2 W5):=Lib.hid (hI.below.trans (hb5.mono hI.below.size))
  have HK5:Hid (W5.heap[DD]? =some (.deferred (some []))):=Lib.hid ((hb5.block _ (Array.getElem?_eq_some_iff.1 hK).1).trans hK)
  have HW5:=Lib.hid hW5
  have Vy:=Lib.hid hD
  have n12:w.heap.size+1≠w.heap.size+1+1:=by omega
  clear Ym hYg ng hown hst hL hLR hW5 hb5 hI hK hD
  gi_wp2_with (gi_at_builtin;rw[HW5.out];refine kD ?_ (.tmp 55) (.tmp 56) ?_ w2.heap.size W5 v L ?_ Vw.out (some ⟨W.heap.size,0,none⟩) [0] 1 ?_ HX5.out Vz.out zk.out.size ?_;rfl;rfl;rfl;rfl;intro v6 w6 BP hg6;rw[HLR.out]at BP;obtain⟨A6,c6,rfl,_,_,_⟩:=BP.read;have WE:=Lib.hid BP;have Gv:=Lib.hid (below_grown zk.out hg6 zk.out.size (fun g e=>(Vw.out.aF g e).1));have HK6:Hid (w6.heap[DD]? =some (.deferred (some []))):=Lib.hid ((hg6.block DD (Array.getElem?_eq_some_iff.1 HK5.out).1 (fun e=>by have:=Vw.out.isCells e.symm HK5.out;cases this)).trans HK5.out);obtain⟨s1,s2⟩:=HRW.out w6 Gv.out;have k1:w6.cell? ⟨w.heap.size+1,0,none⟩=some (.slice none 0 0):=(by rw[cell_of_row w6 _ _ _ _ _ s1];rfl);have k2:w6.cell? ⟨w.heap.size+1+1,0,none⟩=some (.int .i64 0):=(by rw[cell_of_row w6 _ _ _ _ _ s2];rfl);have f1:=frozen_of_row w6 _ 0 _ _ s1;have f2:=frozen_of_row w6 _ 0 _ _ s2;have afi:=Lib.hid (And.intro s1 s2);clear BP hg6 s1 s2)
  have hsz:=ae2.out
  have l4:w.heap.size+1+1<w6.heap.size:=(Array.getElem?_eq_some_iff.1 afi.out.2).1
  obtain⟨W8,VE⟩: ∃W8,(w6.setCell ⟨w.heap.size+1,0,none⟩ (.slice A6 LR.length c6)).setCell ⟨w.heap.size+1+1,0,none⟩ (.int .i64 0)=W8:=⟨_,rfl⟩
  have hK8:W8.heap[DD]? =some (.deferred (some [])):=by
   rw[←VE]
   have h4:=Vy.out
   have h5:=CG.out
   exact(ah _ _ _ _ (by show DD≠w.heap.size+1+1;omega)).trans ((ah _ _ _ _ (by show DD≠w.heap.size+1;omega)).trans HK6.out)
  have g1:W8.heap[w.heap.size+1]? =some (.cells #[.slice A6 LR.length c6] 22 (0,0)):=by
   rw[←VE]
   exact(ah _ _ _ _ (by show w.heap.size+1≠w.heap.size+1+1;omega)).trans (heap_set afi.out.1 0 _)
  have g2:W8.heap[w.heap.size+1+1]? =some (.cells #[.int .i64 0] 30 (0,0)):=by
   rw[←VE]
   exact heap_set ((ah _ _ _ _ (by show w.heap.size+1+1≠w.heap.size+1;omega)).trans afi.out.2) 0 _
  have hb8:Below w.heap.size w W8:=by
   rw[←VE]
   exact((HB2.out.trans (Gv.out.mono HB2.out.size)).setCell (by show w.heap.size≤w.heap.size+1;omega) _).setCell (by show w.heap.size≤w.heap.size+1+1;omega) _
  have Jw:Own w.heap.size W8 (.slice A6 LR.length c6) LR:=by
   refine(WE.out.GR (fun g hg=> ?_)).weaken HB2.out.size
   have hge:=(WE.out.aF g hg).1
   rw[←VE]
   exact(ah _ _ _ _ (by show g≠w.heap.size+1+1;omega)).trans (ah _ _ _ _ (by show g≠w.heap.size+1;omega))
  rw[VE]
  have ne4:w.heap.size+1≠DD∧w.heap.size+1+1≠DD:=by have h4:=Vy.out;have h5:=CG.out;omega
  have kk1:(W8.putObj DD (.deferred none)).cell? ⟨w.heap.size+1,0,none⟩=some (.slice A6 LR.length c6):=by rw[cell_of_row _ _ _ _ _ _ ((World.putObj_heap_other ne4.1).trans g1)];rfl
  have kk2:(W8.putObj DD (.deferred none)).cell? ⟨w.heap.size+1+1,0,none⟩=some (.int .i64 0):=by rw[cell_of_row _ _ _ _ _ _ ((World.putObj_heap_other ne4.2).trans g2)];rfl
  have ho9:Own w.heap.size (W8.putObj DD (.deferred none)) (.slice A6 LR.length c6) LR:=Jw.GR (fun g hg=>World.putObj_heap_other (fun e=>by
   subst e;have:=Jw.isCells hg hK8;cases this))
  have Jy:Below w.heap.size w (W8.putObj DD (.deferred none)):=hb8.grown (grownBy_putObj' W8 DD (.deferred none)) hb8.size (fun k e=>by cases e;have h4:=Vy.out;have h5:=CG.out;have h6:=ae2.out;omega)
  rw[HPB.out]
  refine⟨by simp,.inl ⟨_,_,rfl,run_takeDeferred (b:=DD) (ds:=[]) hK8,?_⟩⟩
  exact⟨_,(by simp[results,Tryz.results14,go_sem,kk1,kk2]),_,rfl,ho9,Jy⟩
end
theorem ab5(w:World)(r clock:Nat)(k:Int)(es:Array MapEntry)(v:Value)(hb:w.heap[r]? =some (.map es clock))(hf:Instr.findNow (.int .i64) (.int .i64 k) es.toList 0=some none):
  (Instr.mapUpdate 229 (.map (some r)) (.int .i64 k) v).run Tryz.prog w= .ok () {w with heap:=w.heap.setIfInBounds r (.map (es.push {key:= .int .i64 k,val:=v,born:=clock}) (clock+1))}:=by
 have hc:(Instr.checkKey false 10000 3 (.int .i64 k)).run Tryz.prog w= .ok () w:=MapKept.run_checkKey (k:= .int .i64 k) Tryz.underlying3 (by simp[MapKept.IsKey]) false 9999
 simp[Instr.mapUpdate,run_underlying Tryz.underlying229,MapKept.run_getObj_map hb,hc,MapKept.run_findKey Tryz.underlying3 hf,MapKept.run_setObj_map _ hb,Result.andThen]
def ents:Array MapEntry:= #[⟨.int .i64 5,.func (.func 190) #[] #[],0⟩,⟨.int .i64 7,.func (.func 192) #[] #[],1⟩,⟨.int .i64 9,.func (.func 193) #[] #[],2⟩,⟨.int .i64 10,.func (.func 195) #[] #[],3⟩]
def Ld(w:World)(e:Ending)(w':World):Prop:= ∃r,e= .returned (.map (some r))∧w'.heap[r]? =some (.map ents 4)∧w.heap.size≤r∧Below w.heap.size w w'
theorem xX{w W:World}{r c:Nat}{es:Array MapEntry}(k:Int)(v:Value)(hb:W.heap[r]? =some (.map es c))(hf:Instr.findNow (.int .i64) (.int .i64 k) es.toList 0=some none)(hB:Below w.heap.size w W)(hr:w.heap.size≤r):
  ∃W',(Instr.mapUpdate 229 (.map (some r)) (.int .i64 k) v).run Tryz.prog W= .ok () W'∧W'.heap[r]? =some (.map (es.push {key:= .int .i64 k,val:=v,born:=c}) (c+1))∧Below w.heap.size w W':=by
 refine⟨_,ab5 W r c k es v hb hf,(MapKept.heap_set hb).1,?_⟩
 exact⟨hB.os,hB.tape,hB.output,by simpa using hB.size,fun i hi=>((MapKept.heap_set hb).2 i (by omega)).trans (hB.block i hi)⟩
theorem Le(w:World):Calls Tryz.prog 155 #[] w (Ld w):=by
 have hmm:=run_makeMap (P:=Tryz.prog) 229 w
 have b0:=(MapKept.heap_alloc w (.map #[] 0)).1
 have B0:Below w.heap.size w (w.alloc (.map #[] 0)):=(Below.refl _ _).alloc (Nat.le_refl _) _
 generalize w.alloc (.map #[] 0)=W0 at*
 obtain⟨W1,i1,b1,B1⟩:=xX 5 (.func (.func 190) #[] #[]) b0 rfl B0 (Nat.le_refl _)
 obtain⟨W2,i2,b2,B2⟩:=xX 7 (.func (.func 192) #[] #[]) b1 rfl B1 (Nat.le_refl _)
 obtain⟨W3,i3,b3,B3⟩:=xX 9 (.func (.func 193) #[] #[]) b2 rfl B2 (Nat.le_refl _)
 obtain⟨W4,i4,b4,B4⟩:=xX 10 (.func (.func 195) #[] #[]) b3 rfl B3 (Nat.le_refl _)
 have HB4:=Lib.hid b4
 clear b0 b1 b2 b3 b4
 go_enter Tryz.func155,Tryz.ntmps155
 go_wp2_with fail
 go_ret
 exact⟨w.heap.size,rfl,HB4.out,Nat.le_refl _,B4⟩
theorem Yu(w:World)(r:Nat)(id:Int)(hb:w.heap[r]? =some (.map ents 4))(a:Option (Nat×Value))(hf:Instr.findNow (.int .i64) (.int .i64 id) ents.toList 0=some a)(z:Value)(hz:(zeroValue 227).run Tryz.prog w= .ok z w):
  (Instr.lookup 229 (.map (some r)) (.int .i64 id) true).run Tryz.prog w= .ok (.tuple #[(a.map (·.2)).getD z,.bool a.isSome]) w:=by
 have hc: ∀e,(Instr.checkKey e 10000 3 (.int .i64 id)).run Tryz.prog w= .ok () w:=fun e=>MapKept.run_checkKey (k:= .int .i64 id) Tryz.underlying3 (by simp[MapKept.IsKey]) e 9999
 cases a<;>simp[Instr.lookup,run_underlying Tryz.underlying229,MapKept.run_getObj_map hb,hc,MapKept.run_findKey Tryz.underlying3 hf,hz,Result.andThen]
theorem afj:Instr.findNow (.int .i64) (.int .i64 5) ents.toList 0=some (some (0,.func (.func 190) #[] #[])):=rfl
theorem afk:Instr.findNow (.int .i64) (.int .i64 7) ents.toList 0=some (some (1,.func (.func 192) #[] #[])):=rfl
theorem afl:Instr.findNow (.int .i64) (.int .i64 9) ents.toList 0=some (some (2,.func (.func 193) #[] #[])):=rfl
theorem ab6:Instr.findNow (.int .i64) (.int .i64 10) ents.toList 0=some (some (3,.func (.func 195) #[] #[])):=rfl
theorem bv_and(a b:BitVec 32):bits .and .u32 (a.toNat:Int) (b.toNat:Int)=((a &&& b).toNat:Int):=by rw[u32_and_nat _ _ a.isLt b.isLt,BitVec.toNat_and]
theorem aiR(a b:BitVec 32):bits .or .u32 (a.toNat:Int) (b.toNat:Int)=((a ||| b).toNat:Int):=by rw[u32_or_nat _ _ a.isLt b.isLt,BitVec.toNat_or]
theorem TN(a b:BitVec 32):bits .andNot .u32 (a.toNat:Int) (b.toNat:Int)=((a &&& ~~~b).toNat:Int):=by
 rw[u32_andNot_nat _ _ a.isLt b.isLt,BitVec.toNat_and,BitVec.toNat_not]
theorem zq(id:Int)(w:World):Calls Tryz.prog 197 #[.int .i64 id] w fun e w'=>e= .returned (.bool (id==7||id==10))∧w=w':=by
 by_cases h7:id=7
 ·subst h7
  go_enter Tryz.func197,Tryz.ntmps197
  go_wp2_with fail
  go_ret
  exact⟨rfl,rfl⟩
 ·have h7b:(id==7)=false:=by simp[h7]
  rw[h7b,Bool.false_or]
  clear h7
  go_enter Tryz.func197,Tryz.ntmps197
  go_wp2_with fail
  go_ret
  exact⟨rfl,rfl⟩
theorem IX(a b m:BitVec 32)(w:World):Calls Tryz.prog 191 #[.int .u32 a.toNat,.int .u32 b.toNat,.int .u32 m.toNat] w fun e w'=>e= .returned (.int .u32 ((a &&& ~~~m) ||| (b &&& m)).toNat)∧w=w':=by
 go_enter Tryz.func191,Tryz.ntmps191
 go_wp2_with fail
 go_ret
 exact⟨congrArg (fun n:Int=>Ending.returned (Value.int .u32 n)) (by rw[TN,bv_and,aiR]),rfl⟩
theorem DR(a b k:Nat)(ha:a<2^k):a ||| b*2^k=a+b*2^k:=by
 rw[Nat.or_comm,←Nat.shiftLeft_eq,←Nat.shiftLeft_add_eq_or_of_lt ha,Nat.add_comm]
theorem IY(a b c d:Nat)(ha:a<256)(hb:b<256)(hc:c<256)(hd:d<256):
  bits .or .u32 (bits .or .u32 (bits .or .u32 (IntKind.u32.wrap (a:Int)) (IntKind.u32.wrap (IntKind.u32.wrap (b:Int)*256))) (IntKind.u32.wrap (IntKind.u32.wrap (c:Int)*65536))) (IntKind.u32.wrap (IntKind.u32.wrap (d:Int)*16777216))=((a+b*256+c*65536+d*16777216:Nat):Int):=by
 have w0: ∀x:Nat,x<256→IntKind.u32.wrap (x:Int)=(x:Int):=fun x hx=>by rw[IntKind.wrap_u32];omega
 rw[w0 a ha,w0 b hb,w0 c hc,w0 d hd]
 have e1:IntKind.u32.wrap ((b:Int)*256)=((b*256:Nat):Int):=by rw[IntKind.wrap_u32];omega
 have e2:IntKind.u32.wrap ((c:Int)*65536)=((c*65536:Nat):Int):=by rw[IntKind.wrap_u32];omega
 have e3:IntKind.u32.wrap ((d:Int)*16777216)=((d*16777216:Nat):Int):=by rw[IntKind.wrap_u32];omega
 have o1:a ||| b*256=a+b*256:=DR a b 8 (by omega)
 have o2:(a+b*256) ||| c*65536=a+b*256+c*65536:=DR _ c 16 (by omega)
 have o3:(a+b*256+c*65536) ||| d*16777216=a+b*256+c*65536+d*16777216:=DR _ d 24 (by omega)
 rw[e1,e2,e3,u32_or_nat _ _ (by omega) (by omega),o1,u32_or_nat _ _ (by omega) (by omega),o2,u32_or_nat _ _ (by omega) (by omega),o3]
def word(low:Bool)(x0 x1 x2 x3:UInt8):Nat:=if low then x0.toNat+x1.toNat*256+x2.toNat*65536+x3.toNat*16777216 else x3.toNat+x2.toNat*256+x1.toNat*65536+x0.toNat*16777216
theorem TP(id:Int)(b off c:Nat)(x0 x1 x2 x3:UInt8)(w:World)(h0:w.cell? ⟨b,off,none⟩=some (B8 x0))(h1:w.cell? ⟨b,off+1,none⟩=some (B8 x1))(h2:w.cell? ⟨b,off+2,none⟩=some (B8 x2))(h3:w.cell? ⟨b,off+3,none⟩=some (B8 x3)):
  Calls Tryz.prog 157 #[.int .i64 id,.slice (some ⟨b,off,none⟩) 4 c] w fun e w'=>e= .returned (.int .u32 (word (id==7||id==10) x0 x1 x2 x3:Nat))∧Below w.heap.size w w':=by
 have HL:=Lib.hid (zq id w)
 have k0:w.drew.cell? ⟨b,off,none⟩=some (B8 x0):=h0
 have k1:w.drew.cell? ⟨b,off+1,none⟩=some (B8 x1):=h1
 have k2:w.drew.cell? ⟨b,off+2,none⟩=some (B8 x2):=h2
 have k3:w.drew.cell? ⟨b,off+3,none⟩=some (B8 x3):=h3
 generalize(id==7||id==10)=lo at*
 cases lo with
 | true=>
  have HW:=Lib.hid (IY _ _ _ _ x0.toNat_lt x1.toNat_lt x2.toNat_lt x3.toNat_lt)
  go_enter Tryz.func157,Tryz.ntmps157
  go_wp2_with fail
  refine HL.out.mono ?_
  rintro e w' ⟨rfl,rfl⟩
  go_wp2_with fail
  refine wp_region_held_drew (S:=fun w'=>w'.cell? ⟨b,off,none⟩=some (B8 x0)∧w'.cell? ⟨b,off+1,none⟩=some (B8 x1)∧w'.cell? ⟨b,off+2,none⟩=some (B8 x2)∧w'.cell? ⟨b,off+3,none⟩=some (B8 x3)) (by kernel_rfl) ⟨k0,k1,k2,k3⟩ (fun hS=> ?_)
  refine tq 0 hS ?_
  refine tq 1 hS ?_
  refine tp 2 rfl (fun w hSw=>by obtain⟨j0,j1,j2,j3⟩:=hSw;go_simp;all_goals(with_reducible rfl)) hS ?_
  refine tq 3 hS ?_
  refine tq 4 hS ?_
  refine tq 5 hS ?_
  refine tp 6 rfl (fun w hSw=>by obtain⟨j0,j1,j2,j3⟩:=hSw;go_simp;all_goals(with_reducible rfl)) hS ?_
  refine tq 7 hS ?_
  refine tq 8 hS ?_
  refine tq 9 hS ?_
  refine tq 10 hS ?_
  refine tq 11 hS ?_
  refine tp 12 rfl (fun w hSw=>by obtain⟨j0,j1,j2,j3⟩:=hSw;go_simp;all_goals(with_reducible rfl)) hS ?_
  refine tq 13 hS ?_
  refine tq 14 hS ?_
  refine tq 15 hS ?_
  refine tq 16 hS ?_
  refine tq 17 hS ?_
  refine tp 18 rfl (fun w hSw=>by obtain⟨j0,j1,j2,j3⟩:=hSw;go_simp;all_goals(with_reducible rfl)) hS ?_
  refine tq 19 hS ?_
  refine tq 20 hS ?_
  refine tq 21 hS ?_
  refine tq 22 hS ?_
  refine wpAnyH_done (by kernel_rfl) ?_ _
  rw[HW.out]
  go_wp2_with fail
  go_ret
  exact⟨rfl,(Below.refl _ _).drew⟩
 | false=>
  have HW:=Lib.hid (IY _ _ _ _ x3.toNat_lt x2.toNat_lt x1.toNat_lt x0.toNat_lt)
  go_enter Tryz.func157,Tryz.ntmps157
  go_wp2_with fail
  refine HL.out.mono ?_
  rintro e w' ⟨rfl,rfl⟩
  go_wp2_with fail
  refine wp_region_held_drew (S:=fun w'=>w'.cell? ⟨b,off,none⟩=some (B8 x0)∧w'.cell? ⟨b,off+1,none⟩=some (B8 x1)∧w'.cell? ⟨b,off+2,none⟩=some (B8 x2)∧w'.cell? ⟨b,off+3,none⟩=some (B8 x3)) (by kernel_rfl) ⟨k0,k1,k2,k3⟩ (fun hS=> ?_)
  refine tq 0 hS ?_
  refine tq 1 hS ?_
  refine tp 2 rfl (fun w hSw=>by obtain⟨j0,j1,j2,j3⟩:=hSw;go_simp;all_goals(with_reducible rfl)) hS ?_
  refine tq 3 hS ?_
  refine tq 4 hS ?_
  refine tq 5 hS ?_
  refine tp 6 rfl (fun w hSw=>by obtain⟨j0,j1,j2,j3⟩:=hSw;go_simp;all_goals(with_reducible rfl)) hS ?_
  refine tq 7 hS ?_
  refine tq 8 hS ?_
  refine tq 9 hS ?_
  refine tq 10 hS ?_
  refine tq 11 hS ?_
  refine tp 12 rfl (fun w hSw=>by obtain⟨j0,j1,j2,j3⟩:=hSw;go_simp;all_goals(with_reducible rfl)) hS ?_
  refine tq 13 hS ?_
  refine tq 14 hS ?_
  refine tq 15 hS ?_
  refine tq 16 hS ?_
  refine tq 17 hS ?_
  refine tp 18 rfl (fun w hSw=>by obtain⟨j0,j1,j2,j3⟩:=hSw;go_simp;all_goals(with_reducible rfl)) hS ?_
  refine tq 19 hS ?_
  refine tq 20 hS ?_
  refine tq 21 hS ?_
  refine tq 22 hS ?_
  refine wpAnyH_done (by kernel_rfl) ?_ _
  rw[HW.out]
  go_wp2_with fail
  go_ret
  exact⟨rfl,(Below.refl _ _).drew⟩
end Go.Proofs.YtgfpocdiojifoaaGreatDoor
