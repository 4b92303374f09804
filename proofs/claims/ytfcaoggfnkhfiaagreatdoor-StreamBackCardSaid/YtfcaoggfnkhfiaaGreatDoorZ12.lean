import Derived.Test.YtfcaoggfnkhfiaaGreatDoorZ11
namespace Go.Proofs.YtfcaoggfnkhfiaaGreatDoor
set_option maxRecDepth 100000
set_option maxHeartbeats 8000000
open Go.RowKit Go.Proofs.Tryz
section
abbrev rc(r:R4):List Value:=[.int .i64 r.1,.int .i64 r.2.1,.int .i64 r.2.2.1,.int .i64 r.2.2.2]
structure sR(w:World)(b5 b6 b8 b9 qd base:Nat)(F:Nat)(DA:Option Addr)(cd len tt:Nat)(r:R4)(L:List Sy)(v:Value)(W:World):Prop where
 below:Below w.heap.size w W
 f:aT b5 W (PF F)
 data:aT b6 W (.slice DA len cd)
 to_:aT b8 W (.int .i64 (tt:Nat))
 yJ:W.heap[b9]? =some (.cells (rc r).toArray 152 (0,0))
 res:W.heap[qd]? =some (.cells (rc (0,0,0,0)).toArray 152 (0,0))
 own:gx base W v L
 big:base≤W.heap.size
section
variable{w W W':World}{b5 b6 b8 b9 qd base F:Nat}{DA:Option Addr}{cd len tt:Nat}{r:R4}{L:List Sy}{v:Value}
theorem sR.step(h:sR w b5 b6 b8 b9 qd base F DA cd len tt r L v W)(hb:Below W.heap.size W W'):sR w b5 b6 b8 b9 qd base F DA cd len tt r L v W':=
 ⟨aM h.below hb,h.f.aA (hb.block _ h.f.lt),h.data.aA (hb.block _ h.data.lt),h.to_.aA (hb.block _ h.to_.lt),(hb.block _ (cr h.yJ)).trans h.yJ,(hb.block _ (cr h.res)).trans h.res,h.own.below hb,Nat.le_trans h.big hb.size⟩
theorem sR.append(h:sR w b5 b6 b8 b9 qd base F DA cd len tt r L v W)(aH:w.heap.size≤base∧b5<base∧b6<base∧b8<base∧b9<base∧qd<base)(hg:W.grownBy W' v.ownBlock){v':Value}{L':List Sy}(ho:gx base W' v' L'):sR w b5 b6 b8 b9 qd base F DA cd len tt r L' v' W':=by have k: ∀b,b<base→W'.heap[b]? =W.heap[b]? :=fun b hb=>hg.block b (Nat.lt_of_lt_of_le hb h.big) (fun e=>by have:=(h.own.lt b e.symm).1;omega);exact⟨ao h.below hg h.below.size (fun g e=>Nat.le_trans aH.1 (h.own.lt g e).1),h.f.aA (k _ aH.2.1),h.data.aA (k _ aH.2.2.1),h.to_.aA (k _ aH.2.2.2.1),(k _ aH.2.2.2.2.1).trans h.yJ,(k _ aH.2.2.2.2.2).trans h.res,ho,Nat.le_trans h.big hg.size⟩
theorem sR.cells(h:sR w b5 b6 b8 b9 qd base F DA cd len tt r L v W):W.cell? ⟨b5,0,none⟩=some (PF F)∧W.cell? ⟨b6,0,none⟩=some (.slice DA len cd)∧W.cell? ⟨b8,0,none⟩=some (.int .i64 (tt:Nat))∧
  (W.cell? ⟨b9,0,none⟩=some (.int .i64 r.1)∧W.cell? ⟨b9,1,none⟩=some (.int .i64 r.2.1)∧W.cell? ⟨b9,2,none⟩=some (.int .i64 r.2.2.1)∧W.cell? ⟨b9,3,none⟩=some (.int .i64 r.2.2.2))∧
  (W.cell? ⟨qd,0,none⟩=some (.int .i64 0)∧W.cell? ⟨qd,1,none⟩=some (.int .i64 0)∧W.cell? ⟨qd,2,none⟩=some (.int .i64 0)∧W.cell? ⟨qd,3,none⟩=some (.int .i64 0))∧
  (∀i,W.frozen? ⟨b9,i,none⟩=false)∧(∀i,W.frozen? ⟨qd,i,none⟩=false):=by
 refine⟨h.f.cell,h.data.cell,h.to_.cell,⟨?_,?_,?_,?_⟩,⟨?_,?_,?_,?_⟩,fun i=>frozen_of_row _ _ _ _ _ h.yJ,fun i=>frozen_of_row _ _ _ _ _ h.res⟩;·rw[cell_of_row W _ _ _ _ _ h.yJ];rfl
 ·rw[cell_of_row W _ _ _ _ _ h.yJ];rfl
 ·rw[cell_of_row W _ _ _ _ _ h.yJ];rfl
 ·rw[cell_of_row W _ _ _ _ _ h.yJ];rfl
 ·rw[cell_of_row W _ _ _ _ _ h.res];rfl
 ·rw[cell_of_row W _ _ _ _ _ h.res];rfl
 ·rw[cell_of_row W _ _ _ _ _ h.res];rfl
 ·rw[cell_of_row W _ _ _ _ _ h.res];rfl
theorem sR.store(h:sR w b5 b6 b8 b9 qd base F DA cd len tt r L v W)(aH:w.heap.size≤b9∧b9<base)(dH:b5≠b9∧b6≠b9∧b8≠b9∧qd≠b9)(q:R4):
  sR w b5 b6 b8 b9 qd base F DA cd len tt q L v ((((W.setCell ⟨b9,0,none⟩ (.int .i64 q.1)).setCell ⟨b9,1,none⟩ (.int .i64 q.2.1)).setCell ⟨b9,2,none⟩ (.int .i64 q.2.2.1)).setCell ⟨b9,3,none⟩ (.int .i64 q.2.2.2)):=by
 have k: ∀b,b≠b9→((((W.setCell ⟨b9,0,none⟩ (.int .i64 q.1)).setCell ⟨b9,1,none⟩ (.int .i64 q.2.1)).setCell ⟨b9,2,none⟩ (.int .i64 q.2.2.1)).setCell ⟨b9,3,none⟩ (.int .i64 q.2.2.2)).heap[b]? =W.heap[b]? :=fun b hb=>by rw[ah _ _ _ _ hb,ah _ _ _ _ hb,ah _ _ _ _ hb,ah _ _ _ _ hb]
 refine⟨(((h.below.setCell (p:=⟨b9,0,none⟩) aH.1 _).setCell (p:=⟨b9,1,none⟩) aH.1 _).setCell (p:=⟨b9,2,none⟩) aH.1 _).setCell (p:=⟨b9,3,none⟩) aH.1 _,h.f.aA (k _ dH.1),h.data.aA (k _ dH.2.1),h.to_.aA (k _ dH.2.2.1),heap_set (heap_set (heap_set (heap_set h.yJ 0 _) 1 _) 2 _) 3 _,(k _ dH.2.2.2).trans h.res,h.own.aA fun g hg=>k g (by have:=(h.own.lt g hg).1;omega),?_⟩;have:=h.big;simpa [World.setCell]using this
end
def Gb(L:List Sy)(r:R4)(w:World)(e:Ending)(w':World):Prop:= ∃v,e= .returned (.tuple #[v,r.val,.int .i64 0])∧gx w.heap.size w' v L∧Below w.heap.size w w'
theorem abh{w W:World}{v0 v1 v2:Value}{t0 t1 t2 t3:TypeId}{r:R4}(hW:((((w.alloc (.cells #[v0] t0)).alloc (.cells #[v1] t1)).alloc (.cells #[v2] t2)).alloc (.cells #[.int .i64 r.1,.int .i64 r.2.1,.int .i64 r.2.2.1,.int .i64 r.2.2.2] t3)).alloc (.cells #[.int .i64 0,.int .i64 0,.int .i64 0,.int .i64 0] t3)=W):
  Below w.heap.size w W∧aT w.heap.size W v0∧aT (w.heap.size+1) W v1∧aT (w.heap.size+1+1) W v2∧W.heap[w.heap.size+1+1+1]? =some (.cells (rc r).toArray t3 (0,0))∧W.heap[w.heap.size+1+1+1+1]? =some (.cells (rc (0,0,0,0)).toArray t3 (0,0))∧W.heap.size=w.heap.size+1+1+1+1+1:=by
 subst hW;have up: ∀{b:Nat} {W:World} {o':Obj} (o:Obj),W.heap[b]? =some o'→(W.alloc o).heap[b]? =some o':=fun o h=>(Below.heap_alloc _ _ _ (cr h)).trans h;have XO: ∀{b:Nat} {W:World} {v:Value} (o:Obj),aT b W v→aT b (W.alloc o) v:=fun o h=>h.aA (Below.heap_alloc _ _ _ h.lt);have mk: ∀(W:World) (v:Value) (t:TypeId) (b:Nat),b=W.heap.size→aT b (W.alloc (.cells #[v] t)) v:=fun W v t b e=>by subst e;exact aT.made W v t
 have VY: ∀(W:World) (o:Obj) (b:Nat),b=W.heap.size→(W.alloc o).heap[b]? =some o:=fun W o b e=>C8;refine⟨?_,XO _ (XO _ (XO _ (XO _ (mk _ _ _ _ rfl)))),XO _ (XO _ (XO _ (mk _ _ _ _ ag))),XO _ (XO _ (mk _ _ _ _ ag)),up _ (VY _ _ _ ag),VY _ _ _ ag,ag⟩;refine Below.alloc ?_ av _;refine Below.alloc ?_ av _;refine Below.alloc ?_ av _;refine Below.alloc ?_ ag _;exact ar
theorem Gc(F:Nat)(A DA:Option Addr)(cF cd:Nat)(D:List UInt8)(dict nice:Int)(mp B:Nat)(p0 tt:Nat)(r:R4)(w:World)
  (hR:pf w F A cF D dict nice mp B) (hD:Bytes w DA D) (BN:D.length≤cd) (hp:p0≤tt) (XN:tt≤D.length):
  Calls prog 149 #[PF F,.slice DA D.length cd,.int .i64 (p0:Nat),.int .i64 (tt:Nat),r.val] w (Gb (aV D dict nice tt (tt-p0) p0 r).1 (aV D dict nice tt (tt-p0) p0 r).2 w):=by
 have LZ:=hR.at_.small;have AU:(p0:Int)≤(tt:Int):=aa;have hti:(tt:Int)≤(D.length:Int):=aa;have hdi:(D.length:Int)≤100000:=aa;have Sl:(D.length:Int)≤(cd:Int):=aa;obtain⟨⟨LS,rS⟩,hS⟩: ∃q,aV D dict nice tt (tt-p0) p0 r=q:=⟨_,rfl⟩
 rw[hS];have HS:=ae hS;have HR:=ae hR;have HD:=ae hD;have HCD:=ae BN;have HP:=ae hp;clear hR hD BN hp hS LZ;go_enter func149,ntmps149;go_upto_region 1 with fail;generalize hW:((((w.alloc _).alloc _).alloc _).alloc _).alloc _=W;obtain⟨hb,x5,x6,x8,x9,x11,dl⟩:=abh hW
 have hI:sR w w.heap.size (w.heap.size+1) (w.heap.size+1+1) (w.heap.size+1+1+1) (w.heap.size+1+1+1+1) (w.heap.size+1+1+1+1+1) F DA cd D.length tt r [] (.slice none 0 0) W:=
  ⟨hb,x5,x6,x8,x9,x11,gx.nil _ _,by rw[dl];exact Nat.le_refl _⟩
 have JE:w.heap.size≤w.heap.size+1+1+1+1+1∧w.heap.size<w.heap.size+1+1+1+1+1∧w.heap.size+1<w.heap.size+1+1+1+1+1∧w.heap.size+1+1<w.heap.size+1+1+1+1+1∧w.heap.size+1+1+1<w.heap.size+1+1+1+1+1∧w.heap.size+1+1+1+1<w.heap.size+1+1+1+1+1:=aa;have dH:(w.heap.size≠w.heap.size+1+1+1∧w.heap.size+1≠w.heap.size+1+1+1∧w.heap.size+1+1≠w.heap.size+1+1+1∧w.heap.size+1+1+1+1≠w.heap.size+1+1+1)∧w.heap.size≤w.heap.size+1+1+1∧w.heap.size≤w.heap.size+1+1+1+1:=aa;clear hb x5 x6 x8 x9 x11 dl hW;obtain⟨base,e0⟩: ∃b,w.heap.size+1+1+1+1+1=b:=⟨_,rfl⟩
 obtain⟨qd,e1⟩: ∃b,w.heap.size+1+1+1+1=b:=⟨_,rfl⟩
 obtain⟨b9,e2⟩: ∃b,w.heap.size+1+1+1=b:=⟨_,rfl⟩
 obtain⟨b8,e3⟩: ∃b,w.heap.size+1+1=b:=⟨_,rfl⟩
 obtain⟨b6,e4⟩: ∃b,w.heap.size+1=b:=⟨_,rfl⟩
 rw[e0]at hI JE;rw[e1]at hI JE dH ⊢;rw[e2]at hI JE dH ⊢;rw[e3]at hI JE dH ⊢;rw[e4]at hI JE dH ⊢;clear e0 e1 e2 e3 e4;obtain⟨b5,e5⟩: ∃b,w.heap.size=b:=⟨_,rfl⟩
 have hI5:sR w b5 b6 b8 b9 qd base F DA cd D.length tt r [] (.slice none 0 0) W:=by rw[←e5];exact hI
 have T':w.heap.size≤base∧b5<base∧b6<base∧b8<base∧b9<base∧qd<base:=by rw[←e5];exact JE
 have Sz:(b5≠b9∧b6≠b9∧b8≠b9∧qd≠b9)∧w.heap.size≤b9∧w.heap.size≤qd:=by rw[←e5];exact dH
 have HB:Hid (∀(W':World) (o:Nat),w.heap.size≤o→gx base W' (.slice none 0 0) []):=ae (fun _ _ _=>gx.nil _ _);rw[e5];have JF:=ae T';have DP:=ae Sz;have HI:=ae hI5;have H5:=ae e5;clear hI JE dH T' Sz e5 hI5 HB;obtain⟨c5,c6,c8,⟨c90,c91,c92,c93⟩,_,_,_⟩:=HI.out.cells;have e00:decide ((p0:Int)<0)=false:=decide_eq_false aa;have e03:decide (tt<p0)=false:=decide_eq_false aa;have e04:decide (D.length<tt)=false:=decide_eq_false aa;have e01:decide ((tt:Int)<(p0:Int))=false:=decide_eq_false aa;have e02:decide ((D.length:Int)<(tt:Int))=false:=decide_eq_false aa;go_wp2_with fail;go_loopw [14,15] (fun v i wr=> ∃(p:Nat) (r':R4) (L:List Sy) (vv:Value),vv=v∧i= .int .i64 (p:Nat)∧Hid (sR w b5 b6 b8 b9 qd base F DA cd D.length tt r' L vv wr)∧Hid ((LS,rS)=(L++(aV D dict nice tt (tt-p) p r').1,(aV D dict nice tt (tt-p) p r').2))∧p≤300000∧L.length≤p) (fun _ i _=>tt-(intOf i).toNat);case atStart=>exact⟨p0,r,[],_,rfl,rfl,HI,ae (by rw[List.nil_append];exact HS.out.symm),aa,Nat.zero_le _⟩
 case round=>
  obtain⟨p,r',L,v,rfl,rfl,NF,HSR,vo,hLp⟩:=hrel;clear c5 c6 c8 c90 c91 c92 c93;obtain⟨c5,c6,c8,⟨c90,c91,c92,c93⟩,_,_,_⟩:=NF.out.cells;by_cases hpt:p<tt
  ·have amC:(p:Int)<(tt:Int):=(by omega);have⟨S,hSd⟩:=ex (im D dict nice tt p r');have hkr:S.k≤2∧S.r≤3:=(by rw[←hSd];exact ND _ _ _ _ _ _ _ _ _);have hl:S.l≤273+D.length:=(by rw[←hSd];exact NE _ _ _ _ _ _ _ _ _);have hRr:=HR.out.below NF.out.below;have hDr:=HD.out.below NF.out.below;have EV:Hid (Calls prog 189 #[.int .i64 (p:Nat),PF b8,PF b5,PF b9,PF b6] wr (yE S wr)):=ae (by
    rw[←hSd];exact DX b8 b5 b9 b6 F A DA cF cd D dict nice mp B p tt _ _ _ _ wr hRr hDr HCD.out NF.out.to_ NF.out.f NF.out.yJ NF.out.data hpt aa)
   have HSS:Hid (aV D dict nice tt (tt-p) p r'=(S::(aV D dict nice tt (tt-(p+max S.l 1)) (p+max S.l 1) (ek S r')).1,(aV D dict nice tt (tt-(p+max S.l 1)) (p+max S.l 1) (ek S r')).2)):=ae (by rw[pg hpt,hSd]);have HKR:=ae hkr;have qw:(S.l:Int)≤200000:=aa;have hLl:=hLp;clear hRr hDr hSd hkr HR HD;go_wp2_with fail;refine EV.out.mono ?_;rintro e w1 ⟨rfl,az⟩;have a7:=ae az;clear az;go_upto_region 8 with fail;have⟨W2,mc⟩:=ex (w1.alloc (.cells #[.int .i64 (S.k:Nat),.int .u8 (S.b.toNat:Nat),.int .i64 (S.l:Nat),.int .i64 (S.d:Nat),.int .i64 (S.r:Nat)] 183));rw[mc];have kL:W2.heap[w1.heap.size]? =some (.cells (cE [S]).toArray 183 (0,0)):=C5;have aD:Below wr.heap.size wr W2:=(by rw[←mc];exact a7.out.alloc a7.out.size _);have⟨W3,mT⟩:=ex (W2.alloc (.cells #[.int .i64 (S.k:Nat),.int .u8 (S.b.toNat:Nat),.int .i64 (S.l:Nat),.int .i64 (S.d:Nat),.int .i64 (S.r:Nat)] 183));have nX:W3.heap[W2.heap.size]? =some (.cells (cE [S]).toArray 183 (0,0)):=(by rw[←mT];exact heap_alloc_last _ _);have bA:Below wr.heap.size wr W3:=(by rw[←mT];exact aD.alloc aD.size _);have oM:w1.heap.size<W2.heap.size:=(cr kL)
   have SA:W3.heap[w1.heap.size]? =some (.cells (cE [S]).toArray 183 (0,0)):=(by rw[←mT];exact(Below.heap_alloc _ _ _ oM).trans kL);have hI3:=NF.out.step bA;have IP: ∀g,v.ownBlock=some g→g<w1.heap.size:=fun g e=>Nat.lt_of_lt_of_le (NF.out.own.lt g e).2 a7.out.size;have y0:W2.cell? ⟨w1.heap.size,0,none⟩=some (.int .i64 (S.k:Nat)):=t6;have y1:W2.cell? ⟨w1.heap.size,1,none⟩=some (.int .u8 (S.b.toNat:Nat)):=t6;have y2:W2.cell? ⟨w1.heap.size,2,none⟩=some (.int .i64 (S.l:Nat)):=t6;have y3:W2.cell? ⟨w1.heap.size,3,none⟩=some (.int .i64 (S.d:Nat)):=t6;have y4:W2.cell? ⟨w1.heap.size,4,none⟩=some (.int .i64 (S.r:Nat)):=t6;have Nz:=ae mT;have HI3:=ae hI3;have RP:=ae nX;have afS:=ae SA;have amE:=ae IP;have abi:=ae oM;have hLm:L.length≤1000000:=aa;have HLM:=ae hLm;clear mc kL aD mT nX bA oM SA hI3 IP hLm c5 c6 c8 c90 c91 c92 c93;go_wp2_with (at_builtin;rw[Nz.out];refine uc rfl (.tmp 43) (.tmp 45) rfl base W3 v L rfl HI3.out.own W2.heap.size 1 S rfl RP.out HLM.out HI3.out.big ?_;intro v' w4 Fm et;have WW:=ae (And.intro Fm et);have hI4:=HI3.out.append JF.out et Fm;have vj:=(et.block w1.heap.size (cr afS.out) (fun e=>am (amE.out _ e.symm))).trans afS.out;have HI4:=ae hI4;have JG:=ae vj;obtain⟨_,_,_,⟨d0,d1,d2,d3⟩,_,_,_⟩:=hI4.cells;have s0:w4.cell? ⟨w1.heap.size,0,none⟩=some (.int .i64 (S.k:Nat)):=xD;have s1:w4.cell? ⟨w1.heap.size,1,none⟩=some (.int .u8 (S.b.toNat:Nat)):=xD;have s2:w4.cell? ⟨w1.heap.size,2,none⟩=some (.int .i64 (S.l:Nat)):=xD;have s3:w4.cell? ⟨w1.heap.size,3,none⟩=some (.int .i64 (S.d:Nat)):=xD;have s4:w4.cell? ⟨w1.heap.size,4,none⟩=some (.int .i64 (S.r:Nat)):=xD;clear Fm et hI4 vj y0 y1 y2 y3 y4)
   refine(NC S HKR.out.1 HKR.out.2 r' w4).mono ?_;rintro e w5 ⟨rfl,eu⟩;have hI5:=HI4.out.step eu;obtain⟨_,_,_,⟨q0,q1,q2,q3⟩,_,qf,_⟩:=hI5.cells;have yz:=(eu.block _ (cr JG.out)).trans JG.out;have u2:w5.cell? ⟨w1.heap.size,2,none⟩=some (.int .i64 (S.l:Nat)):=(by rw[cell_of_row w5 _ _ _ _ _ yz];rfl);have HI6:=ae (hI5.store ⟨DP.out.2.1,JF.out.2.2.2.2.1⟩ DP.out.1 (ek S r'));have SB:b9≠w1.heap.size∧w1.heap.size≠b9:=(by have h1:b9<w1.heap.size:=Nat.lt_of_lt_of_le (cr NF.out.yJ) a7.out.size;omega);obtain⟨nb1,nb2⟩:=SB;have qf0:=qf 0;have qf1:=qf 1;have qf2:=qf 2;have qf3:=qf 3;clear eu hI5 yz d0 d1 d2 d3 s0 s1 s2 s3 s4 qf;have amG:Hid ((LS,rS)=((L++[S])++(aV D dict nice tt (tt-(p+max S.l 1)) (p+max S.l 1) (ek S r')).1,(aV D dict nice tt (tt-(p+max S.l 1)) (p+max S.l 1) (ek S r')).2)):=ae (by
    rw[HSR.out,HSS.out];simp)
   go_wp2_with fail;exact⟨⟨p+max S.l 1,ek S r',L++[S],_,rfl,by congr 1;omega,HI6,amG,aa,by rw[List.length_append,List.length_singleton];omega⟩,jb⟩
  ·have amC: ¬(p:Int)<(tt:Int):=(by omega);have HE:Hid (LS=L∧rS=r'):=ae (by
    have:=HSR.out;rw[yH hpt]at this;simpa using this)
   obtain⟨_,_,_,_,⟨n0,n1,n2,n3⟩,_,nf⟩:=NF.out.cells;have nf0:=nf 0;have nf1:=nf 1;have nf2:=nf 2;have nf3:=nf 3;clear nf;go_wp2_with fail;go_region;all_goals go_wp2_with fail
   have ho:gx base ((((wr.setCell ⟨qd,0,none⟩ (.int .i64 r'.1)).setCell ⟨qd,1,none⟩ (.int .i64 r'.2.1)).setCell ⟨qd,2,none⟩ (.int .i64 r'.2.2.1)).setCell ⟨qd,3,none⟩ (.int .i64 r'.2.2.2)) v L:=
    (((NF.out.own.set (p:=⟨qd,0,none⟩) JF.out.2.2.2.2.2 _).set (p:=⟨qd,1,none⟩) JF.out.2.2.2.2.2 _).set (p:=⟨qd,2,none⟩) JF.out.2.2.2.2.2 _).set (p:=⟨qd,3,none⟩) JF.out.2.2.2.2.2 _
   have gZ:=(((NF.out.below.setCell (p:=⟨qd,0,none⟩) DP.out.2.2 (.int .i64 r'.1)).setCell (p:=⟨qd,1,none⟩) DP.out.2.2 (.int .i64 r'.2.1)).setCell (p:=⟨qd,2,none⟩) DP.out.2.2 (.int .i64 r'.2.2.1)).setCell (p:=⟨qd,3,none⟩) DP.out.2.2 (.int .i64 r'.2.2.2);refine bodyPost_ret (v:= .tuple #[v,r'.val,.int .i64 0]) (by simp[results,results149,go_sem,n0,n1,n2,n3]) rfl ⟨v,by rw[HE.out.2],?_,?_⟩;·rw[HE.out.1];exact ho.weaken JF.out.1
   ·exact⟨gZ.os,gZ.tape,gZ.output,gZ.size,gZ.block⟩
end
end Go.Proofs.YtfcaoggfnkhfiaaGreatDoor
