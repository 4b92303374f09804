import Derived.Test.YtgfpocdiojifoaaGreatDoorZ10
namespace Go.Proofs.YtgfpocdiojifoaaGreatDoor
set_option maxRecDepth 100000
set_option maxHeartbeats 8000000
open Go.RowKit Go.Proofs.Tryz
section
abbrev rc(r:R4):List Value:=[.int .i64 r.1,.int .i64 r.2.1,.int .i64 r.2.2.1,.int .i64 r.2.2.2]
structure rV(w:World)(b5 b6 b8 b9 o0 base:Nat)(F:Nat)(DA:Option Addr)(cd len tt:Nat)(r:R4)(L:List Sy)(v:Value)(W:World):Prop where
 below:Below w.heap.size w W
 f:aQ b5 W (PF F)
 data:aQ b6 W (.slice DA len cd)
 to_:aQ b8 W (.int .i64 (tt:Nat))
 fh:W.heap[b9]? =some (.cells (rc r).toArray 127 (0,0))
 res:W.heap[o0]? =some (.cells (rc (0,0,0,0)).toArray 127 (0,0))
 own:ev base W v L
 big:base≤W.heap.size
section
variable{w W W':World}{b5 b6 b8 b9 o0 base F:Nat}{DA:Option Addr}{cd len tt:Nat}{r:R4}{L:List Sy}{v:Value}
theorem rV.step(h:rV w b5 b6 b8 b9 o0 base F DA cd len tt r L v W)(hb:Below W.heap.size W W'):rV w b5 b6 b8 b9 o0 base F DA cd len tt r L v W':=
 ⟨aO h.below hb,h.f.aI (hb.block _ h.f.lt),h.data.aI (hb.block _ h.data.lt),h.to_.aI (hb.block _ h.to_.lt),(hb.block _ (cr h.fh)).trans h.fh,(hb.block _ (cr h.res)).trans h.res,h.own.below hb,Nat.le_trans h.big hb.size⟩
theorem rV.append(h:rV w b5 b6 b8 b9 o0 base F DA cd len tt r L v W)(aF:w.heap.size≤base∧b5<base∧b6<base∧b8<base∧b9<base∧o0<base)(hg:W.grownBy W' v.ownBlock){v':Value}{L':List Sy}(ho:ev base W' v' L'):rV w b5 b6 b8 b9 o0 base F DA cd len tt r L' v' W':=by have k: ∀b,b<base→W'.heap[b]? =W.heap[b]? :=fun b hb=>hg.block b (Nat.lt_of_lt_of_le hb h.big) (fun e=>by have:=(h.own.lt b e.symm).1;omega);exact⟨am h.below hg h.below.size (fun g e=>Nat.le_trans aF.1 (h.own.lt g e).1),h.f.aI (k _ aF.2.1),h.data.aI (k _ aF.2.2.1),h.to_.aI (k _ aF.2.2.2.1),(k _ aF.2.2.2.2.1).trans h.fh,(k _ aF.2.2.2.2.2).trans h.res,ho,Nat.le_trans h.big hg.size⟩
theorem rV.cells(h:rV w b5 b6 b8 b9 o0 base F DA cd len tt r L v W):W.cell? ⟨b5,0,none⟩=some (PF F)∧W.cell? ⟨b6,0,none⟩=some (.slice DA len cd)∧W.cell? ⟨b8,0,none⟩=some (.int .i64 (tt:Nat))∧
  (W.cell? ⟨b9,0,none⟩=some (.int .i64 r.1)∧W.cell? ⟨b9,1,none⟩=some (.int .i64 r.2.1)∧W.cell? ⟨b9,2,none⟩=some (.int .i64 r.2.2.1)∧W.cell? ⟨b9,3,none⟩=some (.int .i64 r.2.2.2))∧
  (W.cell? ⟨o0,0,none⟩=some (.int .i64 0)∧W.cell? ⟨o0,1,none⟩=some (.int .i64 0)∧W.cell? ⟨o0,2,none⟩=some (.int .i64 0)∧W.cell? ⟨o0,3,none⟩=some (.int .i64 0))∧
  (∀i,W.frozen? ⟨b9,i,none⟩=false)∧(∀i,W.frozen? ⟨o0,i,none⟩=false):=by
 refine⟨h.f.cell,h.data.cell,h.to_.cell,⟨?_,?_,?_,?_⟩,⟨?_,?_,?_,?_⟩,fun i=>frozen_of_row _ _ _ _ _ h.fh,fun i=>frozen_of_row _ _ _ _ _ h.res⟩;·rw[cell_of_row W _ _ _ _ _ h.fh];rfl
 ·rw[cell_of_row W _ _ _ _ _ h.fh];rfl
 ·rw[cell_of_row W _ _ _ _ _ h.fh];rfl
 ·rw[cell_of_row W _ _ _ _ _ h.fh];rfl
 ·rw[cell_of_row W _ _ _ _ _ h.res];rfl
 ·rw[cell_of_row W _ _ _ _ _ h.res];rfl
 ·rw[cell_of_row W _ _ _ _ _ h.res];rfl
 ·rw[cell_of_row W _ _ _ _ _ h.res];rfl
theorem rV.store(h:rV w b5 b6 b8 b9 o0 base F DA cd len tt r L v W)(aF:w.heap.size≤b9∧b9<base)(dr:b5≠b9∧b6≠b9∧b8≠b9∧o0≠b9)(q:R4):
  rV w b5 b6 b8 b9 o0 base F DA cd len tt q L v ((((W.setCell ⟨b9,0,none⟩ (.int .i64 q.1)).setCell ⟨b9,1,none⟩ (.int .i64 q.2.1)).setCell ⟨b9,2,none⟩ (.int .i64 q.2.2.1)).setCell ⟨b9,3,none⟩ (.int .i64 q.2.2.2)):=by
 have k: ∀b,b≠b9→((((W.setCell ⟨b9,0,none⟩ (.int .i64 q.1)).setCell ⟨b9,1,none⟩ (.int .i64 q.2.1)).setCell ⟨b9,2,none⟩ (.int .i64 q.2.2.1)).setCell ⟨b9,3,none⟩ (.int .i64 q.2.2.2)).heap[b]? =W.heap[b]? :=fun b hb=>by rw[ag _ _ _ _ hb,ag _ _ _ _ hb,ag _ _ _ _ hb,ag _ _ _ _ hb]
 refine⟨(((h.below.setCell (p:=⟨b9,0,none⟩) aF.1 _).setCell (p:=⟨b9,1,none⟩) aF.1 _).setCell (p:=⟨b9,2,none⟩) aF.1 _).setCell (p:=⟨b9,3,none⟩) aF.1 _,h.f.aI (k _ dr.1),h.data.aI (k _ dr.2.1),h.to_.aI (k _ dr.2.2.1),heap_set (heap_set (heap_set (heap_set h.fh 0 _) 1 _) 2 _) 3 _,(k _ dr.2.2.2).trans h.res,h.own.aI fun g hg=>k g (by have:=(h.own.lt g hg).1;omega),?_⟩;have:=h.big;simpa [World.setCell]using this
end
def Et(L:List Sy)(r:R4)(w:World)(e:Ending)(w':World):Prop:= ∃v,e= .returned (.tuple #[v,r.val,.int .i64 0])∧ev w.heap.size w' v L∧Below w.heap.size w w'
theorem ZY{w W:World}{v0 v1 v2:Value}{t0 t1 t2 t3:TypeId}{r:R4}(hW:((((w.alloc (.cells #[v0] t0)).alloc (.cells #[v1] t1)).alloc (.cells #[v2] t2)).alloc (.cells #[.int .i64 r.1,.int .i64 r.2.1,.int .i64 r.2.2.1,.int .i64 r.2.2.2] t3)).alloc (.cells #[.int .i64 0,.int .i64 0,.int .i64 0,.int .i64 0] t3)=W):
  Below w.heap.size w W∧aQ w.heap.size W v0∧aQ (w.heap.size+1) W v1∧aQ (w.heap.size+1+1) W v2∧W.heap[w.heap.size+1+1+1]? =some (.cells (rc r).toArray t3 (0,0))∧W.heap[w.heap.size+1+1+1+1]? =some (.cells (rc (0,0,0,0)).toArray t3 (0,0))∧W.heap.size=w.heap.size+1+1+1+1+1:=by
 subst hW;have up: ∀{b:Nat} {W:World} {o':Obj} (o:Obj),W.heap[b]? =some o'→(W.alloc o).heap[b]? =some o':=fun o h=>(Below.heap_alloc _ _ _ (cr h)).trans h;have Vf: ∀{b:Nat} {W:World} {v:Value} (o:Obj),aQ b W v→aQ b (W.alloc o) v:=fun o h=>h.aI (Below.heap_alloc _ _ _ h.lt);have mk: ∀(W:World) (v:Value) (t:TypeId) (b:Nat),b=W.heap.size→aQ b (W.alloc (.cells #[v] t)) v:=fun W v t b e=>by subst e;exact aQ.made W v t
 have mk2: ∀(W:World) (o:Obj) (b:Nat),b=W.heap.size→(W.alloc o).heap[b]? =some o:=fun W o b e=>Gg;refine⟨?_,Vf _ (Vf _ (Vf _ (Vf _ (mk _ _ _ _ rfl)))),Vf _ (Vf _ (Vf _ (mk _ _ _ _ ae))),Vf _ (Vf _ (mk _ _ _ _ ae)),up _ (mk2 _ _ _ ae),mk2 _ _ _ ae,ae⟩;refine Below.alloc ?_ av _;refine Below.alloc ?_ av _;refine Below.alloc ?_ av _;refine Below.alloc ?_ ae _;exact ap
theorem Eu(F:Nat)(A DA:Option Addr)(cF cd:Nat)(D:List UInt8)(dict nice:Int)(mp B:Nat)(p0 tt:Nat)(r:R4)(w:World)
  (hR:nV w F A cF D dict nice mp B) (hD:Bytes w DA D) (zj:D.length≤cd) (hp:p0≤tt) (Hg:tt≤D.length):
  Calls prog 121 #[PF F,.slice DA D.length cd,.int .i64 (p0:Nat),.int .i64 (tt:Nat),r.val] w (Et (ba D dict nice tt (tt-p0) p0 r).1 (ba D dict nice tt (tt-p0) p0 r).2 w):=by
 have TD:=hR.at_.small;have rz:(p0:Int)≤(tt:Int):=aa;have hti:(tt:Int)≤(D.length:Int):=aa;have G9:(D.length:Int)≤100000:=aa;have BT:(D.length:Int)≤(cd:Int):=aa;obtain⟨⟨LS,rS⟩,hS⟩: ∃q,ba D dict nice tt (tt-p0) p0 r=q:=⟨_,rfl⟩
 rw[hS];have HS:=hdd hS;have HR:=hdd hR;have HD:=hdd hD;have ZZ:=hdd zj;have HP:=hdd hp;clear hR hD zj hp hS TD;go_enter func121,ntmps121;go_upto_region 1 with fail;generalize hW:((((w.alloc _).alloc _).alloc _).alloc _).alloc _=W;obtain⟨hb,x5,x6,x8,x9,x11,dJ⟩:=ZY hW
 have hI:rV w w.heap.size (w.heap.size+1) (w.heap.size+1+1) (w.heap.size+1+1+1) (w.heap.size+1+1+1+1) (w.heap.size+1+1+1+1+1) F DA cd D.length tt r [] (.slice none 0 0) W:=
  ⟨hb,x5,x6,x8,x9,x11,ev.nil _ _,by rw[dJ];exact Nat.le_refl _⟩
 have Hh:w.heap.size≤w.heap.size+1+1+1+1+1∧w.heap.size<w.heap.size+1+1+1+1+1∧w.heap.size+1<w.heap.size+1+1+1+1+1∧w.heap.size+1+1<w.heap.size+1+1+1+1+1∧w.heap.size+1+1+1<w.heap.size+1+1+1+1+1∧w.heap.size+1+1+1+1<w.heap.size+1+1+1+1+1:=aa;have dr:(w.heap.size≠w.heap.size+1+1+1∧w.heap.size+1≠w.heap.size+1+1+1∧w.heap.size+1+1≠w.heap.size+1+1+1∧w.heap.size+1+1+1+1≠w.heap.size+1+1+1)∧w.heap.size≤w.heap.size+1+1+1∧w.heap.size≤w.heap.size+1+1+1+1:=aa;clear hb x5 x6 x8 x9 x11 dJ hW;obtain⟨base,e0⟩: ∃b,w.heap.size+1+1+1+1+1=b:=⟨_,rfl⟩
 obtain⟨o0,e1⟩: ∃b,w.heap.size+1+1+1+1=b:=⟨_,rfl⟩
 obtain⟨b9,e2⟩: ∃b,w.heap.size+1+1+1=b:=⟨_,rfl⟩
 obtain⟨b8,e3⟩: ∃b,w.heap.size+1+1=b:=⟨_,rfl⟩
 obtain⟨b6,e4⟩: ∃b,w.heap.size+1=b:=⟨_,rfl⟩
 rw[e0]at hI Hh;rw[e1]at hI Hh dr ⊢;rw[e2]at hI Hh dr ⊢;rw[e3]at hI Hh dr ⊢;rw[e4]at hI Hh dr ⊢;clear e0 e1 e2 e3 e4;obtain⟨b5,e5⟩: ∃b,w.heap.size=b:=⟨_,rfl⟩
 have hI5:rV w b5 b6 b8 b9 o0 base F DA cd D.length tt r [] (.slice none 0 0) W:=by rw[←e5];exact hI
 have XK:w.heap.size≤base∧b5<base∧b6<base∧b8<base∧b9<base∧o0<base:=by rw[←e5];exact Hh
 have Ev:(b5≠b9∧b6≠b9∧b8≠b9∧o0≠b9)∧w.heap.size≤b9∧w.heap.size≤o0:=by rw[←e5];exact dr
 have HB:Hid (∀(W':World) (o:Nat),w.heap.size≤o→ev base W' (.slice none 0 0) []):=hdd (fun _ _ _=>ev.nil _ _);rw[e5];have Hi:=hdd XK;have Dc:=hdd Ev;have HI:=hdd hI5;have H5:=hdd e5;clear hI Hh dr XK Ev e5 hI5 HB;obtain⟨c5,c6,c8,⟨c90,c91,c92,c93⟩,_,_,_⟩:=HI.out.cells;have e00:decide ((p0:Int)<0)=false:=decide_eq_false aa;have e03:decide (tt<p0)=false:=decide_eq_false aa;have e04:decide (D.length<tt)=false:=decide_eq_false aa;have e01:decide ((tt:Int)<(p0:Int))=false:=decide_eq_false aa;have e02:decide ((D.length:Int)<(tt:Int))=false:=decide_eq_false aa;go_wp2_with fail;go_loopw [14,15] (fun v i wr=> ∃(p:Nat) (r':R4) (L:List Sy) (vv:Value),vv=v∧i= .int .i64 (p:Nat)∧Hid (rV w b5 b6 b8 b9 o0 base F DA cd D.length tt r' L vv wr)∧Hid ((LS,rS)=(L++(ba D dict nice tt (tt-p) p r').1,(ba D dict nice tt (tt-p) p r').2))∧p≤300000∧L.length≤p) (fun _ i _=>tt-(intOf i).toNat);case atStart=>exact⟨p0,r,[],_,rfl,rfl,HI,hdd (by rw[List.nil_append];exact HS.out.symm),aa,Nat.zero_le _⟩
 case round=>
  obtain⟨p,r',L,v,rfl,rfl,LG,HSR,oO,hLp⟩:=hrel;clear c5 c6 c8 c90 c91 c92 c93;obtain⟨c5,c6,c8,⟨c90,c91,c92,c93⟩,_,_,_⟩:=LG.out.cells;by_cases hpt:p<tt
  ·have ake:(p:Int)<(tt:Int):=(by omega);have⟨S,hSd⟩:=ex (fe D dict nice tt p r');have hkr:S.k≤2∧S.r≤3:=(by rw[←hSd];exact LE _ _ _ _ _ _ _ _ _);have hl:S.l≤273+D.length:=(by rw[←hSd];exact LF _ _ _ _ _ _ _ _ _);have hRr:=HR.out.below LG.out.below;have hDr:=HD.out.below LG.out.below;have C1:Hid (Calls prog 158 #[.int .i64 (p:Nat),PF b8,PF b5,PF b9,PF b6] wr (ql S wr)):=hdd (by
    rw[←hSd];exact BU b8 b5 b9 b6 F A DA cF cd D dict nice mp B p tt _ _ _ _ wr hRr hDr ZZ.out LG.out.to_ LG.out.f LG.out.fh LG.out.data hpt aa)
   have HSS:Hid (ba D dict nice tt (tt-p) p r'=(S::(ba D dict nice tt (tt-(p+max S.l 1)) (p+max S.l 1) (du S r')).1,(ba D dict nice tt (tt-(p+max S.l 1)) (p+max S.l 1) (du S r')).2)):=hdd (by rw[gJ hpt,hSd]);have HKR:=hdd hkr;have sQ:(S.l:Int)≤200000:=aa;have hLl:=hLp;clear hRr hDr hSd hkr HR HD;go_wp2_with fail;refine C1.out.mono ?_;rintro e w1 ⟨rfl,aC⟩;have cu:=hdd aC;clear aC;go_upto_region 8 with fail;have⟨W2,jT⟩:=ex (w1.alloc (.cells #[.int .i64 (S.k:Nat),.int .u8 (S.b.toNat:Nat),.int .i64 (S.l:Nat),.int .i64 (S.d:Nat),.int .i64 (S.r:Nat)] 158));rw[jT];have iD:W2.heap[w1.heap.size]? =some (.cells (bB [S]).toArray 158 (0,0)):=vM;have aE:Below wr.heap.size wr W2:=(by rw[←jT];exact cu.out.alloc cu.out.size _);have⟨W3,jD⟩:=ex (W2.alloc (.cells #[.int .i64 (S.k:Nat),.int .u8 (S.b.toNat:Nat),.int .i64 (S.l:Nat),.int .i64 (S.d:Nat),.int .i64 (S.r:Nat)] 158));have iF:W3.heap[W2.heap.size]? =some (.cells (bB [S]).toArray 158 (0,0)):=(by rw[←jD];exact heap_alloc_last _ _);have aW:Below wr.heap.size wr W3:=(by rw[←jD];exact aE.alloc aE.size _);have j5:w1.heap.size<W2.heap.size:=(cr iD)
   have QA:W3.heap[w1.heap.size]? =some (.cells (bB [S]).toArray 158 (0,0)):=(by rw[←jD];exact(Below.heap_alloc _ _ _ j5).trans iD);have hI3:=LG.out.step aW;have QB: ∀g,v.ownBlock=some g→g<w1.heap.size:=fun g e=>Nat.lt_of_lt_of_le (LG.out.own.lt g e).2 cu.out.size;have y0:W2.cell? ⟨w1.heap.size,0,none⟩=some (.int .i64 (S.k:Nat)):=jY;have y1:W2.cell? ⟨w1.heap.size,1,none⟩=some (.int .u8 (S.b.toNat:Nat)):=jY;have y2:W2.cell? ⟨w1.heap.size,2,none⟩=some (.int .i64 (S.l:Nat)):=jY;have y3:W2.cell? ⟨w1.heap.size,3,none⟩=some (.int .i64 (S.d:Nat)):=jY;have y4:W2.cell? ⟨w1.heap.size,4,none⟩=some (.int .i64 (S.r:Nat)):=jY;have C7:=hdd jD;have HI3:=hdd hI3;have Lh:=hdd iF;have ad1:=hdd QA;have akh:=hdd QB;have Z1:=hdd j5;have hLm:L.length≤1000000:=aa;have HLM:=hdd hLm;clear jT iD aE jD iF aW j5 QA hI3 QB hLm c5 c6 c8 c90 c91 c92 c93;go_wp2_with (at_builtin;rw[C7.out];refine lB rfl (.tmp 43) (.tmp 45) rfl base W3 v L rfl HI3.out.own W2.heap.size 1 S rfl Lh.out HLM.out HI3.out.big ?_;intro v' w4 gG dK;have HG4:=hdd (And.intro gG dK);have hI4:=HI3.out.append Hi.out dK gG;have nC:=(dK.block w1.heap.size (cr ad1.out) (fun e=>ar (akh.out _ e.symm))).trans ad1.out;have HI4:=hdd hI4;have Vg:=hdd nC;obtain⟨_,_,_,⟨d0,d1,d2,d3⟩,_,_,_⟩:=hI4.cells;have s0:w4.cell? ⟨w1.heap.size,0,none⟩=some (.int .i64 (S.k:Nat)):=vQ;have s1:w4.cell? ⟨w1.heap.size,1,none⟩=some (.int .u8 (S.b.toNat:Nat)):=vQ;have s2:w4.cell? ⟨w1.heap.size,2,none⟩=some (.int .i64 (S.l:Nat)):=vQ;have s3:w4.cell? ⟨w1.heap.size,3,none⟩=some (.int .i64 (S.d:Nat)):=vQ;have s4:w4.cell? ⟨w1.heap.size,4,none⟩=some (.int .i64 (S.r:Nat)):=vQ;clear gG dK hI4 nC y0 y1 y2 y3 y4)
   refine(LD S HKR.out.1 HKR.out.2 r' w4).mono ?_;rintro e w5 ⟨rfl,fj⟩;have hI5:=HI4.out.step fj;obtain⟨_,_,_,⟨q0,q1,q2,q3⟩,_,qf,_⟩:=hI5.cells;have qY:=(fj.block _ (cr Vg.out)).trans Vg.out;have u2:w5.cell? ⟨w1.heap.size,2,none⟩=some (.int .i64 (S.l:Nat)):=Gi;have HI6:=hdd (hI5.store ⟨Dc.out.2.1,Hi.out.2.2.2.2.1⟩ Dc.out.1 (du S r'));have TF:b9≠w1.heap.size∧w1.heap.size≠b9:=(by have h1:b9<w1.heap.size:=Nat.lt_of_lt_of_le (cr LG.out.fh) cu.out.size;omega);obtain⟨nb1,nb2⟩:=TF;have qf0:=qf 0;have qf1:=qf 1;have qf2:=qf 2;have qf3:=qf 3;clear fj hI5 qY d0 d1 d2 d3 s0 s1 s2 s3 s4 qf;have akk:Hid ((LS,rS)=((L++[S])++(ba D dict nice tt (tt-(p+max S.l 1)) (p+max S.l 1) (du S r')).1,(ba D dict nice tt (tt-(p+max S.l 1)) (p+max S.l 1) (du S r')).2)):=hdd (by
    rw[HSR.out,HSS.out];simp)
   go_wp2_with fail;exact⟨⟨p+max S.l 1,du S r',L++[S],_,rfl,by congr 1;omega,HI6,akk,aa,by rw[List.length_append,List.length_singleton];omega⟩,gt⟩
  ·have ake: ¬(p:Int)<(tt:Int):=(by omega);have HE:Hid (LS=L∧rS=r'):=hdd (by
    have:=HSR.out;rw[mB hpt]at this;simpa using this)
   obtain⟨_,_,_,_,⟨n0,n1,n2,n3⟩,_,nf⟩:=LG.out.cells;have nf0:=nf 0;have nf1:=nf 1;have nf2:=nf 2;have nf3:=nf 3;clear nf;go_wp2_with fail;go_region;all_goals go_wp2_with fail
   have ho:ev base ((((wr.setCell ⟨o0,0,none⟩ (.int .i64 r'.1)).setCell ⟨o0,1,none⟩ (.int .i64 r'.2.1)).setCell ⟨o0,2,none⟩ (.int .i64 r'.2.2.1)).setCell ⟨o0,3,none⟩ (.int .i64 r'.2.2.2)) v L:=
    (((LG.out.own.set (p:=⟨o0,0,none⟩) Hi.out.2.2.2.2.2 _).set (p:=⟨o0,1,none⟩) Hi.out.2.2.2.2.2 _).set (p:=⟨o0,2,none⟩) Hi.out.2.2.2.2.2 _).set (p:=⟨o0,3,none⟩) Hi.out.2.2.2.2.2 _
   have fF:=(((LG.out.below.setCell (p:=⟨o0,0,none⟩) Dc.out.2.2 (.int .i64 r'.1)).setCell (p:=⟨o0,1,none⟩) Dc.out.2.2 (.int .i64 r'.2.1)).setCell (p:=⟨o0,2,none⟩) Dc.out.2.2 (.int .i64 r'.2.2.1)).setCell (p:=⟨o0,3,none⟩) Dc.out.2.2 (.int .i64 r'.2.2.2);refine bodyPost_ret (v:= .tuple #[v,r'.val,.int .i64 0]) (by simp[results,results121,go_sem,n0,n1,n2,n3]) rfl ⟨v,by rw[HE.out.2],?_,?_⟩;·rw[HE.out.1];exact ho.weaken Hi.out.1
   ·exact⟨fF.os,fF.tape,fF.output,fF.size,fF.block⟩
end
theorem KQ(a b:Int)(w:World):Calls prog 211 #[.int .i64 a,.int .i64 b] w fun e w'=>e= .returned (.int .i64 (min a b))∧w=w':=by
 by_cases h:a<b
 ·have e:min a b=a:=by omega
  rw[e];clear e;go_enter func211,ntmps211;go_wp2_with fail;go_ret;exact⟨rfl,rfl⟩
 ·have e:min a b=b:=by omega
  rw[e];clear e;go_enter func211,ntmps211;go_wp2_with fail;go_ret;exact⟨rfl,rfl⟩
theorem AK(A:Option Addr)(l:List UInt8)(c:Nat)(p k:Nat)(most:Int)(w:World)(hB:Bytes w A l)(hc:l.length≤c)(hl:l.length≤100000)(hp:p<l.length)(hk:1≤k)(hkp:k≤p):
  Calls prog 210 #[.slice A l.length c,.int .i64 (p:Nat),.int .i64 (k:Nat),.int .i64 most] w fun e w'=>e= .returned (.int .i64 (aU l p (p-k) (py l p most):Nat))∧ ∃m,w'=w.drewN m:=by
 obtain⟨b,off,rfl,fF,bx⟩:=hB.addr aa;have Ho:=hdd bx;have sQ:(l.length:Int)≤100000:=aa;have tY:(l.length:Int)≤(c:Int):=aa;have HL:=hdd (fun n=> ZF (d:=l) (p:=p) (n:=n) (most:=most));have N9:=hdd (ZE l p most aa);have⟨L,hL⟩:=ex (py l p most);rw[hL]at HL N9 ⊢;have HU:=hdd (fun n (h:rP l p (p-k) L n)=>h.is);have⟨E,hE⟩:=ex (aU l p (p-k) L);rw[hE]at HU ⊢;have rz:(p:Int)≤100000:=aa;have HK:=hdd (And.intro hk (And.intro hkp hl));clear hB bx fF hL hE hl hk hkp;go_enter func210,ntmps210;go_wp2_with fail;go_loopw [9] (fun i wr=> ∃(n m:Nat),n≤L∧i= .int .i64 (n:Nat)∧Hid (∀i,i<n→l.getD (p+i) 0=l.getD (p-k+i) 0)∧wr=w.drewN m) (fun i _=>L-(intOf i).toNat);case atStart=>exact⟨0,0,aa,rfl,hdd (fun i h=>by cases h),rfl⟩
 case round=>
  obtain⟨n,m,hn,rfl,wZ,rfl⟩:=hrel;by_cases BM:n<L
  ·obtain⟨h1,h2⟩:=(HL.out n).1 BM;have⟨x,hx⟩:=ex (p+n:Nat);have hxi:(p:Int)+(n:Int)=(x:Int):=aa;rw[hxi]at h2;have⟨y,hy⟩:=ex (p-k+n:Nat);have hyi:(x:Int)-(k:Int)=(y:Int):=ar HK.out;have YU:(y:Int)<(l.length:Int):=ar HK.out;have cx:=Ho.out x aa;have cy:=Ho.out y aa;have HX:Hid (p+n=x∧p-k+n=y):=hdd ⟨hx,hy⟩;have sO:(n:Int)≤100000:=aa;have e1:=cY (d:=l) (i:=x) aa;have e2:=cY (d:=l) (i:=y) aa;generalize l[x]'aa=u at*;generalize l[y]'aa=v at*;have uL:=hdd (And.intro e1 e2);clear e1 e2 hx hy;by_cases zh:u=v
   ·have ZG:((u.toNat:Int)==(v.toNat:Int))=true:=(by rw[zh];simp);have HQ:Hid (∀i,i<n+1→l.getD (p+i) 0=l.getD (p-k+i) 0):=hdd (fun i hi=>by
     rcases Nat.lt_or_ge i n with h | h;·exact wZ.out i h
     ·obtain rfl:i=n:=(by omega);rw[HX.out.1,HX.out.2,uL.out.1,uL.out.2,zh])
    clear zh;go_wp2_with fail;go_quiet (fail);go_wp2_with fail;exact⟨⟨n+1,_,aa,aq,HQ,rfl⟩,gt⟩
   ·have ZG:((u.toNat:Int)==(v.toNat:Int))=false:=(by rw[beq_eq_false_iff_ne];intro h;exact zh (UInt8.toNat_inj.1 aa));have HN:Hid (n=E):=hdd (HU.out n ⟨aa,wZ.out,.inr (by rw[HX.out.1,HX.out.2,uL.out.1,uL.out.2];exact zh)⟩);clear zh;go_wp2_with fail;go_quiet (fail);go_wp2_with fail;go_ret;exact⟨sW,_,World.drewN_drewN ..⟩
  ·obtain rfl:n=L:=(by omega);have HN:Hid (n=E):=hdd (HU.out n ⟨aa,wZ.out,.inl rfl⟩);have IU:=mt (HL.out n).2 BM;by_cases h1:(n:Int)<most;·have h2: ¬(p:Int)+(n:Int)<(l.length:Int):=fun h=>IU ⟨h1,h⟩;have sO:(n:Int)≤100000:=ar N9.out;clear IU;go_wp2_with fail;go_ret;exact⟨sW,_,rfl⟩
   ·clear IU;go_wp2_with fail;go_ret;exact⟨sW,_,rfl⟩
theorem NK(A:Option Addr)(l:List UInt8)(c:Nat)(dict nice:Int)(p:Nat)(most:Int)(w:World)(hB:Bytes w A l)(hc:l.length≤c)(hl:l.length≤100000)(hp:p<l.length):
  Calls prog 172 #[.slice A l.length c,.int .i64 dict,.int .i64 nice,.int .i64 (p:Nat),.int .i64 most] w fun e w'=>e= .returned (.tuple #[.int .i64 ((fU l dict nice p most).1:Nat),.int .i64 ((fU l dict nice p most).2:Nat)])∧ ∃m,w'=w.drewN m:=by
 have HCU:=hdd (KQ nice most);have GH:=hdd (fun k m (h1:1≤k) (h2:k≤p)=>AK A l c p k (min nice most) (w.drewN m) hB hc hl hp h1 h2);have rz:(p:Int)≤100000:=aa;unfold fU;obtain⟨f,hf⟩: ∃f:Nat→Nat,(fun k=>aU l p (p-k) (py l p (min nice most)))=f:=⟨_,rfl⟩
 have HF:Hid (∀k,aU l p (p-k) (py l p (min nice most))=f k):=hdd (fun k=>by rw[←hf]);rw[hf];have⟨D,hD⟩:=ex ((min (p:Int) dict).toNat);rw[hD];have HD:Hid (∀q:Nat,1≤q→((q:Int)≤(p:Int)∧(q:Int)≤dict↔q≤D)):=hdd (fun q h=>aa);have HDP:Hid (D≤p):=hdd aa;have⟨RR,hRR⟩:=ex ((if(bX f D).1<2 then(0,0)else bX f D));rw[hRR];have Xh:=hdd hRR;clear hRR;clear hf hD hB hc hl hp;go_enter func172,ntmps172;go_wp2_with fail;go_loopw [12,13,14] (fun a b i wr=> ∃(q m:Nat),q≤D∧i= .int .i64 ((q+1:Nat):Int)∧a= .int .i64 ((bX f q).1:Nat)∧b= .int .i64 ((bX f q).2:Nat)∧wr=w.drewN m) (fun _ _ i _=>D+1-(intOf i).toNat);case atStart=>exact⟨0,0,aa,rfl,rfl,rfl,rfl⟩
 case round=>
  obtain⟨q,m,hq,rfl,rfl,rfl,rfl⟩:=hrel;by_cases hqD:q<D
  ·obtain⟨h1,h2⟩:=(HD.out (q+1) aa).2 hqD;have GR:=hdd (GH.out (q+1) m aa (ar HDP.out));rw[HF.out]at GR;have HB:Hid (bX f (q+1)=if(bX f q).1<f (q+1)then(f (q+1),q+1)else bX f q):=hdd rfl;have hqp:q+1≤100000:=ar HDP.out;have⟨Q,hQ⟩:=ex (q+1);rw[hQ]at h1 h2 GR HB hqp ⊢;have HQ:=hdd hQ;clear hQ;generalize bX f q=bb at*;obtain⟨X,Y⟩:=bb;have hQi:(Q:Int)≤100000:=aa;by_cases hgt:X<f Q;·rw[if_pos hgt]at HB;have hgi:(X:Int)<(f Q:Nat):=aa;generalize f Q=Z at*;clear hgt;go_wp2_with fail;refine(HCU.out _).mono ?_;rintro e w1 ⟨rfl,rfl⟩;go_wp2_with fail;refine GR.out.mono ?_;rintro e w1 ⟨rfl,m1,rfl⟩;go_wp2_with fail;exact⟨⟨Q,_,ar HQ.out,aq,by rw[HB.out],by rw[HB.out],rfl⟩,by have:=HQ.out;simp[intOf];omega⟩
   ·rw[if_neg hgt]at HB;have hgi: ¬(X:Int)<(f Q:Nat):=aa;generalize f Q=Z at*;clear hgt;go_wp2_with fail;refine(HCU.out _).mono ?_;rintro e w1 ⟨rfl,rfl⟩;go_wp2_with fail;refine GR.out.mono ?_;rintro e w1 ⟨rfl,m1,rfl⟩;go_wp2_with fail;exact⟨⟨Q,_,ar HQ.out,aq,by rw[HB.out],by rw[HB.out],rfl⟩,by have:=HQ.out;simp[intOf];omega⟩
  ·obtain rfl:q=D:=(by omega);have IU:=mt (HD.out (q+1) aa).1 aa;have⟨Q,hQ⟩:=ex (q+1);rw[hQ]at IU ⊢;clear hQ;generalize bX f q=bb at*;obtain⟨X,Y⟩:=bb;by_cases h2:X<2
   ·have pK:Hid ((0,0)=RR):=hdd (by rw[←Xh.out,if_pos h2]);have Xa:(X:Int)<2:=aa;clear h2;by_cases h1:(Q:Int)≤(p:Int);·have h3: ¬(Q:Int)≤dict:=fun h=>IU ⟨h1,h⟩;clear IU;go_wp2_with fail;go_ret2;exact⟨by rw[←pK.out];rfl,_,rfl⟩
    ·clear IU;go_wp2_with fail;go_ret2;exact⟨by rw[←pK.out];rfl,_,rfl⟩
   ·have pK:Hid ((X,Y)=RR):=hdd (by rw[←Xh.out,if_neg h2]);have Xa: ¬(X:Int)<2:=aa;clear h2;by_cases h1:(Q:Int)≤(p:Int);·have h3: ¬(Q:Int)≤dict:=fun h=>IU ⟨h1,h⟩;clear IU;go_wp2_with fail;go_ret2;exact⟨by rw[←pK.out];rfl,_,rfl⟩
    ·clear IU;go_wp2_with fail;go_ret2;exact⟨by rw[←pK.out];rfl,_,rfl⟩
theorem NL(A:Option Addr)(l:List UInt8)(c:Nat)(dict place de most:Int)(w:World)(hB:Bytes w A l)(hc:l.length≤c)(hl:l.length≤100000):
  Calls prog 171 #[.slice A l.length c,.int .i64 dict,.int .i64 place,.int .i64 de,.int .i64 most] w fun e w'=>e= .returned (.int .i64 (df l dict place de most:Nat))∧ ∃m,w'=w.drewN m:=by
 have tY:(l.length:Int)≤(c:Int):=aa;have HCU:=hdd (KQ 273 most);unfold df;by_cases h1:place<0;·rw[if_neg (fun h=>aa)];clear hB hc hl;go_enter func171,ntmps171;go_wp2_with fail;go_ret;exact⟨rfl,0,rfl⟩
 have b1:decide (place<0)=false:=decide_eq_false h1;by_cases h2:(l.length:Int)≤place;·rw[if_neg (fun h=>aa)];clear hB hc hl h1;go_enter func171,ntmps171;go_wp2_with fail;go_ret;exact⟨rfl,0,rfl⟩
 have b2:decide ((l.length:Int)≤place)=false:=decide_eq_false h2;by_cases h3:de<1;·rw[if_neg (fun h=>aa)];clear hB hc hl h1 h2;go_enter func171,ntmps171;go_wp2_with fail;go_ret;exact⟨rfl,0,rfl⟩
 have b3:decide (de<1)=false:=decide_eq_false h3;by_cases h4:place<de;·rw[if_neg (fun h=>aa)];clear hB hc hl h1 h2 h3;go_enter func171,ntmps171;go_wp2_with fail;go_ret;exact⟨rfl,0,rfl⟩
 have b4:decide (place<de)=false:=decide_eq_false h4;by_cases h5:dict<de;·rw[if_neg (fun h=>aa)];clear hB hc hl h1 h2 h3 h4;go_enter func171,ntmps171;go_wp2_with fail;go_ret;exact⟨rfl,0,rfl⟩
 have b5:decide (dict<de)=false:=decide_eq_false h5;rw[if_pos aa];have hp:(place.toNat:Int)=place:=aa;have hk:(de.toNat:Int)=de:=aa;have GH:=AK A l c place.toNat de.toNat (min 273 most) w hB hc hl aa aa aa;rw[hp,hk]at GH;have GH:=hdd GH;generalize aU l place.toNat (place.toNat-de.toNat) (py l place.toNat (min 273 most))=E at*;clear hp hk;clear hB hc hl h1 h2 h3 h4 h5;go_enter func171,ntmps171;go_wp2_with fail;refine(HCU.out _).mono ?_;rintro e w1 ⟨rfl,rfl⟩;go_wp2_with fail;refine GH.out.mono ?_;rintro e w1 ⟨rfl,m,rfl⟩;go_wp2_with fail;go_ret;exact⟨rfl,_,rfl⟩
end Go.Proofs.YtgfpocdiojifoaaGreatDoor
