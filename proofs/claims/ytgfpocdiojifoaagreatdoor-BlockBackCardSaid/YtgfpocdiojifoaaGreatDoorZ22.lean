import Derived.Test.YtgfpocdiojifoaaGreatDoorZ21
import Derived.Deep.CutBlock
import Derived.Deep.DeepCutAuto
namespace Go.Proofs.YtgfpocdiojifoaaGreatDoor
set_option maxRecDepth 100000
set_option maxHeartbeats 8000000
open Go.RowKit
section
abbrev rc(r:R4):List Value:=[.int .i64 r.1,.int .i64 r.2.1,.int .i64 r.2.2.1,.int .i64 r.2.2.2]
structure xK(w:World)(b5 b6 b8 b9 b11 base:Nat)(F:Nat)(DA:Option Addr)(cd len tt:Nat)(r:R4)(L:List Sy)(v:Value)(W:World):Prop where
 below:Below w.heap.size w W
 f:aI b5 W (PF F)
 data:aI b6 W (.slice DA len cd)
 to_:aI b8 W (.int .i64 (tt:Nat))
 rZ:W.heap[b9]? =some (.cells (rc r).toArray 127 (0,0))
 res:W.heap[b11]? =some (.cells (rc (0,0,0,0)).toArray 127 (0,0))
 own:iR base W v L
 big:base≤W.heap.size
section
variable{w W W':World}{b5 b6 b8 b9 b11 base F:Nat}{DA:Option Addr}{cd len tt:Nat}{r:R4}{L:List Sy}{v:Value}
theorem xK.step(h:xK w b5 b6 b8 b9 b11 base F DA cd len tt r L v W)(hb:Below W.heap.size W W'):xK w b5 b6 b8 b9 b11 base F DA cd len tt r L v W':=
 ⟨h.below.trans (hb.mono h.below.size),h.f.keep (hb.block _ h.f.lt),h.data.keep (hb.block _ h.data.lt),h.to_.keep (hb.block _ h.to_.lt),(hb.block _ (Array.getElem?_eq_some_iff.1 h.rZ).1).trans h.rZ,(hb.block _ (Array.getElem?_eq_some_iff.1 h.res).1).trans h.res,h.own.below hb,Nat.le_trans h.big hb.size⟩
theorem xK.append(h:xK w b5 b6 b8 b9 b11 base F DA cd len tt r L v W)(hlt:w.heap.size≤base∧b5<base∧b6<base∧b8<base∧b9<base∧b11<base)(hg:W.grownBy W' v.ownBlock){v':Value}{L':List Sy}(ho:iR base W' v' L'):xK w b5 b6 b8 b9 b11 base F DA cd len tt r L' v' W':=by
 have k: ∀b,b<base→W'.heap[b]? =W.heap[b]? :=fun b hb=>hg.block b (Nat.lt_of_lt_of_le hb h.big) (fun e=>by have:=(h.own.lt b e.symm).1;omega)
 exact⟨below_grown h.below hg h.below.size (fun g e=>Nat.le_trans hlt.1 (h.own.lt g e).1),h.f.keep (k _ hlt.2.1),h.data.keep (k _ hlt.2.2.1),h.to_.keep (k _ hlt.2.2.2.1),(k _ hlt.2.2.2.2.1).trans h.rZ,(k _ hlt.2.2.2.2.2).trans h.res,ho,Nat.le_trans h.big hg.size⟩
theorem xK.cells(h:xK w b5 b6 b8 b9 b11 base F DA cd len tt r L v W):W.cell? ⟨b5,0,none⟩=some (PF F)∧W.cell? ⟨b6,0,none⟩=some (.slice DA len cd)∧W.cell? ⟨b8,0,none⟩=some (.int .i64 (tt:Nat))∧
  (W.cell? ⟨b9,0,none⟩=some (.int .i64 r.1)∧W.cell? ⟨b9,1,none⟩=some (.int .i64 r.2.1)∧W.cell? ⟨b9,2,none⟩=some (.int .i64 r.2.2.1)∧W.cell? ⟨b9,3,none⟩=some (.int .i64 r.2.2.2))∧
  (W.cell? ⟨b11,0,none⟩=some (.int .i64 0)∧W.cell? ⟨b11,1,none⟩=some (.int .i64 0)∧W.cell? ⟨b11,2,none⟩=some (.int .i64 0)∧W.cell? ⟨b11,3,none⟩=some (.int .i64 0))∧
  (∀i,W.frozen? ⟨b9,i,none⟩=false)∧(∀i,W.frozen? ⟨b11,i,none⟩=false):=by
 refine⟨h.f.cell,h.data.cell,h.to_.cell,⟨?_,?_,?_,?_⟩,⟨?_,?_,?_,?_⟩,fun i=>frozen_of_row _ _ _ _ _ h.rZ,fun i=>frozen_of_row _ _ _ _ _ h.res⟩
 ·rw[cell_of_row W _ _ _ _ _ h.rZ];rfl
 ·rw[cell_of_row W _ _ _ _ _ h.rZ];rfl
 ·rw[cell_of_row W _ _ _ _ _ h.rZ];rfl
 ·rw[cell_of_row W _ _ _ _ _ h.rZ];rfl
 ·rw[cell_of_row W _ _ _ _ _ h.res];rfl
 ·rw[cell_of_row W _ _ _ _ _ h.res];rfl
 ·rw[cell_of_row W _ _ _ _ _ h.res];rfl
 ·rw[cell_of_row W _ _ _ _ _ h.res];rfl
theorem xK.store(h:xK w b5 b6 b8 b9 b11 base F DA cd len tt r L v W)(hlt:w.heap.size≤b9∧b9<base)(hne:b5≠b9∧b6≠b9∧b8≠b9∧b11≠b9)(q:R4):
  xK w b5 b6 b8 b9 b11 base F DA cd len tt q L v ((((W.setCell ⟨b9,0,none⟩ (.int .i64 q.1)).setCell ⟨b9,1,none⟩ (.int .i64 q.2.1)).setCell ⟨b9,2,none⟩ (.int .i64 q.2.2.1)).setCell ⟨b9,3,none⟩ (.int .i64 q.2.2.2)):=by
 have k: ∀b,b≠b9→((((W.setCell ⟨b9,0,none⟩ (.int .i64 q.1)).setCell ⟨b9,1,none⟩ (.int .i64 q.2.1)).setCell ⟨b9,2,none⟩ (.int .i64 q.2.2.1)).setCell ⟨b9,3,none⟩ (.int .i64 q.2.2.2)).heap[b]? =W.heap[b]? :=fun b hb=>by
  rw[ah _ _ _ _ hb,ah _ _ _ _ hb,ah _ _ _ _ hb,ah _ _ _ _ hb]
 refine⟨(((h.below.setCell (p:=⟨b9,0,none⟩) hlt.1 _).setCell (p:=⟨b9,1,none⟩) hlt.1 _).setCell (p:=⟨b9,2,none⟩) hlt.1 _).setCell (p:=⟨b9,3,none⟩) hlt.1 _,h.f.keep (k _ hne.1),h.data.keep (k _ hne.2.1),h.to_.keep (k _ hne.2.2.1),heap_set (heap_set (heap_set (heap_set h.rZ 0 _) 1 _) 2 _) 3 _,(k _ hne.2.2.2).trans h.res,h.own.keep fun g hg=>k g (by have:=(h.own.lt g hg).1;omega),?_⟩
 have:=h.big
 simpa [World.setCell]using this
end
def KL(L:List Sy)(r:R4)(w:World)(e:Ending)(w':World):Prop:= ∃v,e= .returned (.tuple #[v,r.val,.int .i64 0])∧iR w.heap.size w' v L∧Below w.heap.size w w'
theorem ae1{w W:World}{v0 v1 v2:Value}{t0 t1 t2 t3:TypeId}{r:R4}(hW:((((w.alloc (.cells #[v0] t0)).alloc (.cells #[v1] t1)).alloc (.cells #[v2] t2)).alloc (.cells #[.int .i64 r.1,.int .i64 r.2.1,.int .i64 r.2.2.1,.int .i64 r.2.2.2] t3)).alloc (.cells #[.int .i64 0,.int .i64 0,.int .i64 0,.int .i64 0] t3)=W):
  Below w.heap.size w W∧aI w.heap.size W v0∧aI (w.heap.size+1) W v1∧aI (w.heap.size+1+1) W v2∧W.heap[w.heap.size+1+1+1]? =some (.cells (rc r).toArray t3 (0,0))∧W.heap[w.heap.size+1+1+1+1]? =some (.cells (rc (0,0,0,0)).toArray t3 (0,0))∧W.heap.size=w.heap.size+1+1+1+1+1:=by
 subst hW
 have up: ∀{b:Nat} {W:World} {o':Obj} (o:Obj),W.heap[b]? =some o'→(W.alloc o).heap[b]? =some o':=fun o h=>(Below.heap_alloc _ _ _ (Array.getElem?_eq_some_iff.1 h).1).trans h
 have upB: ∀{b:Nat} {W:World} {v:Value} (o:Obj),aI b W v→aI b (W.alloc o) v:=fun o h=>h.keep (Below.heap_alloc _ _ _ h.lt)
 have mk: ∀(W:World) (v:Value) (t:TypeId) (b:Nat),b=W.heap.size→aI b (W.alloc (.cells #[v] t)) v:=fun W v t b e=>by subst e;exact aI.made W v t
 have mk2: ∀(W:World) (o:Obj) (b:Nat),b=W.heap.size→(W.alloc o).heap[b]? =some o:=fun W o b e=>by subst e;exact heap_alloc_last W o
 refine⟨?_,upB _ (upB _ (upB _ (upB _ (mk _ _ _ _ rfl)))),upB _ (upB _ (upB _ (mk _ _ _ _ (by simp)))),upB _ (upB _ (mk _ _ _ _ (by simp))),up _ (mk2 _ _ _ (by simp)),mk2 _ _ _ (by simp),by simp⟩
 refine Below.alloc ?_ (by simp;omega) _
 refine Below.alloc ?_ (by simp;omega) _
 refine Below.alloc ?_ (by simp;omega) _
 refine Below.alloc ?_ (by simp) _
 exact(Below.refl _ _).alloc (Nat.le_refl _) _
theorem KN(F:Nat)(A DA:Option Addr)(cF cd:Nat)(D:List UInt8)(dict nice:Int)(mp B:Nat)(p0 tt:Nat)(r:R4)(w:World)
  (hR:Ready w F A cF D dict nice mp B) (hD:Bytes w DA D) (hcd:D.length≤cd) (hp:p0≤tt) (hto:tt≤D.length):
  Calls Tryz.prog 121 #[PF F,.slice DA D.length cd,.int .i64 (p0:Nat),.int .i64 (tt:Nat),r.val] w (KL (aO D dict nice tt (tt-p0) p0 r).1 (aO D dict nice tt (tt-p0) p0 r).2 w):=by
 have hsm:=hR.at_.small
 have hpi:(p0:Int)≤(tt:Int):=by omega
 have hti:(tt:Int)≤(D.length:Int):=by omega
 have hdi:(D.length:Int)≤100000:=by omega
 have hcc:(D.length:Int)≤(cd:Int):=by omega
 obtain⟨⟨LS,rS⟩,hS⟩: ∃q,aO D dict nice tt (tt-p0) p0 r=q:=⟨_,rfl⟩
 rw[hS]
 have HS:=Lib.hid hS
 have HR:=Lib.hid hR
 have HD:=Lib.hid hD
 have HCD:=Lib.hid hcd
 have HP:=Lib.hid hp
 clear hR hD hcd hp hS hsm
 go_enter Tryz.func121,Tryz.ntmps121
 go_upto_region 1 with fail
 generalize hW:((((w.alloc _).alloc _).alloc _).alloc _).alloc _=W
 obtain⟨hb,x5,x6,x8,x9,x11,hsz⟩:=ae1 hW
 have hI:xK w w.heap.size (w.heap.size+1) (w.heap.size+1+1) (w.heap.size+1+1+1) (w.heap.size+1+1+1+1) (w.heap.size+1+1+1+1+1) F DA cd D.length tt r [] (.slice none 0 0) W:=
  ⟨hb,x5,x6,x8,x9,x11,iR.nil _ _,by rw[hsz];exact Nat.le_refl _⟩
 have hord:w.heap.size≤w.heap.size+1+1+1+1+1∧w.heap.size<w.heap.size+1+1+1+1+1∧w.heap.size+1<w.heap.size+1+1+1+1+1∧w.heap.size+1+1<w.heap.size+1+1+1+1+1∧w.heap.size+1+1+1<w.heap.size+1+1+1+1+1∧w.heap.size+1+1+1+1<w.heap.size+1+1+1+1+1:=by omega
 have hne:(w.heap.size≠w.heap.size+1+1+1∧w.heap.size+1≠w.heap.size+1+1+1∧w.heap.size+1+1≠w.heap.size+1+1+1∧w.heap.size+1+1+1+1≠w.heap.size+1+1+1)∧w.heap.size≤w.heap.size+1+1+1∧w.heap.size≤w.heap.size+1+1+1+1:=by omega
 clear hb x5 x6 x8 x9 x11 hsz hW
 obtain⟨base,e0⟩: ∃b,w.heap.size+1+1+1+1+1=b:=⟨_,rfl⟩
 obtain⟨b11,e1⟩: ∃b,w.heap.size+1+1+1+1=b:=⟨_,rfl⟩
 obtain⟨b9,e2⟩: ∃b,w.heap.size+1+1+1=b:=⟨_,rfl⟩
 obtain⟨b8,e3⟩: ∃b,w.heap.size+1+1=b:=⟨_,rfl⟩
 obtain⟨b6,e4⟩: ∃b,w.heap.size+1=b:=⟨_,rfl⟩
 rw[e0]at hI hord
 rw[e1]at hI hord hne ⊢
 rw[e2]at hI hord hne ⊢
 rw[e3]at hI hord hne ⊢
 rw[e4]at hI hord hne ⊢
 clear e0 e1 e2 e3 e4
 obtain⟨b5,e5⟩: ∃b,w.heap.size=b:=⟨_,rfl⟩
 have hI5:xK w b5 b6 b8 b9 b11 base F DA cd D.length tt r [] (.slice none 0 0) W:=by rw[←e5];exact hI
 have adG:w.heap.size≤base∧b5<base∧b6<base∧b8<base∧b9<base∧b11<base:=by rw[←e5];exact hord
 have hne5:(b5≠b9∧b6≠b9∧b8≠b9∧b11≠b9)∧w.heap.size≤b9∧w.heap.size≤b11:=by rw[←e5];exact hne
 have HB:Hid (∀(W':World) (o:Nat),w.heap.size≤o→iR base W' (.slice none 0 0) []):=Lib.hid (fun _ _ _=>iR.nil _ _)
 rw[e5]
 have Oz:=Lib.hid adG
 have Jv:=Lib.hid hne5
 have HI:=Lib.hid hI5
 have H5:=Lib.hid e5
 clear hI hord hne adG hne5 e5 hI5 HB
 obtain⟨c5,c6,c8,⟨c90,c91,c92,c93⟩,_,_,_⟩:=HI.out.cells
 have e00:decide ((p0:Int)<0)=false:=decide_eq_false (by omega)
 have e03:decide (tt<p0)=false:=decide_eq_false (by omega)
 have e04:decide (D.length<tt)=false:=decide_eq_false (by omega)
 have e01:decide ((tt:Int)<(p0:Int))=false:=decide_eq_false (by omega)
 have e02:decide ((D.length:Int)<(tt:Int))=false:=decide_eq_false (by omega)
 go_wp2_with fail
 go_loopw [14,15] (fun v i wr=> ∃(p:Nat) (r':R4) (L:List Sy) (vv:Value),vv=v∧i= .int .i64 (p:Nat)∧Hid (xK w b5 b6 b8 b9 b11 base F DA cd D.length tt r' L vv wr)∧Hid ((LS,rS)=(L++(aO D dict nice tt (tt-p) p r').1,(aO D dict nice tt (tt-p) p r').2))∧p≤300000∧L.length≤p) (fun _ i _=>tt-(intOf i).toNat)
 case atStart=>exact⟨p0,r,[],_,rfl,rfl,HI,Lib.hid (by rw[List.nil_append];exact HS.out.symm),by omega,Nat.zero_le _⟩
 case round=>
  obtain⟨p,r',L,v,rfl,rfl,Tm,HSR,hp2,hLp⟩:=hrel
  clear c5 c6 c8 c90 c91 c92 c93
  obtain⟨c5,c6,c8,⟨c90,c91,c92,c93⟩,_,_,_⟩:=Tm.out.cells
  by_cases hpt:p<tt
  ·have amn:(p:Int)<(tt:Int):=by omega
   obtain⟨S,hSd⟩: ∃S,jM D dict nice tt p r'=S:=⟨_,rfl⟩
   have hkr:S.k≤2∧S.r≤3:=by rw[←hSd];exact Ti _ _ _ _ _ _ _ _ _
   have hl:S.l≤273+D.length:=by rw[←hSd];exact Tj _ _ _ _ _ _ _ _ _
   have hRr:=HR.out.below Tm.out.below
   have hDr:=HD.out.below Tm.out.below
   have Kr:Hid (Calls Tryz.prog 158 #[.int .i64 (p:Nat),PF b8,PF b5,PF b9,PF b6] wr (Dl S wr)):=Lib.hid (by
    rw[←hSd]
    exact IG b8 b5 b9 b6 F A DA cF cd D dict nice mp B p tt _ _ _ _ wr hRr hDr HCD.out Tm.out.to_ Tm.out.f Tm.out.rZ Tm.out.data hpt (by omega))
   have HSS:Hid (aO D dict nice tt (tt-p) p r'=(S::(aO D dict nice tt (tt-(p+max S.l 1)) (p+max S.l 1) (fP S r')).1,(aO D dict nice tt (tt-(p+max S.l 1)) (p+max S.l 1) (fP S r')).2)):=Lib.hid (by rw[sK hpt,hSd])
   have HKR:=Lib.hid hkr
   have Fb:(S.l:Int)≤200000:=by omega
   have hLl:=hLp
   clear hRr hDr hSd hkr HR HD
   go_wp2_with fail
   refine Kr.out.mono ?_
   rintro e w1 ⟨rfl,hb1⟩
   have HB1:=Lib.hid hb1
   clear hb1
   go_upto_region 8 with fail
   obtain⟨W2,hW2⟩: ∃W2,w1.alloc (.cells #[.int .i64 (S.k:Nat),.int .u8 (S.b.toNat:Nat),.int .i64 (S.l:Nat),.int .i64 (S.d:Nat),.int .i64 (S.r:Nat)] 158)=W2:=⟨_,rfl⟩
   rw[hW2]
   have hrow2:W2.heap[w1.heap.size]? =some (.cells (bY [S]).toArray 158 (0,0)):=by rw[←hW2];exact heap_alloc_last _ _
   have hb2:Below wr.heap.size wr W2:=by rw[←hW2];exact HB1.out.alloc HB1.out.size _
   obtain⟨W3,hW3⟩: ∃W3,W2.alloc (.cells #[.int .i64 (S.k:Nat),.int .u8 (S.b.toNat:Nat),.int .i64 (S.l:Nat),.int .i64 (S.d:Nat),.int .i64 (S.r:Nat)] 158)=W3:=⟨_,rfl⟩
   have hrow3:W3.heap[W2.heap.size]? =some (.cells (bY [S]).toArray 158 (0,0)):=by rw[←hW3];exact heap_alloc_last _ _
   have hb3:Below wr.heap.size wr W3:=by rw[←hW3];exact hb2.alloc hb2.size _
   have hlt2:w1.heap.size<W2.heap.size:=(Array.getElem?_eq_some_iff.1 hrow2).1
   have XU:W3.heap[w1.heap.size]? =some (.cells (bY [S]).toArray 158 (0,0)):=by rw[←hW3];exact(Below.heap_alloc _ _ _ hlt2).trans hrow2
   have hI3:=Tm.out.step hb3
   have Nz: ∀g,v.ownBlock=some g→g<w1.heap.size:=fun g e=>Nat.lt_of_lt_of_le (Tm.out.own.lt g e).2 HB1.out.size
   have y0:W2.cell? ⟨w1.heap.size,0,none⟩=some (.int .i64 (S.k:Nat)):=by rw[cell_of_row W2 _ _ _ _ _ hrow2];rfl
   have y1:W2.cell? ⟨w1.heap.size,1,none⟩=some (.int .u8 (S.b.toNat:Nat)):=by rw[cell_of_row W2 _ _ _ _ _ hrow2];rfl
   have y2:W2.cell? ⟨w1.heap.size,2,none⟩=some (.int .i64 (S.l:Nat)):=by rw[cell_of_row W2 _ _ _ _ _ hrow2];rfl
   have y3:W2.cell? ⟨w1.heap.size,3,none⟩=some (.int .i64 (S.d:Nat)):=by rw[cell_of_row W2 _ _ _ _ _ hrow2];rfl
   have y4:W2.cell? ⟨w1.heap.size,4,none⟩=some (.int .i64 (S.r:Nat)):=by rw[cell_of_row W2 _ _ _ _ _ hrow2];rfl
   have HW3:=Lib.hid hW3
   have HI3:=Lib.hid hI3
   have HR3:=Lib.hid hrow3
   have aij:=Lib.hid XU
   have amq:=Lib.hid Nz
   have ae2:=Lib.hid hlt2
   have hLm:L.length≤1000000:=by omega
   have HLM:=Lib.hid hLm
   clear hW2 hrow2 hb2 hW3 hrow3 hb3 hlt2 XU hI3 Nz hLm c5 c6 c8 c90 c91 c92 c93
   go_wp2_with (at_builtin;rw[HW3.out];refine yO rfl (.tmp 43) (.tmp 45) rfl base W3 v L rfl HI3.out.own W2.heap.size 1 S rfl HR3.out HLM.out HI3.out.big ?_;intro v' w4 hown4 hg4;have HG4:=Lib.hid (And.intro hown4 hg4);have hI4:=HI3.out.append Oz.out hg4 hown4;have hrow4:=(hg4.block w1.heap.size (Array.getElem?_eq_some_iff.1 aij.out).1 (fun e=>by have:=amq.out _ e.symm;omega)).trans aij.out;have HI4:=Lib.hid hI4;have HR4:=Lib.hid hrow4;obtain⟨_,_,_,⟨d0,d1,d2,d3⟩,_,_,_⟩:=hI4.cells;have s0:w4.cell? ⟨w1.heap.size,0,none⟩=some (.int .i64 (S.k:Nat)):=(by rw[cell_of_row w4 _ _ _ _ _ hrow4];rfl);have s1:w4.cell? ⟨w1.heap.size,1,none⟩=some (.int .u8 (S.b.toNat:Nat)):=(by rw[cell_of_row w4 _ _ _ _ _ hrow4];rfl);have s2:w4.cell? ⟨w1.heap.size,2,none⟩=some (.int .i64 (S.l:Nat)):=(by rw[cell_of_row w4 _ _ _ _ _ hrow4];rfl);have s3:w4.cell? ⟨w1.heap.size,3,none⟩=some (.int .i64 (S.d:Nat)):=(by rw[cell_of_row w4 _ _ _ _ _ hrow4];rfl);have s4:w4.cell? ⟨w1.heap.size,4,none⟩=some (.int .i64 (S.r:Nat)):=(by rw[cell_of_row w4 _ _ _ _ _ hrow4];rfl);clear hown4 hg4 hI4 hrow4 y0 y1 y2 y3 y4)
   refine(Tf S HKR.out.1 HKR.out.2 r' w4).mono ?_
   rintro e w5 ⟨rfl,hb5⟩
   have hI5:=HI4.out.step hb5
   obtain⟨_,_,_,⟨q0,q1,q2,q3⟩,_,qf,_⟩:=hI5.cells
   have Di:=(hb5.block _ (Array.getElem?_eq_some_iff.1 HR4.out).1).trans HR4.out
   have u2:w5.cell? ⟨w1.heap.size,2,none⟩=some (.int .i64 (S.l:Nat)):=by rw[cell_of_row w5 _ _ _ _ _ Di];rfl
   have HI6:=Lib.hid (hI5.store ⟨Jv.out.2.1,Oz.out.2.2.2.2.1⟩ Jv.out.1 (fP S r'))
   have hnb:b9≠w1.heap.size∧w1.heap.size≠b9:=by
    have h1:b9<w1.heap.size:=Nat.lt_of_lt_of_le (Array.getElem?_eq_some_iff.1 Tm.out.rZ).1 HB1.out.size
    omega
   obtain⟨nb1,nb2⟩:=hnb
   have qf0:=qf 0
   have qf1:=qf 1
   have qf2:=qf 2
   have qf3:=qf 3
   clear hb5 hI5 Di d0 d1 d2 d3 s0 s1 s2 s3 s4 qf
   have ams:Hid ((LS,rS)=((L++[S])++(aO D dict nice tt (tt-(p+max S.l 1)) (p+max S.l 1) (fP S r')).1,(aO D dict nice tt (tt-(p+max S.l 1)) (p+max S.l 1) (fP S r')).2)):=Lib.hid (by
    rw[HSR.out,HSS.out];simp)
   go_wp2_with fail
   exact⟨⟨p+max S.l 1,fP S r',L++[S],_,rfl,by congr 1;omega,HI6,ams,by omega,by rw[List.length_append,List.length_singleton];omega⟩,by simp[intOf];omega⟩
  ·have amn: ¬(p:Int)<(tt:Int):=by omega
   have HE:Hid (LS=L∧rS=r'):=Lib.hid (by
    have:=HSR.out
    rw[Dq hpt]at this
    simpa using this)
   obtain⟨_,_,_,_,⟨n0,n1,n2,n3⟩,_,nf⟩:=Tm.out.cells
   have nf0:=nf 0
   have nf1:=nf 1
   have nf2:=nf 2
   have nf3:=nf 3
   clear nf
   go_wp2_with fail
   go_region
   all_goals go_wp2_with fail
   have ho:iR base ((((wr.setCell ⟨b11,0,none⟩ (.int .i64 r'.1)).setCell ⟨b11,1,none⟩ (.int .i64 r'.2.1)).setCell ⟨b11,2,none⟩ (.int .i64 r'.2.2.1)).setCell ⟨b11,3,none⟩ (.int .i64 r'.2.2.2)) v L:=
    (((Tm.out.own.set (p:=⟨b11,0,none⟩) Oz.out.2.2.2.2.2 _).set (p:=⟨b11,1,none⟩) Oz.out.2.2.2.2.2 _).set (p:=⟨b11,2,none⟩) Oz.out.2.2.2.2.2 _).set (p:=⟨b11,3,none⟩) Oz.out.2.2.2.2.2 _
   have hbl:=(((Tm.out.below.setCell (p:=⟨b11,0,none⟩) Jv.out.2.2 (.int .i64 r'.1)).setCell (p:=⟨b11,1,none⟩) Jv.out.2.2 (.int .i64 r'.2.1)).setCell (p:=⟨b11,2,none⟩) Jv.out.2.2 (.int .i64 r'.2.2.1)).setCell (p:=⟨b11,3,none⟩) Jv.out.2.2 (.int .i64 r'.2.2.2)
   refine bodyPost_ret (v:= .tuple #[v,r'.val,.int .i64 0]) (by simp[results,Tryz.results121,go_sem,n0,n1,n2,n3]) rfl ⟨v,by rw[HE.out.2],?_,?_⟩
   ·rw[HE.out.1];exact ho.weaken Oz.out.1
   ·exact⟨hbl.os,hbl.tape,hbl.output,hbl.size,hbl.block⟩
end
section
structure jv where
 A:Option Addr
 D:List UInt8
 cD:Nat
 lc:Nat
 lp:Nat
 pb:Nat
 nice:Int
 chunk:Int
 block:Int
 check:Int
 chain:Value
 dict:Nat
 F:Nat
abbrev adH(k:jv)(cv:Value)(had:Bool):List Value:=
 [.slice k.A k.D.length k.cD,.int .i64 (k.lc:Nat),.int .i64 (k.lp:Nat),.int .i64 (k.pb:Nat),.int .i64 k.nice,.int .i64 k.chunk,.int .i64 k.block,.int .i64 k.check,k.chain,.int .u32 (k.dict:Nat),PF k.F,cv,.bool had]
def iH(w:World)(p:Nat)(k:jv)(cv:Value)(had:Bool):Prop:=w.heap[p]? =some (.cells (adH k cv had).toArray 75 (0,0))
section
variable{w w':World}{p:Nat}{k:jv}{cv:Value}{had:Bool}
theorem iH.lt(h:iH w p k cv had):p<w.heap.size:=(Array.getElem?_eq_some_iff.1 h).1
theorem iH.keep(h:iH w p k cv had)(hk:w'.heap[p]? =w.heap[p]?):iH w' p k cv had:=hk.trans h
theorem iH.below(h:iH w p k cv had)(hb:Below w.heap.size w w'):iH w' p k cv had:=h.keep (hb.block _ h.lt)
theorem iH.frozen(h:iH w p k cv had)(i:Nat):w.frozen? ⟨p,i,none⟩=false:=frozen_of_row _ _ _ _ _ h
theorem iH.data(h:iH w p k cv had):w.cell? ⟨p,0,none⟩=some (.slice k.A k.D.length k.cD):=by rw[cell_of_row w _ _ _ _ _ h];rfl
theorem iH.lc(h:iH w p k cv had):w.cell? ⟨p,1,none⟩=some (.int .i64 (k.lc:Nat)):=by rw[cell_of_row w _ _ _ _ _ h];rfl
theorem iH.lp(h:iH w p k cv had):w.cell? ⟨p,2,none⟩=some (.int .i64 (k.lp:Nat)):=by rw[cell_of_row w _ _ _ _ _ h];rfl
theorem iH.pb(h:iH w p k cv had):w.cell? ⟨p,3,none⟩=some (.int .i64 (k.pb:Nat)):=by rw[cell_of_row w _ _ _ _ _ h];rfl
theorem iH.find(h:iH w p k cv had):w.cell? ⟨p,10,none⟩=some (PF k.F):=by rw[cell_of_row w _ _ _ _ _ h];rfl
theorem iH.VB(h:iH w p k cv had):w.cell? ⟨p,11,none⟩=some cv:=by rw[cell_of_row w _ _ _ _ _ h];rfl
theorem iH.aik(h:iH w p k cv had):w.cell? ⟨p,12,none⟩=some (.bool had):=by rw[cell_of_row w _ _ _ _ _ h];rfl
theorem iH.opts(h:iH w p k cv had):w.cell? ⟨p,4,none⟩=some (.int .i64 k.nice)∧w.cell? ⟨p,5,none⟩=some (.int .i64 k.chunk)∧w.cell? ⟨p,6,none⟩=some (.int .i64 k.block)∧w.cell? ⟨p,7,none⟩=some (.int .i64 k.check)∧w.cell? ⟨p,8,none⟩=some k.chain∧w.cell? ⟨p,9,none⟩=some (.int .u32 (k.dict:Nat)):=by
 refine⟨?_,?_,?_,?_,?_,?_⟩<;>(rw[cell_of_row w _ _ _ _ _ h];rfl)
theorem iH.XV(h:iH w p k cv had)(cv':Value):iH (w.setCell ⟨p,11,none⟩ cv') p k cv' had:=heap_set h 11 cv'
theorem iH.ae3(h:iH w p k cv had)(b:Bool):iH (w.setCell ⟨p,12,none⟩ (.bool b)) p k cv b:=heap_set h 12 (.bool b)
end
abbrev iq:Type:=Option (Nat×R4×(Nat→Nat))
def wB:Nat×R4×(Nat→Nat):=(0,(1,1,1,1),fun _=>1024)
structure Tn(w:World)(k:jv)(C L:Nat)(s:Nat×R4×(Nat→Nat)):Prop where
 mod:bg w C L k.lc k.lp k.pb s.1 s.2.1 s.2.2
 st:s.1<12
 good:eP s.2.1
def ru(w:World)(k:jv)(cv:Value)(Y:List Nat):iq→Prop
 | none=>cv= .pointer none∧Y=[]
 | some s=> ∃C L,cv=PF C∧Y=[C,L]∧Tn w k C L s
theorem Tn.keep{w w':World}{k:jv}{C L:Nat}{s:Nat×R4×(Nat→Nat)}(h:Tn w k C L s)(hC:w'.heap[C]? =w.heap[C]?)(hL:w'.heap[L]? =w.heap[L]?):Tn w' k C L s:=⟨h.mod.keep hC hL,h.st,h.good⟩
theorem ru.lt{w:World}{k:jv}{cv:Value}{Y:List Nat}{s:iq}(h:ru w k cv Y s): ∀i∈Y,i<w.heap.size:=by
 cases s with
 | none=>obtain⟨_,rfl⟩:=h;intro i hi;cases hi
 | some s=>
  obtain⟨C,L,_,rfl,hc⟩:=h
  intro i hi
  simp only[List.mem_cons,List.not_mem_nil,or_false]at hi
  rcases hi with rfl | rfl
  ·exact hc.mod.EW
  ·exact hc.mod.BN
theorem ru.keep{w w':World}{k:jv}{cv:Value}{Y:List Nat}{s:iq}(h:ru w k cv Y s)(hk: ∀i∈Y,w'.heap[i]? =w.heap[i]?):ru w' k cv Y s:=by
 cases s with
 | none=>exact h
 | some s=>
  obtain⟨C,L,e,rfl,hc⟩:=h
  exact⟨C,L,e,rfl,hc.keep (hk C (by simp)) (hk L (by simp))⟩
theorem ru.below{w w':World}{k:jv}{cv:Value}{Y:List Nat}{s:iq}(h:ru w k cv Y s)(hb:Below w.heap.size w w'):ru w' k cv Y s:=h.keep fun i hi=>hb.block i (h.lt i hi)
theorem ru.apart{w:World}{k:jv}{cv:Value}{Y:List Nat}{s:iq}(h:ru w k cv Y s){j:Nat}{cs:Array Value}{t:TypeId}{x:Nat×Nat}(hj:w.heap[j]? =some (.cells cs t x))(h1:t≠146)(h2:t≠291):j ∉ Y:=by
 cases s with
 | none=>obtain⟨_,rfl⟩:=h;intro hi;cases hi
 | some s=>
  obtain⟨C,L,_,rfl,hc⟩:=h
  intro hi
  simp only[List.mem_cons,List.not_mem_nil,or_false]at hi
  rcases hi with rfl | rfl
  ·obtain⟨T,hT,_⟩:=hc.mod.box
   rw[hj]at hT;injection hT with hT;injection hT with _ e _;exact h1 e
  ·obtain⟨T,hT,_⟩:=hc.mod.lits
   rw[hj]at hT;injection hT with hT;injection hT with _ e _;exact h2 e
structure Pk(w:World)(p:Nat)(k:jv)(s:iq)(had:Bool)(Y:List Nat):Prop where
 ex: ∃cv,iH w p k cv had∧ru w k cv Y s
theorem Pk.lt{w:World}{p:Nat}{k:jv}{s:iq}{had:Bool}{Y:List Nat}(h:Pk w p k s had Y):p<w.heap.size:=by
 obtain⟨cv,h1,_⟩:=h.ex;exact h1.lt
theorem Pk.ltY{w:World}{p:Nat}{k:jv}{s:iq}{had:Bool}{Y:List Nat}(h:Pk w p k s had Y): ∀i∈Y,i<w.heap.size:=by
 obtain⟨cv,_,h2⟩:=h.ex;exact h2.lt
theorem Pk.below{w w':World}{p:Nat}{k:jv}{s:iq}{had:Bool}{Y:List Nat}(h:Pk w p k s had Y)(hb:Below w.heap.size w w'):Pk w' p k s had Y:=by
 obtain⟨cv,h1,h2⟩:=h.ex
 exact⟨cv,h1.below hb,h2.below hb⟩
theorem Pk.keep{w w':World}{p:Nat}{k:jv}{s:iq}{had:Bool}{Y:List Nat}(h:Pk w p k s had Y)(hk: ∀i∈p::Y,w'.heap[i]? =w.heap[i]?):Pk w' p k s had Y:=by
 obtain⟨cv,h1,h2⟩:=h.ex
 exact⟨cv,h1.keep (hk p (by simp)),h2.keep fun i hi=>hk i (by simp[hi])⟩
theorem Pk.own{base:Nat}{w:World}{p:Nat}{k:jv}{s:iq}{had:Bool}{Y:List Nat}(h:Pk w p k s had Y){v:Value}{l:List UInt8}(ho:Own base w v l): ∀g,v.ownBlock=some g→g ∉ p::Y:=by
 obtain⟨cv,h1,h2⟩:=h.ex
 intro g hg
 rcases ho with⟨_,⟨rfl,_⟩ | ⟨g',cap',cur,rfl,_,h4,_⟩⟩
 ·cases hg
 ·have e:g'=g:=by simpa [Value.ownBlock]using hg
  subst e
  intro hi
  rcases List.mem_cons.1 hi with rfl | hi
  ·unfold iH at h1
   rw[h4]at h1;injection h1 with h1;injection h1 with _ e _;revert e;decide
  ·exact h2.apart h4 (by decide) (by decide) hi
def lJ(lc lp pb:Nat)(D:List UInt8):List Sy→Nat→Nat×R4×jf→Nat×R4×jf
 | [],_,z=>z
 | s::l,p,z=>lJ lc lp pb D l (p+max s.l 1) ((Md.sym (aj 0) lc lp pb z.1 z.2.1 (D.take p) (s.k:Nat) s.b (s.l:Nat) (s.d:Nat) (s.r:Nat) z.2.2).2)
def xM(k:jv)(a b:Nat)(r:R4):List Sy:=(aO k.D (k.dict:Nat) k.nice b (b-a) a r).1
def codeOf(k:jv)(a b:Nat)(s:Nat×R4×(Nat→Nat)):List UInt8×(Nat×R4×(Nat→Nat)):=
 let z:=lJ k.lc k.lp k.pb k.D (xM k a b s.2.1) a (s.1,s.2.1,(s.2.2,st0))
 (Rc.be (5+z.2.2.2.k) z.2.2.2.v,(z.1,z.2.1,z.2.2.1))
end
def uV(a:Nat)(had:Bool)(s:iq):UInt8:=if a=0 then 224 else if had=false then 192 else if s.isNone=true then 160 else 128
theorem KO{w:World}{p:Nat}{k:jv}{s:iq}{had:Bool}{Y:List Nat}(h:Pk w p k s had Y)(a:Nat):
  Calls Tryz.prog 75 #[PF p,.int .i64 (a:Nat)] w fun e w'=>e= .returned (B8 (uV a had s))∧w=w':=by
 obtain⟨cv,hP,hC⟩:=h.ex
 have c11:=hP.VB
 have c12:=hP.aik
 clear h hP
 by_cases ha:a=0
 ·subst ha
  have HV:Hid (B8 (uV 0 had s)= .int .u8 224):=Lib.hid rfl
  go_enter Tryz.func75,Tryz.ntmps75
  go_wp2_with fail
  go_ret
  exact⟨congrArg Ending.returned HV.out.symm,rfl⟩
 ·have h0:((a:Int)==0)=false:=by rw[beq_eq_false_iff_ne];omega
  cases had with
  | false=>
   have HV:Hid (B8 (uV a false s)= .int .u8 192):=Lib.hid (by unfold uV;rw[if_neg ha];rfl)
   clear ha
   go_enter Tryz.func75,Tryz.ntmps75
   go_wp2_with fail
   go_ret
   exact⟨congrArg Ending.returned HV.out.symm,rfl⟩
  | true=>
   cases s with
   | none=>
    obtain⟨rfl,_⟩:=hC
    have HV:Hid (B8 (uV a true none)= .int .u8 160):=Lib.hid (by unfold uV;rw[if_neg ha];rfl)
    clear ha
    go_enter Tryz.func75,Tryz.ntmps75
    go_wp2_with fail
    go_ret
    exact⟨congrArg Ending.returned HV.out.symm,rfl⟩
   | some s=>
    obtain⟨C,L,rfl,_,_⟩:=hC
    have HV:Hid (B8 (uV a true (some s))= .int .u8 128):=Lib.hid (by unfold uV;rw[if_neg ha];rfl)
    clear ha
    go_enter Tryz.func75,Tryz.ntmps75
    go_wp2_with fail
    go_ret
    exact⟨congrArg Ending.returned HV.out.symm,rfl⟩
def fF(D:List UInt8)(a b:Nat):List UInt8:=((if a=0 then 1 else 2)::yZ (b-a-1))++(D.drop a).take (b-a)
def Gw(w:World)(p:Nat)(k:jv)(had:Bool)(l:List UInt8)(e:Ending)(w':World):Prop:= ∃v,e= .returned v∧Own w.heap.size w' v l∧Pk w' p k none had []∧Only [p] w w'
theorem Tq{w:World}{p:Nat}{k:jv}{s:iq}{had:Bool}{Y:List Nat}(h:Pk w p k s had Y){bD oD:Nat}(hA:k.A=some ⟨bD,oD,none⟩)(hB:Bytes w k.A k.D)(hpD:bD≠p)(hc:k.D.length≤k.cD)(hl:k.D.length≤100000)(a b:Nat)(hab:a<b)(hb:b≤k.D.length):
  Calls Tryz.prog 79 #[PF p,.int .i64 (a:Nat),.int .i64 (b:Nat)] w (Gw w p k had (fF k.D a b)):=by
 obtain⟨cv,hP,_⟩:=h.ex
 have hlt:=hP.lt
 have hP1:=hP.XV (.pointer none)
 have c11:=hP.VB
 have f11:=hP.frozen 11
 obtain⟨W1,hW1⟩: ∃W1,w.setCell ⟨p,11,none⟩ (.pointer none)=W1:=⟨_,rfl⟩
 have kG:Only [p] w W1:=by rw[←hW1];exact(Only.refl _ _).setCell (.inl (by simp)) _
 have hs1:W1.heap.size=w.heap.size:=by rw[←hW1];simp[World.setCell]
 rw[hW1]at hP1
 have hB1:Bytes W1 k.A k.D:=hB.only kG (fun a ha=>by rw[hA]at ha;injection ha with ha;subst ha;simpa using hpD)
 obtain⟨D,hD⟩: ∃D,k.D=D:=⟨_,rfl⟩
 have hcd:=hP1.data
 rw[hD]at hc hl hb hB1 hcd ⊢
 rw[hA]at hcd hB1
 obtain⟨cD,hcD⟩: ∃c,k.cD=c:=⟨_,rfl⟩
 rw[hcD]at hc hcd
 obtain⟨x,hx⟩: ∃x:UInt8,(if a=0 then 1 else 2)=x:=⟨_,rfl⟩
 obtain⟨R,hR⟩: ∃R,fF D a b=R:=⟨_,rfl⟩
 have hst:([x]++yZ (b-a-1))++(D.drop a).take (b-a)=R:=by rw[←hR];unfold fF;rw[hx];rfl
 rw[hR]
 obtain⟨T,hT⟩: ∃T,(D.drop a).take (b-a)=T:=⟨_,rfl⟩
 rw[hT]at hst
 have hTl:T.length=b-a:=by rw[←hT,List.length_take,List.length_drop];omega
 have hai:(a:Int)<(b:Int):=by omega
 have hbi:(b:Int)≤(D.length:Int):=by omega
 have Fb:(D.length:Int)≤100000:=by omega
 have hci:(D.length:Int)≤(cD:Int):=by omega
 have hba:(b:Int)-(a:Int)=((b-a-1+1:Nat):Int):=by omega
 obtain⟨W2,hW2⟩: ∃W2,W1.alloc (.cells #[B8 x] 5)=W2:=⟨_,rfl⟩
 have ho2:Own W1.heap.size W2 (.slice (some ⟨W1.heap.size,0,none⟩) 1 1) [x]:=by rw[←hW2];exact Own.lit W1 [x] (Nat.le_refl _) (by simp)
 have hb2:Below W1.heap.size W1 W2:=by rw[←hW2];exact(Below.refl _ _).alloc (Nat.le_refl _) _
 have HT:=Lib.hid (qC (b-a-1) (by omega) W2)
 obtain⟨T2,hT2⟩: ∃T2,yZ (b-a-1)=T2:=⟨_,rfl⟩
 have ail:T2.length=2:=by rw[←hT2];rfl
 rw[hT2]at HT hst
 have HT2:=Lib.hid ail
 clear hT2 ail
 rw[←hba]at HT
 have HW1:=Lib.hid hW1
 have HW2:=Lib.hid hW2
 have RY:=Lib.hid ho2
 have HB2:=Lib.hid hb2
 have lW:=Lib.hid kG
 have yM:=Lib.hid hs1
 have HST:=Lib.hid hst
 have Wn:=Lib.hid (And.intro hT hTl)
 have HP1:=Lib.hid hP1
 have E5:=Lib.hid hB1
 have HL:=Lib.hid (And.intro hab (And.intro hb (And.intro hl hc)))
 have HCD:=Lib.hid hcd
 have HAB:=Lib.hid hba
 have Vy:=Lib.hid (And.intro hA (And.intro hD hcD))
 have Nc:=Lib.hid hlt
 clear h hP hP1 hW1 hW2 ho2 hb2 kG hs1 hB1 hB hA hD hcD hc hl hb hab hst hcd hba hlt hpD hR hT hTl
 have hx2:(a=0∧x=1)∨(a≠0∧x=2):=by
  by_cases e:a=0
  ·left;rw[if_pos e]at hx;exact⟨e,hx.symm⟩
  ·right;rw[if_neg e]at hx;exact⟨e,hx.symm⟩
 clear hx
 have HX:Hid (∀(e:Ending) (w':World),∀v4 w4 v5,Own W1.heap.size w4 v4 ([x]++T2)→Below W1.heap.size W1 w4→Own W1.heap.size w' v5 (([x]++T2)++T)→w4.grownBy w' v4.ownBlock→e= .returned v5→Gw w p k had R e w'):=Lib.hid (by
  rintro e w' v4 w4 v5 fE hb4 qj hg5 rfl
  have hb5:Below W1.heap.size W1 w':=below_grown hb4 hg5 hb4.size (fun g e=>(fE.aF g e).1)
  rw[HST.out]at qj
  refine⟨v5,rfl,by rw[←yM.out];exact qj,⟨_,HP1.out.below hb5,rfl,rfl⟩,?_⟩
  exact lW.out.trans (Only.of_below hb5) (fun i hi=> .inl hi))
 have hfin:=HX.out
 clear HX
 have HX:=Lib.hid hfin
 clear hfin
 have lQ:=Lib.hid (show Bytes W1 (some ⟨bD,oD+a,none⟩) T from by rw[←Wn.out.1];exact(E5.out.drop a).take _)
 rcases hx2 with⟨ha,rfl⟩ | ⟨ha,rfl⟩
 ·have h0:((a:Int)==0)=true:=by rw[beq_iff_eq];omega
  clear ha
  go_enter Tryz.func79,Tryz.ntmps79
  go_upto_region 2 with fail
  rw[HW1.out]
  clear c11 f11
  go_wp2_with fail
  rw[show W1.alloc (Obj.cells #[Value.int .u8 1] 5)=W2 from HW2.out]
  refine HT.out.mono ?_
  rintro e w3 ⟨v3,rfl,ho3,hb3⟩
  obtain⟨A3,c3,rfl,_,_,hB3⟩:=ho3.read
  have HB3:=Lib.hid (HB2.out.trans (hb3.mono HB2.out.size))
  have XW:=Lib.hid (RY.out.below hb3)
  have XY:=Lib.hid hB3
  clear ho3 hb3 hB3
  go_upto_region 6 with(at_builtin;refine ay ?_ (.tmp 15) (.tmp 19) ?_ W1.heap.size w3 (.slice (some ⟨W1.heap.size,0,none⟩) 1 1) [1] ?_ XW.out A3 T2 c3 ?_ XY.out (by rw[HT2.out];decide) HB3.out.size ?_;rfl;rfl;rfl;rfl;intro v4 w4 fE hg4;have J5:=Lib.hid fE;have HB4:=Lib.hid (below_grown HB3.out hg4 HB3.out.size (fun g e=>(XW.out.aF g e).1));have hcd:=((HP1.out.below HB4.out).data);rw[Vy.out.1,Vy.out.2.1,Vy.out.2.2]at hcd;clear fE hg4)
  go_wp2_with (at_builtin;refine ay ?_ (.tmp 21) (.tmp 28) ?_ W1.heap.size w4 v4 ([1]++T2) ?_ J5.out (some ⟨bD,oD+a,none⟩) T (cD-a) ?_ (lQ.out.below HB4.out) (by rw[Wn.out.2];have:=HL.out;rw[List.length_append,HT2.out];simp;omega) HB4.out.size ?_;rfl;rfl;rfl;rw[Wn.out.2];rfl;intro v5 w5 qj hg5;have vX:=Lib.hid (HX.out _ _ v4 w4 v5 J5.out HB4.out qj hg5 rfl);clear qj hg5)
  go_ret
  exact vX.out
 ·have h0:((a:Int)==0)=false:=by rw[beq_eq_false_iff_ne];omega
  clear ha
  go_enter Tryz.func79,Tryz.ntmps79
  go_upto_region 2 with fail
  rw[HW1.out]
  clear c11 f11
  go_wp2_with fail
  rw[show W1.alloc (Obj.cells #[Value.int .u8 2] 5)=W2 from HW2.out]
  refine HT.out.mono ?_
  rintro e w3 ⟨v3,rfl,ho3,hb3⟩
  obtain⟨A3,c3,rfl,_,_,hB3⟩:=ho3.read
  have HB3:=Lib.hid (HB2.out.trans (hb3.mono HB2.out.size))
  have XW:=Lib.hid (RY.out.below hb3)
  have XY:=Lib.hid hB3
  clear ho3 hb3 hB3
  go_upto_region 6 with(at_builtin;refine ay ?_ (.tmp 15) (.tmp 19) ?_ W1.heap.size w3 (.slice (some ⟨W1.heap.size,0,none⟩) 1 1) [2] ?_ XW.out A3 T2 c3 ?_ XY.out (by rw[HT2.out];decide) HB3.out.size ?_;rfl;rfl;rfl;rfl;intro v4 w4 fE hg4;have J5:=Lib.hid fE;have HB4:=Lib.hid (below_grown HB3.out hg4 HB3.out.size (fun g e=>(XW.out.aF g e).1));have hcd:=((HP1.out.below HB4.out).data);rw[Vy.out.1,Vy.out.2.1,Vy.out.2.2]at hcd;clear fE hg4)
  go_wp2_with (at_builtin;refine ay ?_ (.tmp 21) (.tmp 28) ?_ W1.heap.size w4 v4 ([2]++T2) ?_ J5.out (some ⟨bD,oD+a,none⟩) T (cD-a) ?_ (lQ.out.below HB4.out) (by rw[Wn.out.2];have:=HL.out;rw[List.length_append,HT2.out];simp;omega) HB4.out.size ?_;rfl;rfl;rfl;rw[Wn.out.2];rfl;intro v5 w5 qj hg5;have vX:=Lib.hid (HX.out _ _ v4 w4 v5 J5.out HB4.out qj hg5 rfl);clear qj hg5)
  go_ret
  exact vX.out
end Go.Proofs.YtgfpocdiojifoaaGreatDoor
