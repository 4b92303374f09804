import Derived.Test.YtfcaoggfnkhfiaaGreatDoorZ09
import Derived.BigRegionIn
import Derived.Maps.OwnRows
import Derived.WideKeyEntry
import Derived.Test.YtfcaoggfnkhfiaaGreatDoorRows
import Derived.Deep.RegionHeld3
import Derived.Deep.DeepCutAuto
namespace Go.Proofs.YtfcaoggfnkhfiaaGreatDoor
set_option maxRecDepth 100000
set_option maxHeartbeats 8000000
open Go.RowKit Go.Proofs.Tryz
section
open Go.RowKit Go.Shelf
attribute [local go_sem] Oper.semAt_some
theorem dx.more{S T:Nat→Prop}{f:Nat→Nat}{n k:Nat}(h:dx S f n k)(hST: ∀j,S j→T j)(hT: ∀j,T j→S j∨(f j≤n∧ ∀s,S s→s<j)):dx T f n k:=by
 refine⟨fun j hj=> ?_,fun j hj aH=> ?_,h.at_.imp id fun⟨a,b⟩=>⟨hST k a,b⟩⟩
 ·rcases hT j hj with e | ⟨e,_⟩
  ·exact h.le j e
  ·exact e
 ·rcases hT j hj with e | ⟨_,e⟩
  ·exact h.lt j e aH
  ·rcases h.at_ with⟨_,rfl⟩ | ⟨e2,_⟩
   ·omega
   ·have:=e k e2;omega
def gt(place:Nat)(L:List Nat)(j:Nat):Prop:= ∃x∈L,j=place-x
theorem Nr{place j:Nat}: ¬gt place [] j:=fun⟨_,h,_⟩=>iR
theorem yt{place:Nat}{L:List Nat}{x j:Nat}:gt place (L++[x]) j↔gt place L j∨j=place-x:=by
 unfold gt;constructor
 ·rintro⟨y,hy,rfl⟩;rcases List.mem_append.1 hy with h | h;·exact .inl ⟨y,h,rfl⟩
  ·rw[List.mem_singleton]at h;subst h;exact .inr rfl
 ·rintro(⟨y,hy,rfl⟩ | rfl);·exact⟨y,List.mem_append_left _ hy,rfl⟩
  ·exact⟨x,ag,rfl⟩
theorem KeepsOthers.drewN(W:World)(m:Nat):KeepsOthers W (W.drewN m):=⟨Nat.le_refl _,fun _ _ h _=>h⟩
structure fk(w:World)(b0 b1 b2 b3 b4:Nat)(f:Nat→Nat)(place lm:Nat)(Fp:Nat)(n k:Nat)(S:Nat→Prop)(W:World):Prop where
 below:Below w.heap.size w W
 bf:aT b0 W (PF Fp)
 bp:aT b1 W (.int .i64 (place:Nat))
 bl:aT b2 W (.int .i64 (lm:Nat))
 bn:aT b3 W (.int .i64 (n:Nat))
 bd:aT b4 W (.int .i64 (k:Nat))
 F3:dx S f n k
 le:n≤lm
 kl:k≤place
theorem aT.lt{b:Nat}{w:World}{v:Value}(h:aT b w v):b<w.heap.size:=by obtain⟨t,h⟩:=h;exact(cr h)
theorem aT.set{b:Nat}{w:World}{v:Value}(h:aT b w v)(u:Value):aT b (w.setCell ⟨b,0,none⟩ u) u:=by obtain⟨t,h⟩:=h;exact⟨t,by rw[heap_setCell_same w b 0 _ _ u h];rfl⟩
theorem aT.frozen{b:Nat}{w:World}{v:Value}(h:aT b w v):w.frozen? ⟨b,0,none⟩=false:=by obtain⟨t,h⟩:=h;exact frozen_of_row w b 0 _ _ h
theorem aT.other{b b':Nat}{w:World}{v:Value}(h:aT b w v)(u:Value)(dH:b≠b'):aT b (w.setCell ⟨b',0,none⟩ u) v:=h.aA (ah _ _ _ _ dH)
section
variable{w W W':World}{b0 b1 b2 b3 b4:Nat}{f:Nat→Nat}{place lm:Nat}{Fp n k:Nat}{S:Nat→Prop}
theorem fk.aA(h:fk w b0 b1 b2 b3 b4 f place lm Fp n k S W)(hb:Below w.heap.size w W')(hk: ∀i v,aT i W v→W'.heap[i]? =W.heap[i]?):fk w b0 b1 b2 b3 b4 f place lm Fp n k S W':=
 ⟨hb,h.bf.aA (hk _ _ h.bf),h.bp.aA (hk _ _ h.bp),h.bl.aA (hk _ _ h.bl),h.bn.aA (hk _ _ h.bn),h.bd.aA (hk _ _ h.bd),h.F3,h.le,h.kl⟩
theorem fk.to{T:Nat→Prop}(h:fk w b0 b1 b2 b3 b4 f place lm Fp n k S W)(hb:dx T f n k):fk w b0 b1 b2 b3 b4 f place lm Fp n k T W:=
 ⟨h.below,h.bf,h.bp,h.bl,h.bn,h.bd,hb,h.le,h.kl⟩
theorem fk.alloc(h:fk w b0 b1 b2 b3 b4 f place lm Fp n k S W)(o:Obj):fk w b0 b1 b2 b3 b4 f place lm Fp n k S (W.alloc o):=
 h.aA (h.below.alloc h.below.size _) fun _ _ hi=>Below.heap_alloc _ _ _ hi.lt
theorem fk.drewN(h:fk w b0 b1 b2 b3 b4 f place lm Fp n k S W)(m:Nat):fk w b0 b1 b2 b3 b4 f place lm Fp n k S (W.drewN m):=
 h.aA (below_drewN h.below m) fun _ _ hi=>(below_drewN (Below.refl _ _) m:Below W.heap.size W (W.drewN m)).block _ hi.lt
theorem fk.putObj(h:fk w b0 b1 b2 b3 b4 f place lm Fp n k S W)(l:Nat)(o o':Obj)(hl:w.heap.size≤l)(Ap:W.heap[l]? =some o)(ho:o.isCells=false):fk w b0 b1 b2 b3 b4 f place lm Fp n k S (W.putObj l o'):=by refine h.aA (h.below.grown (grownBy_putObj' W l o') h.below.size (fun k e=>tZ)) fun i v hi=>World.putObj_heap_other ?_;rintro rfl;obtain⟨t,hv⟩:=hi;rw[hv]at Ap;cases Ap;cases ho
theorem fk.cells(h:fk w b0 b1 b2 b3 b4 f place lm Fp n k S W):W.cell? ⟨b0,0,none⟩=some (PF Fp)∧W.cell? ⟨b1,0,none⟩=some (.int .i64 (place:Nat))∧W.cell? ⟨b2,0,none⟩=some (.int .i64 (lm:Nat))∧W.cell? ⟨b3,0,none⟩=some (.int .i64 (n:Nat))∧W.cell? ⟨b4,0,none⟩=some (.int .i64 (k:Nat)):=
 ⟨h.bf.cell,h.bp.cell,h.bl.cell,h.bn.cell,h.bd.cell⟩
end
def yu(d:List UInt8)(place lm:Nat)(dict:Int)(L:List Nat)(w:World)(e:Ending)(w':World):Prop:= ∃n k,e= .returned (.tuple #[.int .i64 (n:Nat),.int .i64 (k:Nat)])∧dx (fun j=>(j:Int)≤dict∧gt place L j) (fun j=>bu d place (place-j) lm) n k∧Below w.heap.size w w'
theorem aa7(w:World)(v0 v1 v2 v3 v4:Value)(t0 t1 t2 t3 t4:TypeId)(W:World)(hW:((((w.alloc (.cells #[v0] t0)).alloc (.cells #[v1] t1)).alloc (.cells #[v2] t2)).alloc (.cells #[v3] t3)).alloc (.cells #[v4] t4)=W):
  Below w.heap.size w W∧aT w.heap.size W v0∧aT (w.heap.size+1) W v1∧aT (w.heap.size+1+1) W v2∧aT (w.heap.size+1+1+1) W v3∧aT (w.heap.size+1+1+1+1) W v4:=by
 subst hW;have up: ∀{b:Nat} {W:World} {v:Value} (o:Obj),aT b W v→aT b (W.alloc o) v:=fun o h=>h.aA (Below.heap_alloc _ _ _ h.lt);have mk: ∀(W:World) (v:Value) (t:TypeId) (b:Nat),b=W.heap.size→aT b (W.alloc (.cells #[v] t)) v:=fun W v t b e=>by subst e;exact aT.made W v t
 refine⟨?_,up _ (up _ (up _ (up _ (mk _ _ _ _ rfl)))),up _ (up _ (up _ (mk _ _ _ _ ag))),up _ (up _ (mk _ _ _ _ ag)),up _ (mk _ _ _ _ ag),mk _ _ _ _ ag⟩;refine Below.alloc ?_ av _;refine Below.alloc ?_ av _;refine Below.alloc ?_ av _;refine Below.alloc ?_ ag _;exact ar
theorem vE(Fp:Nat)(A:Option Addr)(c:Nat)(d:List UInt8)(dict nice:Int)(mp:Nat)(v4:Value)(place lm:Nat)(gf:Nat)(lb:Array Value)(L:List Nat)(w:World)
  (hF:cZ w Fp A c d dict nice mp v4) (hp:place+lm≤d.length) (h1:1≤lm) (hL: ∀x∈L,x<place) (i':L.Pairwise (· > ·)) (eg: ∀args w,(callFunc gf args).run prog w= .ok (.enter gf args) w)
  (Bj:LO Fence.wide 3 prog gf lb L w):
  Calls prog 229 #[PF Fp,.int .i64 (place:Nat),.int .i64 (lm:Nat),.func (.func gf) #[] lb] w (yu d place lm dict L w):=by
 have AU:(place:Int)≤100000:=am hF.small;have qw:(lm:Int)≤100000:=am hF.small;have hdi:(d.length:Int)≤100000:=am hF.small;have pW:(d.length:Int)≤(c:Int):=am hF.cap;have HF:=ae hF;have amf:=ae Bj;have HEG:=ae eg;have HL:=ae hL;have afp:=ae i';have HP:=ae hp;clear hF Bj eg hL i' hp;refine(callsIn_wide (n:=4)).1 ?_;refine callsIn_of_wp_marks func229 rfl trivial ?_ rfl;simp only[ntmps229,List.size_toArray,List.length_cons,List.length_nil,Nat.reduceAdd,Nat.reduceSub,Array.replicate_succ,Array.replicate_zero,List.push_toArray,List.append_toArray,List.nil_append,List.cons_append]
 gi_wp2
 generalize Fb:((((w.alloc _).alloc _).alloc _).alloc _).alloc _=W0;obtain⟨oo,x0,x1,x2,x3,x4⟩:=aa7 _ _ _ _ _ _ _ _ _ _ _ _ Fb;have VS:Hid (w.heap.size<w.heap.size+1):=ae aa;have dH:(w.heap.size≠w.heap.size+1+1+1∧w.heap.size+1≠w.heap.size+1+1+1∧w.heap.size+1+1≠w.heap.size+1+1+1)∧(w.heap.size≠w.heap.size+1+1+1+1∧w.heap.size+1≠w.heap.size+1+1+1+1∧w.heap.size+1+1≠w.heap.size+1+1+1+1)∧w.heap.size+1+1+1≠w.heap.size+1+1+1+1:=aa;have Lk:w.heap.size≤w.heap.size+1+1+1∧w.heap.size≤w.heap.size+1+1+1+1:=aa;have⟨s,hs⟩:=ex (w.heap.size);obtain⟨b4,bm⟩: ∃b,s+1+1+1+1=b:=⟨_,rfl⟩
 obtain⟨b3,bA⟩: ∃b,s+1+1+1=b:=⟨_,rfl⟩
 obtain⟨b2,aD⟩: ∃b,s+1+1=b:=⟨_,rfl⟩
 obtain⟨b1,az⟩: ∃b,s+1=b:=⟨_,rfl⟩
 rw[hs]at dH Lk x0 x1 x2 x3 x4 ⊢;rw[bm]at dH Lk x4 ⊢;rw[bA]at dH Lk x3 ⊢;rw[aD]at dH x2 ⊢;rw[az]at dH x1 ⊢;have DP:=ae dH;have oH:Hid (w.heap.size≤b3∧w.heap.size≤b4):=ae (by rw[hs];exact Lk);clear Fb VS az aD bA bm dH Lk
 refine Bi rfl ak (gf:=gf) (lb:=lb) rfl trivial HEG.out amf.out rfl
  (fun pre W=> ∃n k,fk w s b1 b2 b3 b4 (fun j=>bu d place (place-j) lm) place lm Fp n k (gt place pre) W∧ ∀y∈pre,(place:Int)-(y:Int)≤dict)
  (fun e W=>e=Code.exit 0∧ ∃n k,fk w s b1 b2 b3 b4 (fun j=>bu d place (place-j) lm) place lm Fp n k (fun j=>(j:Int)≤dict∧gt place L j) W)
  (fun s W o ⟨n,k,h,hd⟩=>⟨n,k,h.alloc o,hd⟩) (fun s W l o o' ⟨n,k,h,hd⟩ hl Ap ho=>⟨n,k,h.putObj l o o' (Nat.le_trans oo.size hl) Ap ho,hd⟩) (fun s W ⟨n,k,h,hd⟩=>h.below) (fun s W m ⟨n,k,h,hd⟩=>⟨n,k,h.drewN m,hd⟩)
  (fun e W l o o' ⟨he,n,k,h⟩ hl Ap ho=>⟨he,n,k,h.putObj l o o' (Nat.le_trans oo.size hl) Ap ho⟩) (fun e W m ⟨he,n,k,h⟩=>⟨he,n,k,h.drewN m⟩)
  ⟨0,0,⟨oo,x0,x1,x2,x3,x4,(dx.none _).iff fun j=>⟨fun h=>Nr h,fun h=>h.elim⟩,Nat.zero_le _,Nat.zero_le _⟩,fun y hy=>by cases hy⟩
  (fun x=>{tmps:= #[PF Fp,.int .i64 (place:Nat),.int .i64 (lm:Nat),.func (.func gf) #[] lb,.pointer (some ⟨s,0,none⟩),.pointer (some ⟨b1,0,none⟩),.pointer (some ⟨b2,0,none⟩),undef,.int .i64 0,.int .i64 0,.pointer (some ⟨b3,0,none⟩),.pointer (some ⟨b4,0,none⟩),.int .i64 (x:Nat),undef,.func (.func gf) #[] lb,.int .i64 (x:Nat),undef,undef,undef,undef,undef,undef,undef,undef,undef,undef,undef,undef,undef,undef,undef,undef,undef,undef,undef,undef,undef,undef,undef,undef,undef,undef,undef,undef,undef,undef,undef,undef,undef,undef,undef,undef,undef,undef,undef,undef,undef,undef,undef,undef,undef,undef],defers:=[]}) ?assign ?body ?done ?stop
 case assign=>
  intro l x W K hK
  gi_wp2
  exact hK
 case body=>
  rintro l pre x t W jN ⟨n,k,hI,qO⟩;have hx:x<place:=HL.out x (by rw[jN];simp);have AB:=afp.out;rw[jN,List.pairwise_append]at AB;have afq: ∀y∈pre,x<y:=fun y hy=>AB.2.2 y hy x ag;have qP: ∀y∈t,y<x:=(List.pairwise_cons.1 AB.2.1).1;have Ci: ∀s,gt place pre s→s<place-x:=by rintro _ ⟨y,hy,rfl⟩;have:=afq y hy;have:=HL.out y (by rw[jN];simp[hy]);omega
  have hDL: ∀j,gt place L j↔gt place pre j∨j=place-x∨gt place t j:=by
   intro j;rw[jN];constructor
   ·rintro⟨y,hy,rfl⟩;rcases List.mem_append.1 hy with h | h;·exact .inl ⟨y,h,rfl⟩
    ·rcases List.mem_cons.1 h with rfl | h;·exact .inr (.inl rfl)
     ·exact .inr (.inr ⟨y,h,rfl⟩)
   ·rintro(⟨y,hy,rfl⟩ | rfl | ⟨y,hy,rfl⟩);·exact⟨y,by simp[hy],rfl⟩
    ·exact⟨x,ag,rfl⟩
    ·exact⟨y,by simp[hy],rfl⟩
  have u': ∀j,gt place t j→place-x<j:=by rintro _ ⟨y,hy,rfl⟩;have:=qP y hy;omega
  have QP: ∀j,gt place pre j→(j:Int)≤dict:=by rintro _ ⟨y,hy,rfl⟩;have:=qO y hy;have:=HL.out y (by rw[jN];simp[hy]);omega
  obtain⟨cf,cp,cl,cn,cd⟩:=hI.cells;have hFW:=HF.out.below hI.below;obtain⟨f0,f1,_,_,_⟩:=hFW.cells;have Z8:(x:Int)<(place:Int):=aa;have hle:=hI.le;have Bl:(n:Int)≤(lm:Int):=aa;have HI:=ae hI;have Se:=ae hDL;have F4:=ae Ci;have C':=ae u';have HIN:=ae QP;have afr:=ae qO;have HX:=ae hx;have HFW:=ae hFW;clear hI hDL Ci u' QP AB afq qP qO jN hx hFW hle;by_cases hd:dict<(place:Int)-(x:Int)
  ·have FY:Hid (∃n k,fk w s b1 b2 b3 b4 (fun j=>bu d place (place-j) lm) place lm Fp n k (fun j=>(j:Int)≤dict∧gt place L j) W):=ae ⟨n,k,HI.out.to (HI.out.F3.iff fun j=>by
    rw[Se.out];constructor
    ·rintro⟨h1,h | rfl | h⟩;·exact h
     ·have:=HX.out;omega
     ·have:=C'.out j h;have:=HX.out;omega
    ·exact fun h=>⟨HIN.out j h,.inl h⟩)⟩
   gi_wp2
   refine dL rfl ai ai ai ?_;repeat (gi_big_quiet_step (fail))
   refine wpQuietIn_nil ?_;rintro _ ⟨nq,rfl⟩
   gi_wp2
   obtain⟨n',k',bQ⟩:=FY.out;exact⟨KeepsOthers.drewN _ _,rfl,n',k',bQ.drewN _⟩
  ·have hd':decide (dict<(place:Int)-(x:Int))=false:=(by simp;omega);have jz: ¬dict<(place:Int)-(x:Int):=hd;by_cases hn:n=lm
   ·have FY:Hid (∃n k,fk w s b1 b2 b3 b4 (fun j=>bu d place (place-j) lm) place lm Fp n k (fun j=>(j:Int)≤dict∧gt place L j) W):=ae ⟨n,k,HI.out.to (HI.out.F3.more (fun j hj=>⟨HIN.out j hj,(Se.out j).2 (.inl hj)⟩) fun j hj=>by
     rcases(Se.out j).1 hj.2 with h | h;·exact .inl h
     ·refine .inr ⟨by rw[hn];exact jC _ _ _ _,fun s hs=> ?_⟩;have h1:=F4.out s hs;rcases h with rfl | h;·exact h1
      ·have:=C'.out j h;omega)⟩
    have he:((n:Int)==(lm:Int))=true:=(by rw[hn];simp);clear hn
    gi_wp2
    refine dL rfl ai ai ai ?_;repeat (gi_big_quiet_step (fail))
    refine wpQuietIn_nil ?_;rintro _ ⟨nq,rfl⟩
    gi_wp2
    obtain⟨n',k',bQ⟩:=FY.out;exact⟨KeepsOthers.drewN _ _,rfl,n',k',bQ.drewN _⟩
   ·have he:((n:Int)==(lm:Int))=false:=(by rw[beq_eq_false_iff_ne];omega);have auT:(n:Int)<(lm:Int):=aa;have Qg:Hid (∀y∈pre++[x],(place:Int)-(y:Int)≤dict):=ae (fun y hy=>by
     rcases List.mem_append.1 hy with h | h;·exact afr.out y h
     ·rw[List.mem_singleton]at h;subst h;omega)
    have HM:Hid (∀m,Calls prog 232 #[PF Fp,.int .i64 (place:Nat),.int .i64 (x:Nat),.int .i64 (lm:Nat)] (W.drewN m) fun e w'=>e= .returned (.int .i64 (bu d place x lm:Nat))∧ ∃q,w'=(W.drewN m).drewN q):=ae (fun m=>by
     have:=FZ Fp A c d dict nice mp v4 place x (lm:Int) _ (HFW.out.drewN m) (by have:=HP.out;simpa using this) (am HX.out);simpa only[Int.toNat_natCast]using this)
    have⟨g,hg⟩:=ex (bu d place x lm);have tT:(g:Int)≤(lm:Int):=am (jC d place x lm);rw[hg]at HM;have HG:=ae hg;clear hg;obtain⟨b,off,rfl,_,dm⟩:=HFW.out.bytes.addr (am HP.out);have⟨y,hy⟩:=ex (place+n:Nat);have hyi:(place:Int)+(n:Int)=(y:Int):=aa;have⟨z,hz⟩:=ex (x+n:Nat);have VT:(x:Int)+(n:Int)=(z:Int):=aa;have hyl:(y:Int)<(d.length:Int):=am HP.out;have VG:(z:Int)<(d.length:Int):=am HP.out;have cy:=dm y aa;have cz:=dm z aa;have e1:=dj (d:=d) (i:=y) aa;have e2:=dj (d:=d) (i:=z) aa;generalize d[y]'aa=u at*;generalize d[z]'aa=v at*;have Jq:=ae (And.intro (hy▸e1:d.getD (place+n) 0=u) (hz▸e2:d.getD (x+n) 0=v));have B9:Hid (place-(place-x)=x):=ae aa;have wS:Hid (∀m,fk w s b1 b2 b3 b4 (fun j=>bu d place (place-j) lm) place lm Fp n k (gt place pre) (W.drewN m)):=ae (fun m=>HI.out.drewN m);have Sf:Hid (bu d place x lm≤n→ ∀m,∃n k,fk w s b1 b2 b3 b4 (fun j=>bu d place (place-j) lm) place lm Fp n k (gt place (pre++[x])) (W.drewN m)):=ae (fun h m=>⟨n,k,(wS.out m).to (((wS.out m).F3.skip F4.out (by show bu d place (place-(place-x)) lm≤n;rw[B9.out];exact h)).iff fun j=>yt)⟩);clear hn hy hz e1 e2 dm;by_cases LU:v=u
    ·have dH:((v.toNat:Int) !=(u.toNat:Int))=false:=(by rw[LU];simp);have amh:((v.toNat:Int)==(u.toNat:Int))=true:=(by rw[LU];simp);clear LU;have HGN:Hid (n<g→dx (gt place (pre++[x])) (fun j=>bu d place (place-j) lm) g (place-x)):=ae (fun h=>by
      have e:bu d place (place-(place-x)) lm=g:=(by rw[B9.out];exact HG.out);have:=HI.out.F3.take (j:=place-x) F4.out (by show n<bu d place (place-(place-x)) lm;rw[e];exact h);rw[e]at this;exact this.iff fun j=>yt)
     gi_wp2
     refine dL rfl ai ai ai ?_;repeat (gi_big_quiet_step (fail))
     refine wpQuietIn_nil ?_;rintro _ ⟨nq,rfl⟩
     gi_wp2
     refine dL rfl ai ai ai ?_;repeat (gi_big_quiet_step (fail))
     refine wpQuietIn_nil ?_;rintro _ ⟨nr,rfl⟩
     gi_wp2
     refine⟨trivial,(CallsIn.inRound _ (callsIn_wide.2 (HM.out _))).mono ?_⟩;rintro e w' ⟨rfl,ns,rfl⟩;by_cases F5:n<g
     ·have ami:decide ((n:Int)<(g:Int))=true:=(by simp;omega);have amj:(n:Int)<(g:Int):=aa;obtain⟨⟨n03,n13,n23⟩,⟨n04,n14,n24⟩,n34⟩:=DP.out;have n31:=n13.symm;have n43:=n34.symm;have n41:=n14.symm;have fn:=HI.out.bn.frozen;have fd:=HI.out.bd.frozen;have⟨k2,l6⟩:=ex (place-x);have au0:(k2:Int)≤100000:=aa;have hpx:(place:Int)-(x:Int)=(k2:Int):=aa;have vq:IntKind.i64.wrap (k2:Int)=(k2:Int):=IntWalk.i64_in _ aa;have rA:Hid (∀m,KeepsOthers W (((W.drewN m).setCell ⟨b3,0,none⟩ (.int .i64 (g:Nat))).setCell ⟨b4,0,none⟩ (.int .i64 (k2:Nat)))∧ ∃n k,fk w s b1 b2 b3 b4 (fun j=>bu d place (place-j) lm) place lm Fp n k (gt place (pre++[x])) (((W.drewN m).setCell ⟨b3,0,none⟩ (.int .i64 (g:Nat))).setCell ⟨b4,0,none⟩ (.int .i64 (k2:Nat)))):=ae (fun m=>by
       have h:=wS.out m;exact⟨((KeepsOthers.drewN _ _).trans (KeepsOthers.setCell _ _ _)).trans (KeepsOthers.setCell _ _ _),g,k2,(h.below.setCell oH.out.1 _).setCell oH.out.2 _,(h.bf.other _ n03).other _ n04,(h.bp.other _ n13).other _ n14,(h.bl.other _ n23).other _ n24,(h.bn.set _).other _ n34,(h.bd.other _ n43).set _,by rw[←l6];exact HGN.out F5,aa,aa⟩)
      clear l6
      gi_wp2
      gi_region
      all_goals gi_wp2
      all_goals(obtain⟨hk,n',k',bQ⟩:=rA.out (nq+nr+ns+1);exact⟨hk,n',k',bQ,Qg.out⟩)
     ·have ami:decide ((n:Int)<(g:Int))=false:=(by simp;omega);have amj: ¬(n:Int)<(g:Int):=aa
      gi_wp2
      obtain⟨n',k',bQ⟩:=Sf.out (by rw[HG.out];omega) (nq+nr+ns);exact⟨KeepsOthers.drewN _ _,n',k',bQ,Qg.out⟩
    ·have dH:((v.toNat:Int) !=(u.toNat:Int))=true:=(by rw[bne_iff_ne];intro h;exact LU (UInt8.toNat_inj.1 aa));have amh:((v.toNat:Int)==(u.toNat:Int))=false:=(by rw[beq_eq_false_iff_ne];intro h;exact LU (UInt8.toNat_inj.1 aa));have hcut:Hid (bu d place x lm≤n):=ae (Nl (by rw[Jq.out.1,Jq.out.2];exact LU));clear LU
     gi_wp2
     refine dL rfl ai ai ai ?_;repeat (gi_big_quiet_step (fail))
     refine wpQuietIn_nil ?_;rintro _ ⟨nq,rfl⟩
     gi_wp2
     refine dL rfl ai ai ai ?_;repeat (gi_big_quiet_step (fail))
     refine wpQuietIn_nil ?_;rintro _ ⟨nr,rfl⟩
     gi_wp2
     rw[World.drewN_drewN];obtain⟨n',k',bQ⟩:=Sf.out hcut.out (nq+nr);exact⟨KeepsOthers.drewN _ _,n',k',bQ,Qg.out⟩
 case done=>
  rintro D W hD ⟨n,k,hI,qO⟩ hK;have Sh:Hid (fk w s b1 b2 b3 b4 (fun j=>bu d place (place-j) lm) place lm Fp n k (fun j=>(j:Int)≤dict∧gt place L j) W):=ae (hI.to (hI.F3.iff fun j=>by
   constructor;·exact fun h=>h.2
   ·rintro⟨y,hy,rfl⟩;have h1:=qO y hy;have h2:=HL.out y hy;exact⟨aa,y,hy,rfl⟩))
  obtain⟨cf,cp,cl,cn,cd⟩:=Sh.out.cells;clear hI qO
  gi_wp2
  refine wpIn_region_quiet_lit rfl ai ai ?_;repeat (gi_big_quiet_step (fail))
  refine wpQuietIn_nil ?_;rintro _ ⟨nq,rfl⟩
  gi_wp2
  refine⟨ag,.inl ⟨_,_,rfl,run_takeDeferred (b:=D) (ds:=[]) hK,?_⟩⟩;refine⟨_,results_tmp2 rfl _ _ _,n,k,rfl,Sh.out.F3,?_⟩;have hbq:=(Sh.out.drewN nq).below;exact hbq.grown (grownBy_putObj' (W.drewN nq) D (.deferred none)) hbq.size (fun k e=>by cases e;exact Nat.le_trans oo.size hD)
 case stop=>
  rintro D _ W hD ⟨rfl,n,k,hI⟩ hK;obtain⟨cf,cp,cl,cn,cd⟩:=hI.cells;have Sh:=ae hI;clear hI
  gi_wp2
  refine wpIn_region_quiet_lit rfl ai ai ?_;repeat (gi_big_quiet_step (fail))
  refine wpQuietIn_nil ?_;rintro _ ⟨nq,rfl⟩
  gi_wp2
  refine⟨ag,.inl ⟨_,_,rfl,run_takeDeferred (b:=D) (ds:=[]) hK,?_⟩⟩;refine⟨_,results_tmp2 rfl _ _ _,n,k,rfl,Sh.out.F3,?_⟩;have hbq:=(Sh.out.drewN nq).below;exact hbq.grown (grownBy_putObj' (W.drewN nq) D (.deferred none)) hbq.size (fun k e=>by cases e;exact Nat.le_trans oo.size hD)
end
section
section
variable{d:List UInt8}{place:Nat}{dict:Int}
def sO(d:List UInt8)(place L:Nat)(j:Nat):Nat:=bu d place (place-j) L
def depth(place:Nat)(dict:Int):Nat:=(min (place:Int) dict).toNat
def S4(d:List UInt8)(place:Nat)(dict:Int)(j:Nat):Prop:=(j:Int)≤dict∧gt place (chain d (four d place) place) j
theorem aft{j:Nat}(h:S4 d place dict j):1≤j∧j≤depth place dict:=by obtain⟨h1,x,hx,rfl⟩:=h;have:=(kC.1 hx).1;unfold depth;omega
theorem D'{L j:Nat}(h1:1≤j)(h2:j≤depth place dict)(h:4≤sO d place L j):S4 d place dict j:=by unfold depth at h2;refine⟨aa,place-j,kC.2 ⟨aa,F0 h⟩,aa⟩
def S2(L2:List Nat)(place:Nat)(dict:Int)(j:Nat):Prop:=(j:Int)≤dict∧gt place L2 j
theorem Ns{L n k:Nat}(h:dx (S4 d place dict) (sO d place L) n k)(h4:4≤n):(n,k)=dN (sO d place L) (depth place dict):=by have h1:=h.all (m:=4) (fun j hj=>aft hj) (fun j a b c=>D' a b c) h4 ak;obtain⟨e1,e2⟩:=h1.unique (kA _ _);rw[e1,e2]
theorem XF{L n k:Nat}(h:dx (S4 d place dict) (sO d place L) n k)(h4:n<4): ∀j,1≤j→j≤depth place dict→sO d place L j≤3:=by
 intro j h1 h2;rcases Nat.lt_or_ge (sO d place L j) 4 with h3 | h3;·omega
 ·have:=h.le j (D' h1 h2 h3);omega
theorem Cj{L2:List Nat}{L M n k:Nat}(hL2: ∀x,x∈L2↔x<place∧d.getD x 0=d.getD place 0∧d.getD (x+1) 0=d.getD (place+1) 0)(hM:2≤M)(Nt:M≤L)(hf: ∀j,1≤j→j≤depth place dict→sO d place L j≤M)
  (h:dx (S2 L2 place dict) (sO d place M) n k):(n,k)=if(dN (sO d place L) (depth place dict)).1<2 then(0,0)else dN (sO d place L) (depth place dict):=by
 have QP: ∀j,S2 L2 place dict j→1≤j∧j≤depth place dict:=by rintro _ ⟨h1,x,hx,rfl⟩;have:=((hL2 x).1 hx).1;unfold depth;omega
 have he: ∀j,1≤j→j≤depth place dict→sO d place M j=sO d place L j:=fun j h1 h2=>by have:=hf j h1 h2;unfold sO at this ⊢;rw[FX Nt];omega
 have hof: ∀j,1≤j→j≤depth place dict→2≤sO d place L j→S2 L2 place dict j:=fun j h1 h2 h3=>by unfold depth at h2;obtain⟨p1,p2⟩:=F1 h3;exact⟨aa,place-j,(hL2 _).2 ⟨aa,p1,p2⟩,aa⟩
 have h2:dx (S2 L2 place dict) (sO d place L) n k:=by
  refine⟨fun j hj=> ?_,fun j hj aH=> ?_,h.at_.imp id fun⟨a,b,c⟩=>⟨a,?_,c⟩⟩;·obtain⟨a,b⟩:=QP j hj;rw[←he j a b];exact h.le j hj
  ·obtain⟨a,b⟩:=QP j hj;rw[←he j a b];exact h.lt j hj aH
  ·obtain⟨a',b'⟩:=QP k a;rw[←he k a' b'];exact b
 have hB:=kA (sO d place L) (depth place dict);by_cases hn:2≤n;·obtain⟨e1,e2⟩:=(h2.all (m:=2) QP hof hn ak).unique hB;rw[if_neg aa,e1,e2]
 ·have Bc:n=0∧k=0:=by
   rcases h2.at_ with e | ⟨a,b,c⟩
   ·exact e
   ·exfalso;obtain⟨_,x,hx,e⟩:=a;obtain⟨x1,x2,x3⟩:=(hL2 x).1 hx;have:2≤sO d place L k:=by
     have hk:place-k=x:=aa;unfold sO;rw[hk];have hl:=d9 d L place x;rcases Nat.lt_or_ge (bu d place x L) 2 with g | g
     ·exfalso;rcases hl.stop with e1 | e1;·omega
      ·have:bu d place x L=0∨bu d place x L=1:=(by omega);rcases this with e2 | e2<;>rw[e2]at e1;·exact e1 x2.symm
       ·exact e1 x3.symm
     ·exact g
    omega
  have:(dN (sO d place L) (depth place dict)).1<2:=by
   rcases hB.at_ with⟨e,_⟩ | ⟨a,b,c,e⟩
   ·omega
   ·rcases Nat.lt_or_ge (dN (sO d place L) (depth place dict)).1 2 with g | g;·exact g
    ·have:=h2.le _ (hof _ a b aa);omega
  rw[if_pos this,Bc.1,Bc.2]
theorem Nu{x y:UInt8}{h:Nat}(hx:d.getD place 0=x)(hy:d.getD (place+1) 0=y)(hp:place+1<d.length)(hh:h≤(places d x y (d.length-1)).length)
  (Ap: ∀q (_:q<(places d x y (d.length-1)).length),q<h→(places d x y (d.length-1))[q]<place) (Z9: ∀q (_:q<(places d x y (d.length-1)).length),h≤q→place≤(places d x y (d.length-1))[q]):
  (∀z,z∈((places d x y (d.length-1)).take h).reverse↔z<place∧d.getD z 0=d.getD place 0∧d.getD (z+1) 0=d.getD (place+1) 0)∧((places d x y (d.length-1)).take h).reverse.Pairwise (· > ·):=by
 constructor
 ·intro z;rw[List.mem_reverse,hx,hy];constructor;·intro hz;obtain⟨q,hq,e⟩:=List.mem_iff_getElem.1 hz;rw[List.length_take]at hq;rw[List.getElem_take]at e;have h1:=Ap q aa aa;have h2:=nk.1 (List.mem_of_mem_take hz);exact⟨aa,h2.2⟩
  ·rintro⟨h1,h2,h3⟩;have hm:z∈places d x y (d.length-1):=nk.2 ⟨aa,h2,h3⟩;obtain⟨q,hq,e⟩:=List.mem_iff_getElem.1 hm;rcases Nat.lt_or_ge q h with g | g;·refine List.mem_iff_getElem.2 ⟨q,mV,?_⟩;rw[List.getElem_take];exact e
   ·have:=Z9 q hq g;omega
 ·rw[List.pairwise_reverse];exact((vD d x y (d.length-1)).sublist (List.take_sublist _ _)).imp fun h=>h
end
end
section
open Go.ChangeMaps Go.MapKept Go.ChangeShapes Go.RowKit
open Go.WideElems (Fit rd rg pl rd_val elemAt)
open Go.Maps (Keyed)
open Go.WideMaps (KeyLaw)
section
variable{H:Type}{P:Program}{w w':World}{t k E e:TypeId}{R:Value→Option (DataW H×List MemPlace)}{b:Nat}{es es':Array MapEntry}{clock DQ:Nat}
theorem uB{l:List MapEntry}(hn:(l.map (·.key)).Nodup){i j:Nat}{x y:MapEntry}(hx:l[i]? =some x)(hy:l[j]? =some y)(e:x.key=y.key):i=j:=by have hi:=(List.getElem?_eq_some_iff.1 hx).1;refine(List.getElem?_inj (l:=l.map (·.key)) iZ hn).1 ?_;simp[hx,hy,e]
theorem Nv{l:List MapEntry}(hn:(l.map (·.key)).Nodup){x y:MapEntry}(hx:x∈l)(hy:y∈l)(e:x.key=y.key):x=y:=by obtain⟨i,hi⟩:=List.getElem?_of_mem hx;obtain⟨j,hj⟩:=List.getElem?_of_mem hy;have:=uB hn hi hj e;subst this;rw[hi]at hj;exact Option.some.inj hj
theorem mF(hb:w.heap[b]? =some (.map es clock)){a a':Array MapEntry}{c c':Nat}(h:(Result.ok () (setBlock w b (.map a c)):Result Unit)= .ok () (setBlock w b (.map a' c'))):a=a'∧c=c':=by
 have h1:setBlock w b (.map a c)=setBlock w b (.map a' c'):=by injection h
 have h2:=heap_setBlock_same hb (.map a c);rw[h1,heap_setBlock_same hb]at h2;simp at h2;exact⟨h2.1.symm,h2.2.symm⟩
theorem DR(K:KeyLaw P k)(ht:P.underlying t=some (.map k e))(F:Fit P k R es clock)(hb:w.heap[b]? =some (.map es clock))(yv:w'.heap[b]? =some (.map es clock)){key val:Value}{kl:Lit}(lj:keyOf P k key=some kl)
  (h:(Instr.mapUpdate t (.map (some b)) key val).run P w= .ok () (setBlock w b (.map es' DQ))):(Instr.mapUpdate t (.map (some b)) key val).run P w'= .ok () (setBlock w' b (.map es' DQ)):=by
 obtain⟨_,_,s3⟩:=F.stamped;rcases K.find w lj es.toList F.keys with⟨h1,h2⟩ | ⟨j,e0,h1,h2,h3⟩
 ·have e1:(Instr.mapUpdate t (.map (some b)) key val).run P w= .ok () (setBlock w b (.map (es.push ⟨key,val,clock⟩) (clock+1))):=by simp[Instr.mapUpdate,run_underlying ht,MapKept.run_getObj_map hb,K.check w false lj,h1,MapKept.run_setObj_map _ hb,Result.andThen,setBlock]
  obtain⟨rfl,rfl⟩:=mF hb (h.symm.trans e1);rcases K.find w' lj es.toList F.keys with⟨g1,g2⟩ | ⟨j',e0',g1,g2,g3⟩
  ·simp[Instr.mapUpdate,run_underlying ht,MapKept.run_getObj_map yv,K.check w' false lj,g1,MapKept.run_setObj_map _ yv,Result.andThen,setBlock]
  ·exact absurd g3 (h2 _ (List.mem_of_getElem? g2))
 ·have hj:es[j]? =some e0:=by simpa using h2
  have e1:(Instr.mapUpdate t (.map (some b)) key val).run P w= .ok () (setBlock w b (.map (es.modify j (fun e'=>{e' with key:=key,val:=val})) clock)):=by simp[Instr.mapUpdate,run_underlying ht,MapKept.run_getObj_map hb,K.check w false lj,h1,hj,h3,K.stays w lj,MapKept.run_setObj_map _ hb,Result.andThen,setBlock]
  obtain⟨rfl,rfl⟩:=mF hb (h.symm.trans e1);rcases K.find w' lj es.toList F.keys with⟨g1,g2⟩ | ⟨j',e0',g1,g2,g3⟩
  ·exact absurd h3 (g2 _ (List.mem_of_getElem? h2))
  ·have:=uB s3 h2 g2 (h3.trans g3.symm);subst this;rw[h2]at g2;obtain rfl:=Option.some.inj g2;simp[Instr.mapUpdate,run_underlying ht,MapKept.run_getObj_map yv,K.check w' false lj,g1,hj,h3,K.stays w' lj,MapKept.run_setObj_map _ yv,Result.andThen,setBlock]
theorem Jy(K:KeyLaw P k)(ht:P.underlying t=some (.map k e)){z:Value}(hz: ∀u:World,(zeroValue e).run P u= .ok z u)(F:Fit P k R es clock)(hb:w.heap[b]? =some (.map es clock))(yv:w'.heap[b]? =some (.map es clock)){key v:Value}{kl:Lit}(lj:keyOf P k key=some kl)
  (h:(Instr.lookup t (.map (some b)) key false).run P w= .ok v w):(Instr.lookup t (.map (some b)) key false).run P w'= .ok v w':=by
 obtain⟨_,_,s3⟩:=F.stamped;rcases K.find w lj es.toList F.keys with⟨h1,h2⟩ | ⟨j,e0,h1,h2,h3⟩
 ·have e1:(Instr.lookup t (.map (some b)) key false).run P w= .ok z w:=by simp[Instr.lookup,run_underlying ht,MapKept.run_getObj_map hb,K.check w _ lj,h1,hz,Result.andThen]
  rw[e1]at h;obtain rfl:z=v:=by injection h
  rcases K.find w' lj es.toList F.keys with⟨g1,g2⟩ | ⟨j',e0',g1,g2,g3⟩
  ·simp[Instr.lookup,run_underlying ht,MapKept.run_getObj_map yv,K.check w' _ lj,g1,hz,Result.andThen]
  ·exact absurd g3 (h2 _ (List.mem_of_getElem? g2))
 ·have e1:(Instr.lookup t (.map (some b)) key false).run P w= .ok e0.val w:=by simp[Instr.lookup,run_underlying ht,MapKept.run_getObj_map hb,K.check w _ lj,h1,Result.andThen]
  rw[e1]at h;obtain rfl:e0.val=v:=by injection h
  rcases K.find w' lj es.toList F.keys with⟨g1,g2⟩ | ⟨j',e0',g1,g2,g3⟩
  ·exact absurd h3 (g2 _ (List.mem_of_getElem? h2))
  ·have:=uB s3 h2 g2 (h3.trans g3.symm);subst this;rw[h2]at g2;obtain rfl:=Option.some.inj g2;simp[Instr.lookup,run_underlying ht,MapKept.run_getObj_map yv,K.check w' _ lj,g1,Result.andThen]
theorem yw(w:World)(b:Nat)(o o':Obj):setBlock (setBlock w b o) b o'=setBlock w b o':=by simp[setBlock]
variable{base n:Nat}{q:IntKind}{D:DataW H}
theorem DS(h:w.ownsGroups (H:=H) P k base e q b n D)(K:KeyLaw P k)(ht:P.underlying t=some (.map k E))(hz: ∀u:World,(zeroValue E).run P u= .ok (.slice none 0 0) u)(hn:n<maxLen){key:Value}{kl:Lit}(lj:keyOf P k key=some kl):
  ∃(v:Value) (zs:List Int) (st:Nat) (w1:World),(Instr.mapEntry t (.map (some b)) key).run P w= .ok (.tuple #[v,goInt st]) w1∧w.grownBy w1 (some b)∧D.atKey kl .nil=rowDatum q v zs∧w1.ownsInts base e q v zs∧zs.length≤n∧
   ∀(w2:World) (v':Value) (zs':List Int),w1.grownBy w2 v.ownBlock→w2.ownsInts base e q v' zs'→zs'.length≤n+1→(v'.ownBlock=v.ownBlock∨ ∃g,v'.ownBlock=some g∧w.heap.size≤g)→
    ∃w3,(Instr.entryStore t (.map (some b)) (goInt st) v').run P w2= .ok () w3∧w3.ownsGroups (H:=H) P k base e q b (n+1) (D.put kl (rowDatum q v' zs'))∧w2.grownBy w3 (some b):=by
 obtain⟨es,clock,hb,F,hs,rfl,jS,hlen,hap⟩:=h;have Z_:b<w.heap.size:=(cr hb)
 obtain⟨_,_,s3⟩:=F.stamped;obtain⟨v0,st,es1,yx,Dr,Bd,aba⟩:=WideElems.entry_then_store K ht hz hb F lj;have kz:w.grownBy (setBlock w b (.map es1 yx)) (some b):=⟨rfl,rfl,rfl,by simp[setBlock],fun i _ hi=>heap_setBlock_other hb _ (fun e1=>hi (by rw[e1]))⟩
 have afw: ∃zs,(DataW.map ((es.toList.map (rg P k (rowElem (H:=H) w base e q))).foldr DataW.insert [])).atKey kl .nil=rowDatum q v0 zs∧w.ownsInts base e q v0 zs∧zs.length≤n∧
   (∀x∈es.toList,x.key≠key→x.val.ownBlock=none∨x.val.ownBlock≠v0.ownBlock)∧v0.ownBlock≠some b:=by
  rcases Maps.fit_look false (Keyed.of_law K) ht (hz w) hb F lj with⟨_,ya,dm⟩ | ⟨e0,y,F',h3,_,hR,dm,_⟩
  ·rcases Bd with⟨e0,he0,VU,_⟩ | ⟨_,rfl⟩
   ·exact absurd VU (ya e0 he0)
   ·exact⟨[],dm _,World.ownsInts_nil _ _ _ _,Nat.zero_le _,fun x _ _=>by cases x.val.ownBlock<;>simp[Value.ownBlock],C4⟩
  ·rcases Bd with⟨e1,he1,iy,rfl⟩ | ⟨ya,_⟩
   ·obtain rfl:=Nv s3 F' he1 (h3.trans iy.symm);obtain⟨zs,ho,rfl⟩:=rowElem_inv hR;exact⟨zs,dm _,ho,hlen e0 F' zs ho,fun x hx dH=>hap x hx e0 F' (by rw[h3];exact dH),fun e1=>by have:=(ho.1.lt b e1).1;omega⟩
   ·exact absurd h3 (ya e0 F')
 obtain⟨zs,dm,XG,VG,abb,ZU⟩:=afw;have vt:=groups_back (Keyed.of_law K) ht hb F hs hn jS hlen hap lj abb ZU;have aml:v0.ownBlock=none∨v0.ownBlock≠some b:= .inr ZU;refine⟨v0,zs,st,_,Dr,kz,dm,XG.kept kz aml,VG,fun w2 v' zs' hg aK hl DT=> ?_⟩;have az:(setBlock w b (.map es1 yx)).heap[b]? =some (.map es1 yx):=heap_setBlock_same hb _;have uC:(setBlock w b (.map es1 yx)).heap.size=w.heap.size:=by simp[setBlock]
 have aD:w2.heap[b]? =some (.map es1 yx):=(hg.block b (by rw[uC];exact Z_) (fun e1=>ZU e1.symm)).trans az;obtain⟨es',DQ,bQ,hup⟩:=aba w2 v' aD;have hbR:(setBlock w2 b (.map es clock)).heap[b]? =some (.map es clock):=heap_setBlock_same aD _;have hgR:w.grownBy (setBlock w2 b (.map es clock)) v0.ownBlock:=by
  refine⟨hg.os,hg.tape,hg.output,?_,fun i hi dH=> ?_⟩;·have:=hg.size;rw[uC]at this;simpa [setBlock]using this
  ·by_cases hib:i=b;·subst hib;rw[hbR,hb]
   ·rw[heap_setBlock_other aD _ hib,hg.block i (by rw[uC];exact hi) dH,heap_setBlock_other hb _ hib]
 have amn:w2.grownBy (setBlock w2 b (.map es clock)) (some b):=⟨rfl,rfl,rfl,by simp[setBlock],fun i _ hi=>heap_setBlock_other aD _ (fun e1=>hi (by rw[e1]))⟩
 have amo:v'.ownBlock=none∨v'.ownBlock≠some b:=by
  cases Qh:v'.ownBlock with
  | none=>exact .inl rfl
  | some g=>
   refine .inr fun e1=> ?_;have:=(aK.1.lt g Qh).1;cases e1;omega
 obtain⟨wu,hu1,hu2,_⟩:=vt _ v' zs' hgR (aK.kept amn amo) hl DT;have hu3:=DR K ht F hb hbR lj hup;rw[hu1,yw]at hu3;have hu4:wu=setBlock w2 b (.map es' DQ):=by injection hu3
 subst hu4;exact⟨_,bQ,hu2,⟨rfl,rfl,rfl,by simp[setBlock],fun i _ hi=>heap_setBlock_other aD _ (fun e1=>hi (by rw[e1]))⟩⟩
end
end
section
open Go.RowKit Go.Maps Go.ChangeShapes
def qc(L:List Nat):DataW Unit:=if L=[]then .nil else .slice (lits .i32 (L.map Int.ofNat)) []
def cj(w:World)(b:Nat)(d:List UInt8)(n:Nat):Prop:=
 ∃D:DataW Unit,w.ownsGroups prog 210 (b+1) 21 .i32 b n D∧ ∀x y:UInt8,D.atKey (Np x y) .nil=qc (places d x y n)
theorem Si{q:IntKind}{a b:List Int}(h:lits (H:=Unit) q a=lits q b):a=b:=by unfold lits at h;refine(List.map_inj_right (fun x y e=> ?_)).1 h;simpa using e
theorem qQ{w:World}{base:Nat}{e:TypeId}{v:Value}{zs:List Int}{L:List Nat}(h:w.ownsInts base e .i32 v zs)(he:qc L=rowDatum .i32 v zs):zs=L.map Int.ofNat:=by
 unfold qc at he;split at he
 ·rename_i hL;subst hL;by_cases hz:zs=[];·rw[hz];rfl
  ·rw[h.datum_pos hz]at he;cases he
 ·rcases h.datum (H:=Unit)with⟨h1,_⟩ | h1;·rw[h1]at he;cases he
  ·rw[h1]at he;injection he with he;exact(Si he).symm
theorem uD{w:World}{base:Nat}{e:TypeId}{v:Value}{L:List Nat}(h:w.ownsInts base e .i32 v (L.map Int.ofNat))(hL:L≠[]):rowDatum .i32 v (L.map Int.ofNat)=qc L:=by unfold qc;rw[if_neg hL,h.datum_pos (by simpa using hL)]
theorem cj.made(w:World)(d:List UInt8):cj (w.alloc (.map #[] 0)) w.heap.size d 0:=
 ⟨_,World.ownsGroups_made w prog _ _ _,fun x y=>by simp only[qc,places,List.range_zero,List.filter_nil,if_true];rfl⟩
theorem DU{w:World}{P:Program}{k:TypeId}{base:Nat}{e:TypeId}{q:IntKind}{b n:Nat}{D:DataW Unit}(h:w.ownsGroups P k base e q b n D): ∃l,D= .map l:=by obtain⟨_,_,_,_,_,rfl,_⟩:=h;exact⟨_,rfl⟩
theorem vF{w w':World}{P:Program}{k:TypeId}{base:Nat}{e:TypeId}{q:IntKind}{b n:Nat}{D:DataW Unit}{row:Option Nat}(h:w.ownsGroups P k base e q b n D)(hg:w.grownBy w' row)(aP: ∀j,row=some j→j<b):w'.ownsGroups P k base e q b n D:=by
 obtain⟨es,clock,hb,F,hs,rfl,jS,hlen,hap⟩:=h;have hk: ∀{v:Value} {zs:List Int},w.ownsInts base e q v zs→w'.ownsInts base e q v zs:=fun{v zs} ho=>ho.kept hg (by
  cases hv:v.ownBlock with
  | none=>exact .inl rfl
  | some g=>
   refine .inr fun e1=> ?_;have h1:=(ho.1.lt g hv).1;have h2:=aP g e1.symm;omega)
 have js: ∀x∈es.toList,∀z,rowElem (H:=Unit) w base e q x.val=some z→rowElem w' base e q x.val=some z:=by intro x _ z hz;obtain⟨ys,ho,rfl⟩:=rowElem_inv hz;exact rowElem_mk (hk ho)
 obtain⟨F2,afx,_⟩:=F.stay js;refine⟨es,clock,(hg.block b (cr hb) (fun e1=>am (aP b e1.symm))).trans hb,F2,hs,by rw[afx],jS,fun x hx ys ho=> ?_,hap⟩;obtain⟨y,hy⟩:=F.reads x hx;obtain⟨z,hz,_⟩:=WideElems.rd_val hy;obtain⟨ys',mU,_⟩:=rowElem_inv hz;rw[ho.unique (hk mU)];exact hlen x hx ys' mU
theorem cj.below{w w':World}{b n:Nat}{d:List UInt8}(h:cj w b d n)(hb:Below w.heap.size w w'):cj w' b d n:=by obtain⟨D,h1,h2⟩:=h;exact⟨D,vF (row:=none) h1 ⟨hb.os,hb.tape,hb.output,hb.size,fun k hk _=>hb.block k hk⟩ (fun j e=>gw),h2⟩
theorem cj.set{w:World}{b n:Nat}{d:List UInt8}(h:cj w b d n)(a:Addr)(v:Value)(ha:a.block<b):cj (w.setCell a v) b d n:=by obtain⟨D,h1,h2⟩:=h;refine⟨D,vF (row:=some a.block) h1 ⟨rfl,rfl,rfl,by simp[World.setCell],fun k _ hk=>ah _ _ _ _ (fun e=>hk (by rw[e]))⟩ (fun j e=>xA),h2⟩
theorem rC(d:List UInt8)(x y:UInt8)(n:Nat):(places d x y n).length≤n:=by unfold places;have:=List.length_filter_le (fun i=>d.getD i 0==x&&d.getD (i+1) 0==y) (List.range n);simpa using this
theorem cj.lt{w:World}{b n:Nat}{d:List UInt8}(h:cj w b d n):b<w.heap.size:=by obtain⟨D,⟨es,clock,hb,_⟩,_⟩:=h;exact(cr hb)
theorem cj.entry{w:World}{b n:Nat}{d:List UInt8}(h:cj w b d n)(hn:n≤100000):
  ∃(v:Value) (st:Nat) (w1:World),(Instr.mapEntry 138 (.map (some b)) (nW (d.getD n 0) (d.getD (n+1) 0))).run prog w= .ok (.tuple #[v,goInt st]) w1∧w.grownBy w1 (some b)∧
   ey 21 (b+1) w1 v ((places d (d.getD n 0) (d.getD (n+1) 0) n).map fun i=> .int .i32 (i:Nat))∧
   ∀(w2:World) (v':Value),w1.grownBy w2 v.ownBlock→ey 21 (b+1) w2 v' ((places d (d.getD n 0) (d.getD (n+1) 0) n).map (fun i=> .int .i32 (i:Nat))++[.int .i32 (n:Nat)])→(v'.ownBlock=v.ownBlock∨ ∃g,v'.ownBlock=some g∧w.heap.size≤g)→
    ∃w3,(Instr.entryStore 138 (.map (some b)) (goInt st) v').run prog w2= .ok () w3∧cj w3 b d (n+1)∧w2.grownBy w3 (some b):=by
 obtain⟨D,h1,h2⟩:=h;have⟨x,hx⟩:=ex (d.getD n 0);have⟨y,hy⟩:=ex (d.getD (n+1) 0);rw[hx,hy];have hz: ∀u:World,(zeroValue 139).run prog u= .ok (.slice none 0 0) u:=fun u=>by first | rfl | simp[zeroValue]
 obtain⟨v,zs,st,w1,hr,hg,dm,ho,VG,bQ⟩:=DS h1 Xy.law underlying138 hz fF (kB x y);have hzs:=qQ ho ((h2 x y).symm.trans dm);subst hzs;have hlen:(places d x y n).length≤n:=by simpa using VG
 have hP:places d x y (n+1)=places d x y n++[n]:=by rw[vC,if_pos ⟨hx,hy⟩]
 refine⟨v,st,w1,hr,hg,?_,fun w2 v' gI el DT=> ?_⟩;·have:=ho.1;unfold ey;simpa [List.map_map,Function.comp_def]using this
 ·have aK:w2.ownsInts (b+1) 21 .i32 v' ((places d x y (n+1)).map Int.ofNat):=by
   refine⟨?_,fun z hz=> ?_⟩;·unfold ey at el;rw[hP];simpa [List.map_map,Function.comp_def]using el
   ·obtain⟨i,hi,rfl⟩:=List.mem_map.1 hz;have:=(nk.1 hi).1;exact aa3 ag av
  obtain⟨w3,hs,hG,Qi⟩:=bQ w2 v' _ gI aK (by rw[hP];simp;exact hlen) DT;refine⟨w3,hs,⟨_,hG,fun x' y'=> ?_⟩,Qi⟩;have hk:=Jo.key (kB x y);by_cases Ar:x'=x∧y'=y;·obtain⟨rfl,rfl⟩:=Ar;rw[atKey_put_same (DU h1) hk];exact uD aK (by rw[hP];simp)
  ·have dH:Np x' y'≠Np x y:=fun e=>Ar (R5 e);rw[atKey_put_other dH,h2 x' y',vC,if_neg (by rw[hx,hy];exact fun e=>Ar ⟨e.1.symm,e.2.symm⟩),List.append_nil]
theorem cj.Sj{w w':World}{b n:Nat}{d:List UInt8}(h:cj w b d n)(hb:w'.heap[b]? =w.heap[b]?){x y:UInt8}{v:Value}(hr:(Instr.lookup 138 (.map (some b)) (nW x y) false).run prog w= .ok v w):(Instr.lookup 138 (.map (some b)) (nW x y) false).run prog w'= .ok v w':=by
 obtain⟨D,⟨es,clock,oo,F,_⟩,_⟩:=h;have hz: ∀u:World,(zeroValue 139).run prog u= .ok (.slice none 0 0) u:=fun u=>by first | rfl | simp[zeroValue]
 exact Jy Xy.law underlying138 hz F oo (hb.trans oo) (kB x y) hr
theorem cj.look{w:World}{b n:Nat}{d:List UInt8}(h:cj w b d n)(hn:n≤100000)(x y:UInt8):
  ∃(A:Option Addr) (c:Nat),(Instr.lookup 138 (.map (some b)) (nW x y) false).run prog w= .ok (.slice A (places d x y n).length c) w∧pc w A (places d x y n)∧(places d x y n).length≤c∧c≤9223372036854775807:=by
 obtain⟨D,h1,h2⟩:=h;have hz:(zeroValue 139).run prog w= .ok (.slice none 0 0) w:=by first | rfl | simp[zeroValue]
 obtain⟨v,zs,hr,dm,ho,_,_⟩:=h1.at Jo underlying138 hz fF (kB x y);have hzs:=qQ ho ((h2 x y).symm.trans dm);subst hzs;have hv:ey 21 (b+1) w v ((places d x y n).map fun i=> .int .i32 (i:Nat)):=by have:=ho.1;unfold ey;simpa [List.map_map,Function.comp_def]using this
 obtain⟨A,c,rfl,hc,hm,hcell⟩:=hv.read;rw[List.length_map]at hr hc;refine⟨A,c,hr,fun i hi=> ?_,hc,hm⟩;obtain⟨g,hA,hg⟩:=hcell i (by rw[List.length_map];exact hi);exact⟨g,hA,by rw[hg];simp⟩
end
section
open Go.RowKit Go.Maps
theorem abc:Elem 139 21 (.int .i32 0) 4:=⟨underlying139,ai,rfl⟩
theorem yy(A:Option Addr)(l:List UInt8)(c n:Nat)(w:World)(hB:Bytes w A l)(hc:l.length≤c)(hl:l.length≤100000)(hn:n=l.length-1):
  Calls prog 103 #[.slice A l.length c] w fun e w'=>e= .returned (.map (some w.heap.size))∧cj w' w.heap.size l n∧Below w.heap.size w w':=by
 have pW:(l.length:Int)≤(c:Int):=aa;have qw:(l.length:Int)≤100000:=aa;have pX:(n:Int)≤100000:=aa;have ou:=ae hB;have HN:=ae hn;have IH: ∀w:World,(Instr.makeMap 138 none).run prog w= .ok (.map (some w.heap.size)) (w.alloc (.map #[] 0)):=fun w=>run_makeMap _ w;clear hB hn hl hc;go_enter func103,ntmps103;go_wp2_with fail;have HMP:Hid (cj (w.alloc (.map #[] 0)) w.heap.size l 0):=ae (cj.made w l);have a7:Hid (Below w.heap.size w (w.alloc (.map #[] 0))):=ae (ar);clear IH;go_loopw [10] (fun i wr=> ∃k:Nat,k≤n∧i= .int .i64 (k:Nat)∧Hid (cj wr w.heap.size l k)∧Hid (Below w.heap.size w wr)) (fun i _=>n-(intOf i).toNat);case atStart=>exact⟨0,aa,rfl,HMP,a7⟩
 case round=>
  obtain⟨k,hk,rfl,HL,HB⟩:=hrel;by_cases hkl:k<n
  ·have Js:(k:Int)<(l.length:Int)-1:=am HN.out;obtain⟨b,off,rfl,gZ,dm⟩:=(ou.out.below HB.out).addr aa;have nV:=dm k aa;have jA:=dm (k+1) aa;have e0:=dj (d:=l) (i:=k) aa;have e1:=dj (d:=l) (i:=k+1) aa;generalize l[k]'aa=z0 at*;generalize l[k+1]'aa=z1 at*;obtain⟨y1,Nw⟩: ∃y:Nat,k+1=y:=⟨_,rfl⟩
   rw[Nw]at jA;have k1:(k:Int)+1=(y1:Int):=aa;have l1:(y1:Int)<(l.length:Int):=aa;have l0:(k:Int)<(l.length:Int):=aa;have HC:=ae (fun(wx:World) (h:wx.heap[b]? =wr.heap[b]?)=>(show wx.cell? ⟨b,off+k,none⟩=some (.int .u8 (z0.toNat:Nat))∧wx.cell? ⟨b,off+y1,none⟩=some (.int .u8 (z1.toNat:Nat))from by
    refine⟨?_,?_⟩;·rw[←nV];unfold World.cell?;rw[h]
    ·rw[←jA];unfold World.cell?;rw[h]))
   have v1:IntKind.i64.wrap (y1:Int)=(y1:Int):=IntWalk.i64_in _ aa;have HE:=ae (And.intro e0 e1);clear dm e0 e1 Nw nV jA;go_wp2_with fail;refine wp_region_held_drew (S:=fun w2=>w2.heap[b]? =wr.drew.heap[b]?) ai rfl (fun hS=> ?_);refine bI 0 HC.out hS (h:=bI 1 HC.out hS (h:=bI 2 HC.out hS (h:=bI 3 HC.out hS (h:=bI 4 HC.out hS (h:=bI 5 HC.out hS (h:=bI 6 HC.out hS (h:=bI 7 HC.out hS (h:=bI 8 HC.out hS (h:=bI 9 HC.out hS (h:= ?_))))))))));refine aC 10 (fun K hK=> ?_);go_simp;refine hK.out _ _ (Below.heap_alloc _ _ _ gZ) (fun _=> ?_);clear hK K;refine aC 11 (fun K hK=> ?_);go_simp;refine hK.out _ _ (Below.heap_alloc _ _ _ gZ) (fun _=> ?_);clear hK K;refine wpAnyH_done ai ?_ _;have⟨W2,mc⟩:=ex ((wr.alloc (.cells #[.int .u8 (z0.toNat:Nat),.int .u8 (z1.toNat:Nat)] 210)).drew);rw[mc];have aD:Below wr.heap.size wr W2:=(by rw[←mc];have h:=(Below.refl wr.heap.size wr).alloc (Nat.le_refl _) (.cells #[.int .u8 (z0.toNat:Nat),.int .u8 (z1.toNat:Nat)] 210);exact⟨h.os,h.tape,h.output,h.size,h.block⟩);have Dx:W2.heap[wr.heap.size]? =some (.cells #[.int .u8 (z0.toNat:Nat),.int .u8 (z1.toNat:Nat)] 210 (0,0)):=(by rw[←mc];exact heap_alloc_last _ _);have x0:W2.cell? ⟨wr.heap.size,0,none⟩=some (.int .u8 (z0.toNat:Nat)):=(by rw[cell_of_row W2 _ _ _ _ _ Dx];rfl);have x1:W2.cell? ⟨wr.heap.size,1,none⟩=some (.int .u8 (z1.toNat:Nat)):=(by rw[cell_of_row W2 _ _ _ _ _ Dx];rfl);have⟨W3,mT⟩:=ex (W2.alloc (.cells #[.int .i32 (k:Nat)] 21));have bA:Below wr.heap.size wr W3:=(by rw[←mT];exact aD.alloc aD.size _);have afz:W3.heap.size=W2.heap.size+1:=(by rw[←mT];simp);have G':W3.heap[W2.heap.size]? =some (.cells #[.int .i32 (k:Nat)] 21 (0,0)):=(by rw[←mT];exact heap_alloc_last _ _);have ki:=HB.out.size;have qu:=HL.out.below bA;have aH:=qu.lt;obtain⟨v,st,w1,Jz,kz,d7,bQ⟩:=qu.entry aa;rw[HE.out.1,HE.out.2,←mT]at Jz;simp only[nW,goInt]at Jz;have hlen:=rC l (l.getD k 0) (l.getD (k+1) 0) k;rw[HE.out.1,HE.out.2]at d7 bQ hlen;have sP:((places l z0 z1 k).map (fun i=>Value.int .i32 (i:Nat))).length≤100000:=(by rw[List.length_map];omega);have⟨PL,hPL⟩:=ex ((places l z0 z1 k).map (fun i=>Value.int .i32 (i:Nat)));rw[hPL]at d7 bQ sP;have oq:=aD.size;have afA:w1.heap[W2.heap.size]? =some (.cells #[.int .i32 (k:Nat)] 21 (0,0)):=(kz.block _ aa (by
    have W7:w.heap.size<wr.heap.size:=HL.out.lt;intro e;injection e with e;omega)).trans G'
   have FF: ∀i (h:i<[Value.int .i32 (k:Nat)].length),w1.cell? ⟨W2.heap.size,i,none⟩=some [Value.int .i32 (k:Nat)][i]:=(by intro i hi;obtain rfl:i=0:=iZ;rw[cell_of_row _ _ _ _ _ _ afA];rfl);have gl:=ae bQ;have dE:Hid (Below w.heap.size w w1):=ae (ao (HB.out.trans (bA.mono ki)) kz (Nat.le_trans ki bA.size) (fun g e=>xA));have afB:=ae d7;have Rm:=ae FF;have amp:Hid (w.heap.size+1≤w1.heap.size):=ae (Nat.le_trans aa kz.size);have oX:=ae sP;have amq:=ae kz.size;clear mc aD hS Dx mT bA afz G' qu kz d7 bQ hlen sP hPL oq afA FF aH ki;have afC:IntKind.i32.wrap (k:Int)=(k:Int):=by have e1:IntKind.i32.min= -2147483648:=rfl;have e2:IntKind.i32.max=2147483647:=rfl;first | exact IntWalk.i32_in _ aa | (unfold IntKind.wrap;simp;omega)
   go_wp2_with (at_builtin;refine kM abc rfl (.tmp 25) (.tmp 28) rfl (w.heap.size+1) w1 v PL rfl afB.out W2.heap.size 1 1 [.int .i32 (k:Nat)] rfl rfl Rm.out Iu (am oX.out) (am oX.out) amp.out ?_;intro v' w2 lC gI DT;obtain⟨w3,hes,hp3,Qi⟩:=gl.out w2 v' gI lC (DT.imp id fun e=>⟨_,e,amq.out⟩);simp only[goInt]at hes;have LY:=ae hp3;have gF:Hid (Below w.heap.size w w3):=ae (ao (ao dE.out gI dE.out.size (fun g e=>by have:=(afB.out.lt g e).1;omega)) Qi (Nat.le_trans dE.out.size gI.size) (fun g e=>xA));clear lC gI DT hp3 Qi)
   exact⟨⟨k+1,aa,by rw[←k1];rfl,LY,gF⟩,jb⟩
  ·obtain rfl:k=n:=(by omega);have Js: ¬(k:Int)<(l.length:Int)-1:=am HN.out;have au7:decide ((k:Int)<(l.length:Int)-1)=false:=decide_eq_false Js;clear HMP a7;go_wp2_with fail;go_ret;exact⟨rfl,HL.out,HB.out⟩
end
section
open Go.RowKit Go.Maps
def F6(L:List Nat)(place:Nat)(w:World)(e:Ending)(w':World):Prop:= ∃(b1 b2:Nat) (A:Option Addr) (c h:Nat),e= .returned (.func (.func 254) #[] #[PF b1,PF b2])∧aT b1 w' (.int .i64 (h:Nat))∧aT b2 w' (.slice A L.length c)∧
 pc w' A L∧L.length≤c∧h≤L.length∧(∀q (_:q<L.length),q<h→L[q]<place)∧(∀q (_:q<L.length),h≤q→place≤L[q])∧Below w.heap.size w w'
theorem pd(Fp:Nat)(A:Option Addr)(c:Nat)(d:List UInt8)(dict nice:Int)(mp:Nat)(v4:Value)(place:Nat)(w:World)(hF:cZ w Fp A c d dict nice mp v4)(hP:cj w mp d (d.length-1))(hp:place+1<d.length):
  Calls prog 231 #[PF Fp,.int .i64 (place:Nat)] w (F6 (places d (d.getD place 0) (d.getD (place+1) 0) (d.length-1)) place w):=by
 have qw:(d.length:Int)≤100000:=am hF.small;have Jr:d.length≤100000:=hF.small;have pW:(d.length:Int)≤(c:Int):=am hF.cap;obtain⟨y1,Nw⟩: ∃y:Nat,place+1=y:=⟨_,rfl⟩
 have k1:(place:Int)+1=(y1:Int):=aa;have l1:(y1:Int)<(d.length:Int):=aa;have l0:(place:Int)<(d.length:Int):=aa;obtain⟨b,off,rfl,gZ,_⟩:=hF.bytes.addr aa;have HC0:Hid (∀w2:World,Below w.heap.size w w2→w2.cell? ⟨b,off+place,none⟩=some (.int .u8 ((d.getD place 0).toNat:Nat))∧w2.cell? ⟨b,off+y1,none⟩=some (.int .u8 ((d.getD y1 0).toNat:Nat))):=ae (fun w2 hb=>by
  obtain⟨b',akH,e,_,dm⟩:=(hF.below hb).bytes.addr aa;injection e with e;injection e with e1 e2;subst e1;subst e2;have h0:=dm place aa;have h1:=dm y1 aa;rw[←dj (d:=d) (i:=place) aa]at h0;rw[←dj (d:=d) (i:=y1) aa]at h1;exact⟨h0,h1⟩)
 rw[Nw];generalize d.getD place 0=z0 at*;generalize d.getD y1 0=z1 at*;obtain⟨PA,cp,Sk,su,ui,qn⟩:=hP.look aa z0 z1;have Ci:=vD d z0 z1 (d.length-1);have hlen:=rC d z0 z1 (d.length-1);have HLK:Hid (∀w2:World,Below w.heap.size w w2→(Instr.lookup 138 (.map (some mp)) (nW z0 z1) false).run prog w2= .ok (.slice PA (places d z0 z1 (d.length-1)).length cp) w2):=ae (fun w2 hb=>by
  have yv:w2.heap[mp]? =w.heap[mp]? :=hb.block _ hP.lt;exact hP.Sj yv Sk)
 have⟨L,hL⟩:=ex (places d z0 z1 (d.length-1));rw[hL]at Sk su ui Ci hlen HLK ⊢;have HC:=ae (fun(w2:World) (hb:Below w.heap.size w w2)=>(show w2.cell? ⟨Fp,0,none⟩=some (.slice (some ⟨b,off,none⟩) d.length c)∧w2.cell? ⟨Fp,3,none⟩=some (.map (some mp))∧w2.cell? ⟨b,off+place,none⟩=some (.int .u8 (z0.toNat:Nat))∧w2.cell? ⟨b,off+y1,none⟩=some (.int .u8 (z1.toNat:Nat))∧(Instr.lookup 138 (.map (some mp)) (.agg #[.int .u8 (z0.toNat:Nat),.int .u8 (z1.toNat:Nat)]) false).run prog w2= .ok (.slice PA L.length cp) w2 from by
  obtain⟨f0,_,_,f3,_⟩:=(hF.below hb).cells;exact⟨f0,f3,(HC0.out w2 hb).1,(HC0.out w2 hb).2,HLK.out w2 hb⟩))
 have H':=ae su;have F4:=ae Ci;have XH:=ae ui;have afC:IntKind.i32.wrap (place:Int)=(place:Int):=by have e1:IntKind.i32.min= -2147483648:=rfl;have e2:IntKind.i32.max=2147483647:=rfl;first | exact IntWalk.i32_in _ aa | (unfold IntKind.wrap;simp;omega)
 have Di:L.length≤100000:=aa;have Ck:=ae Di;have v1:IntKind.i64.wrap (y1:Int)=(y1:Int):=IntWalk.i64_in _ aa;clear hF hP Sk su Ci hlen ui hL gZ Nw HC0 HLK Di hp qn;go_enter func231,ntmps231;go_wp2_with fail;refine wp_region_held_drew (S:=fun w2=>Below w.heap.size w w2) ai ⟨rfl,rfl,rfl,Nat.le_refl _,fun _ _=>rfl⟩ (fun hS=> ?_);refine bI 0 HC.out hS (h:=bI 1 HC.out hS (h:=bI 2 HC.out hS (h:=bI 3 HC.out hS (h:=bI 4 HC.out hS (h:=bI 5 HC.out hS (h:=bI 6 HC.out hS (h:=bI 7 HC.out hS (h:=bI 8 HC.out hS (h:=bI 9 HC.out hS (h:=bI 10 HC.out hS (h:=bI 11 HC.out hS (h:= ?_))))))))))));refine bI 12 HC.out hS (h:=bI 13 HC.out hS (h:=bI 14 HC.out hS (h:=bI 15 HC.out hS (h:=bI 16 HC.out hS (h:=bI 17 HC.out hS (h:=bI 18 HC.out hS (h:=bI 19 HC.out hS (h:=bI 20 HC.out hS (h:= ?_)))))))));refine aC 21 (fun K hK=> ?_);go_simp;refine hK.out _ _ (Below.alloc hS hS.size _) (fun _=> ?_);clear hK K;refine aC 22 (fun K hK=> ?_);go_simp;refine hK.out _ _ (Below.alloc hS hS.size _) (fun _=> ?_);clear hK K;refine wpAnyH_done ai ?_ _;have⟨W2,mc⟩:=ex ((w.alloc (.cells #[.slice PA L.length cp] 139)).drew);rw[mc];have aD:Below w.heap.size w W2:=by rw[←mc];have h:=(Below.refl w.heap.size w).alloc (Nat.le_refl _) (.cells #[.slice PA L.length cp] 139);exact⟨h.os,h.tape,h.output,h.size,h.block⟩
 have fL:aT w.heap.size W2 (.slice PA L.length cp):=⟨_,C5⟩
 have c5:=fL.cell;have HSE:=ae (Ju PA L cp place W2 (H'.out.below aD) Ck.out XH.out F4.out);have dW:=ae aD;have HX2:=ae fL;have XI:Hid (W2.heap.size=w.heap.size+1):=ae (by rw[←mc];simp[World.drew]);clear mc aD fL hS;go_wp2_with fail;refine HSE.out.mono ?_;rintro e w3 ⟨⟨i,bb,rfl,hi,Ap,Z9⟩,rfl⟩;have HI:=ae (And.intro hi (And.intro Ap Z9));have⟨W4,mG⟩:=ex (W2.alloc (.cells #[.int .i64 (i:Nat)] 3));have bm:Below W2.heap.size W2 W4:=by rw[←mG];exact ar
 have vu:aT W2.heap.size W4 (.int .i64 (i:Nat)):=by rw[←mG];exact aT.made _ _ _
 have M2:=ae mG;have H4:=ae (And.intro bm vu);clear hi Ap Z9 mG bm vu;go_wp2_with fail;rw[M2.out];go_ret;have afF:=aM dW.out H4.out.1;refine⟨_,_,PA,cp,i,rfl,H4.out.2,HX2.out.aA (H4.out.1.block _ (by rw[XI.out];omega)),H'.out.below afF,XH.out,HI.out.1,HI.out.2.1,HI.out.2.2,afF⟩
end
theorem XJ(d:Nat)(A:Option Addr)(n c:Nat)(w:World):(Op.equalIn (d+1) 22 (.slice A n c) (.slice none 0 0)).run prog w= .ok A.isNone w:=by cases A<;>simp[Op.equalIn,run_underlying underlying22]
theorem I'(A:Option Addr)(n c:Nat)(w:World):(binOp .eql 22 (.slice A n c) (.slice none 0 0)).run prog w= .ok (.bool A.isNone) w:=by have e:Op.maxDepth=9999+1:=rfl;simp only[binOp,Op.equal,e,Sem.run_bind,Sem.run_pure,XJ,Result.andThen_ok]
def Nx(l:List UInt8)(w:World)(e:Ending)(w':World):Prop:= ∃v,e= .returned v∧Own w.heap.size w' v l∧Below w.heap.size w w'
theorem Ny(A:Option Addr)(l:List UInt8)(c:Nat)(w:World)(hB:Bytes w A l)(hc:l.length≤c)(hl:l.length≤100000):
  Calls prog 102 #[.slice A l.length c] w (Nx l w):=by
 cases A with
 | none=>
  obtain rfl:l=[]:=by
   rcases Nat.eq_zero_or_pos l.length with h | h;·exact List.eq_nil_of_length_eq_zero h
   ·obtain⟨_,_,e,_⟩:=hB.addr h;cases e
  clear hB;have hq:=I' none 0 c w;simp only[Option.isNone]at hq;go_enter func102,ntmps102;go_wp2_with fail;go_ret;exact⟨_,rfl,Own.nil _ _,Below.refl _ _⟩
 | some a=>
  have hlen:([]:List UInt8).length+l.length≤140737488355328:=av;have ho:=Own.lit (base:=w.heap.size) w [] (Nat.le_refl _) ag;have oo:Below w.heap.size w (w.alloc (.cells (([]:List UInt8).map B8).toArray 5)):=ar;have VS:=oo.size;have HB:=ae hB;clear hB;have hq:=I' (some a) l.length c w;simp only[Option.isNone]at hq;go_enter func102,ntmps102;go_wp2_with (at_builtin;refine ap rfl (.tmp 5) (.tmp 6) rfl w.heap.size _ _ [] rfl ho (some a) l c rfl (HB.out.below oo) hlen VS ?_;intro v1 w1 xa kz;have az:Below w.heap.size w w1:=ao oo kz VS (fun g e=>(ho.ax g e).1))
  go_ret;exact⟨_,rfl,by simpa using xa,az⟩
section
open Go.RowKit Go.Maps
theorem DW(A:Option Addr)(l:List UInt8)(c n:Nat)(w:World)(hB:Bytes w A l)(hc:l.length≤c)(hl:l.length≤100000)(hn:n=l.length-3):
  Calls prog 104 #[.slice A l.length c] w fun e w'=>e= .returned (.slice (some ⟨w.heap.size+1,0,none⟩) n n)∧w'.heap[w.heap.size+1]? =some (.cells (il l n).toArray 21 (0,0))∧Below w.heap.size w w':=by
 have pW:(l.length:Int)≤(c:Int):=aa;have qw:(l.length:Int)≤100000:=aa;have hmx:max ((l.length:Int)-3) 0=(n:Int):=aa;have hn6:n≤1000000:=aa;have pX:(n:Int)≤100000:=aa;have ou:=ae hB;have HN:=ae hn;have IH: ∀w:World,(Instr.makeMap 211 none).run prog w= .ok (.map (some w.heap.size)) (w.alloc (.map #[] 0)):=fun w=>run_makeMap _ w;clear hB hn hl hc;go_enter func104,ntmps104;go_wp2_with (at_make;refine wA rfl (.tmp 13) (.tmp 13) rfl n (w.alloc (.map #[] 0)) rfl rfl hn6 ?_;intro w1 aP hg)
 have az:Below w.heap.size w w1:=ao (ar) hg ag (fun g e=>gw);have uC:(w.alloc (.map #[] 0)).heap.size=w.heap.size+1:=ag;have HMP:Hid (gB w1 w.heap.size l 0):=ae ((gB.made w l).aA (hg.block _ (by rw[uC];omega) ag));rw[uC]at aP;have E7:=ae aP;have a7:=ae az;clear aP hg az uC;go_loopw [17] (fun i wr=> ∃k:Nat,k≤n∧i= .int .i64 (k:Nat)∧Hid (wr.heap[w.heap.size+1]? =some (.cells (il l k++List.replicate (n-k) (Value.int .i32 0)).toArray 21 (0,0)))∧Hid (gB wr w.heap.size l k)∧Hid (Below w.heap.size w wr)) (fun i _=>n-(intOf i).toNat);case atStart=>exact⟨0,aa,rfl,ae (by rw[Nat.sub_zero];exact E7.out),HMP,a7⟩
 case round=>
  obtain⟨k,hk,rfl,HR,HL,HB⟩:=hrel;by_cases hkl:k<n
  ·have Js:(k:Int)<(n:Int):=(by omega);have mi:(k:Int)+3<(l.length:Int):=am HN.out;obtain⟨b,off,rfl,gZ,dm⟩:=(ou.out.below HB.out).addr aa;have nV:=dm k aa;have jA:=dm (k+1) aa;have fL:=dm (k+2) aa;have rz:=dm (k+3) aa;have e0:=dj (d:=l) (i:=k) aa;have e1:=dj (d:=l) (i:=k+1) aa;have e2:=dj (d:=l) (i:=k+2) aa;have e3:=dj (d:=l) (i:=k+3) aa;generalize l[k]'aa=z0 at*;generalize l[k+1]'aa=z1 at*;generalize l[k+2]'aa=z2 at*;generalize l[k+3]'aa=z3 at*;have HFO:Hid (four l k=(z0,z1,z2,z3)):=ae (by unfold four;rw[e0,e1,e2,e3]);obtain⟨y1,Nw⟩: ∃y:Nat,k+1=y:=⟨_,rfl⟩
   obtain⟨y2,hy2⟩: ∃y:Nat,k+2=y:=⟨_,rfl⟩
   obtain⟨y3,hy3⟩: ∃y:Nat,k+3=y:=⟨_,rfl⟩
   rw[Nw]at jA;rw[hy2]at fL;rw[hy3]at rz;have k1:(k:Int)+1=(y1:Int):=aa;have k2:(k:Int)+2=(y2:Int):=aa;have k3:(k:Int)+3=(y3:Int):=aa;have l1:(y1:Int)<(l.length:Int):=aa;have l2:(y2:Int)<(l.length:Int):=aa;have l3:(y3:Int)<(l.length:Int):=aa;have l0:(k:Int)<(l.length:Int):=aa;have HC:=ae (fun(wx:World) (h:wx.heap[b]? =wr.heap[b]?)=>(show wx.cell? ⟨b,off+k,none⟩=some (.int .u8 (z0.toNat:Nat))∧wx.cell? ⟨b,off+y1,none⟩=some (.int .u8 (z1.toNat:Nat))∧wx.cell? ⟨b,off+y2,none⟩=some (.int .u8 (z2.toNat:Nat))∧wx.cell? ⟨b,off+y3,none⟩=some (.int .u8 (z3.toNat:Nat))from by
    refine⟨?_,?_,?_,?_⟩;·rw[←nV];unfold World.cell?;rw[h]
    ·rw[←jA];unfold World.cell?;rw[h]
    ·rw[←fL];unfold World.cell?;rw[h]
    ·rw[←rz];unfold World.cell?;rw[h]))
   have v1:IntKind.i64.wrap (y1:Int)=(y1:Int):=IntWalk.i64_in _ aa;have v2:IntKind.i64.wrap (y2:Int)=(y2:Int):=IntWalk.i64_in _ aa;have v3:IntKind.i64.wrap (y3:Int)=(y3:Int):=IntWalk.i64_in _ aa;clear dm e0 e1 e2 e3 Nw hy2 hy3 mi nV jA fL rz;go_wp2_with fail;refine wp_region_held_drew (S:=fun w2=>w2.heap[b]? =wr.drew.heap[b]?) ai rfl (fun hS=> ?_);refine bI 0 HC.out hS (h:=bI 1 HC.out hS (h:=bI 2 HC.out hS (h:=bI 3 HC.out hS (h:=bI 4 HC.out hS (h:=bI 5 HC.out hS (h:=bI 6 HC.out hS (h:=bI 7 HC.out hS (h:=bI 8 HC.out hS (h:=bI 9 HC.out hS (h:=bI 10 HC.out hS (h:=bI 11 HC.out hS (h:= ?_))))))))))));refine bI 12 HC.out hS (h:=bI 13 HC.out hS (h:=bI 14 HC.out hS (h:=bI 15 HC.out hS (h:=bI 16 HC.out hS (h:=bI 17 HC.out hS (h:=bI 18 HC.out hS (h:=bI 19 HC.out hS (h:= ?_))))))));refine aC 20 (fun K hK=> ?_);go_simp;refine hK.out _ _ (Below.heap_alloc _ _ _ gZ) (fun _=> ?_);clear hK K;refine aC 21 (fun K hK=> ?_);go_simp;refine hK.out _ _ (Below.heap_alloc _ _ _ gZ) (fun _=> ?_);clear hK K;refine wpAnyH_done ai ?_ _;have⟨W2,mc⟩:=ex ((wr.alloc (.cells #[.int .u8 (z0.toNat:Nat),.int .u8 (z1.toNat:Nat),.int .u8 (z2.toNat:Nat),.int .u8 (z3.toNat:Nat)] 212)).drew);rw[mc];have aD:Below wr.heap.size wr W2:=(by rw[←mc];have h:=(Below.refl wr.heap.size wr).alloc (Nat.le_refl _) (.cells #[.int .u8 (z0.toNat:Nat),.int .u8 (z1.toNat:Nat),.int .u8 (z2.toNat:Nat),.int .u8 (z3.toNat:Nat)] 212);exact⟨h.os,h.tape,h.output,h.size,h.block⟩);have Dx:W2.heap[wr.heap.size]? =some (.cells #[.int .u8 (z0.toNat:Nat),.int .u8 (z1.toNat:Nat),.int .u8 (z2.toNat:Nat),.int .u8 (z3.toNat:Nat)] 212 (0,0)):=(by rw[←mc];exact heap_alloc_last _ _);have tT:w.heap.size+1<wr.heap.size:=(cr HR.out)
   have wm:=(aD.block _ tT).trans HR.out;have wY:gB W2 w.heap.size l k:=HL.out.aA (aD.block _ aa);have VH:Below w.heap.size w W2:=HB.out.trans (aD.mono aa);clear mc aD hS;have c1:W2.cell? ⟨w.heap.size+1,k,none⟩=some (.int .i32 0):=(by rw[cell_of_row W2 _ _ _ _ _ wm,List.getElem?_toArray,List.getElem?_append_right (by simp[il]),show(il l k).length=k from by simp[il],Nat.sub_self,List.getElem?_replicate,if_pos aa]);have f1:W2.frozen? ⟨w.heap.size+1,k,none⟩=false:=(by simp[World.frozen?,wm]);have⟨W3,mT⟩:=ex (W2.setCell ⟨w.heap.size+1,k,none⟩ (.int .i32 (-1)));have Cb:=heap_set wm k (.int .i32 (-1));have Wk:=(show W3.heap[wr.heap.size]? =W2.heap[wr.heap.size]? from by rw[←mT,ah _ _ _ _ av]).trans Dx;have qu:gB W3 w.heap.size l k:=wY.aA (by rw[←mT,ah _ _ _ _ ag]);have afG:Below w.heap.size w W3:=(by rw[←mT];exact Below.setCell (p:=⟨w.heap.size+1,k,none⟩) VH ag _);rw[mT]at Cb;have Nz:=ae mT;have AX:=ae wm;obtain⟨cc,hlk,Sl⟩:=qu.look (z0,z1,z2,z3);have Sm:=ae Sl;have x0:W3.cell? ⟨wr.heap.size,0,none⟩=some (.int .u8 (z0.toNat:Nat)):=C6;have x1:W3.cell? ⟨wr.heap.size,1,none⟩=some (.int .u8 (z1.toNat:Nat)):=C6;have x2:W3.cell? ⟨wr.heap.size,2,none⟩=some (.int .u8 (z2.toNat:Nat)):=C6;have x3:W3.cell? ⟨wr.heap.size,3,none⟩=some (.int .u8 (z3.toNat:Nat)):=C6;simp only[yo,qN]at hlk;have RP:=ae Cb;have HL3:=ae qu;have gF:=ae afG;clear mT wm wY VH Dx Sl Cb qu afG;go_upto_region 8 with fail;rw[Nz.out];have afC:IntKind.i32.wrap (k:Int)=(k:Int):=by have e1:IntKind.i32.min= -2147483648:=rfl;have e2:IntKind.i32.max=2147483647:=rfl;first | exact IntWalk.i32_in _ aa | (unfold IntKind.wrap;simp;omega)
   have et:w.heap.size+1<W3.heap.size:=(cr RP.out)
   have hmb:w.heap.size<W3.heap.size:=aa;cases hs:seen l (z0,z1,z2,z3) k with
   | true=>
    rw[hs]at hlk;have Ib:=ae (Sm.out hs);have c3:W3.cell? ⟨w.heap.size+1,k,none⟩=some (.int .i32 (-1)):=(by rw[cell_of_row W3 _ _ _ _ _ RP.out,List.getElem?_toArray,List.getElem?_set_self (by rw[List.length_append,uA,List.length_replicate];omega)]);have f3:W3.frozen? ⟨w.heap.size+1,k,none⟩=false:=(by simp[World.frozen?,RP.out]);have⟨W4,mG⟩:=ex (W3.setCell ⟨w.heap.size+1,k,none⟩ (.int .i32 cc));have ad1:=(show W4.heap[wr.heap.size]? =W3.heap[wr.heap.size]? from by rw[←mG,ah _ _ _ _ av]).trans Wk;have y0:W4.cell? ⟨wr.heap.size,0,none⟩=some (.int .u8 (z0.toNat:Nat)):=C7;have y1':W4.cell? ⟨wr.heap.size,1,none⟩=some (.int .u8 (z1.toNat:Nat)):=C7;have y2':W4.cell? ⟨wr.heap.size,2,none⟩=some (.int .u8 (z2.toNat:Nat)):=C7;have y3':W4.cell? ⟨wr.heap.size,3,none⟩=some (.int .u8 (z3.toNat:Nat)):=C7;have Cl:Hid (W4.heap[w.heap.size+1]? =some (.cells (il l (k+1)++List.replicate (n-(k+1)) (Value.int .i32 0)).toArray 21 (0,0))):=ae (by
     have h:=heap_set RP.out k (.int .i32 cc);rw[mG,List.set_set,Ch l n k hkl cc (by rw[HFO.out];exact Ib.out)]at h;exact h)
    have W_:Hid (gB W4 w.heap.size l k):=ae (HL3.out.aA (by rw[←mG,ah _ _ _ _ ag]));have dE:Hid (Below w.heap.size w W4):=ae (by rw[←mG];exact Below.setCell (p:=⟨w.heap.size+1,k,none⟩) gF.out ag _);have M2:=ae mG;clear mG Wk ad1 hs et hmb;go_upto_region 11 with fail;rw[M2.out];obtain⟨w5,hmu,Qj,ht5⟩:=W_.out.put aa;rw[HFO.out]at hmu;simp only[yo,qN]at hmu;have je:=ht5.grown;have abd:Hid (w5.heap[w.heap.size+1]? =some (.cells (il l (k+1)++List.replicate (n-(k+1)) (Value.int .i32 0)).toArray 21 (0,0))):=ae ((je.block _ (cr Cl.out) ag).trans Cl.out);have wC:Hid (Below w.heap.size w w5):=ae (ao dE.out je dE.out.size (fun g e=>xA));have HL5:=ae Qj;clear Qj ht5 je;go_wp2_with fail;exact⟨⟨k+1,aa,aE,abd,HL5,wC⟩,jb⟩
   | false=>
    rw[hs]at hlk;have sH:Hid (-1=bC l (four l k) k):=ae (by
     have h1: ¬0≤bC l (z0,z1,z2,z3) k:=(by simpa [seen]using hs);rw[HFO.out];rcases jv l (z0,z1,z2,z3) k with h | h<;>omega)
    have Cl:Hid (W3.heap[w.heap.size+1]? =some (.cells (il l (k+1)++List.replicate (n-(k+1)) (Value.int .i32 0)).toArray 21 (0,0))):=ae (by
     rw[←Ch l n k hkl (-1) sH.out];exact RP.out)
    have W_:=HL3;have dE:=gF;clear Wk hs et hmb;obtain⟨w5,hmu,Qj,ht5⟩:=W_.out.put aa;rw[HFO.out]at hmu;simp only[yo,qN]at hmu;have je:=ht5.grown;have abd:Hid (w5.heap[w.heap.size+1]? =some (.cells (il l (k+1)++List.replicate (n-(k+1)) (Value.int .i32 0)).toArray 21 (0,0))):=ae ((je.block _ (cr Cl.out) ag).trans Cl.out);have wC:Hid (Below w.heap.size w w5):=ae (ao dE.out je dE.out.size (fun g e=>xA));have HL5:=ae Qj;clear Qj ht5 je;go_wp2_with fail;exact⟨⟨k+1,aa,aE,abd,HL5,wC⟩,jb⟩
  ·obtain rfl:k=n:=(by omega);rw[Nat.sub_self,List.replicate_zero,List.append_nil]at HR;clear E7 a7;go_wp2_with fail;go_ret;exact⟨rfl,HR.out,HB.out⟩
end
end Go.Proofs.YtfcaoggfnkhfiaaGreatDoor
