import Derived.Test.YtgfpocdiojifoaaGreatDoorZ08
import Derived.BigRegionIn
import Derived.Maps.OwnRows
import Derived.WideKeyEntry
import Derived.Test.YtgfpocdiojifoaaGreatDoorRows
import Derived.Deep.RegionHeld3
import Derived.Deep.DeepCutAuto
namespace Go.Proofs.YtgfpocdiojifoaaGreatDoor
set_option maxRecDepth 100000
set_option maxHeartbeats 8000000
open Go.RowKit Go.Proofs.Tryz
section
open Go.RowKit Go.Shelf
attribute [local go_sem] Oper.semAt_some
theorem dw.more{S T:Nat→Prop}{f:Nat→Nat}{n k:Nat}(h:dw S f n k)(hST: ∀j,S j→T j)(hT: ∀j,T j→S j∨(f j≤n∧ ∀s,S s→s<j)):dw T f n k:=by
 refine⟨fun j hj=> ?_,fun j hj aF=> ?_,h.at_.imp id fun⟨a,b⟩=>⟨hST k a,b⟩⟩
 ·rcases hT j hj with e | ⟨e,_⟩
  ·exact h.le j e
  ·exact e
 ·rcases hT j hj with e | ⟨_,e⟩
  ·exact h.lt j e aF
  ·rcases h.at_ with⟨_,rfl⟩ | ⟨e2,_⟩
   ·omega
   ·have:=e k e2;omega
def fR(place:Nat)(L:List Nat)(j:Nat):Prop:= ∃x∈L,j=place-x
theorem Lu{place j:Nat}: ¬fR place [] j:=fun⟨_,h,_⟩=>by cases h
theorem xi{place:Nat}{L:List Nat}{x j:Nat}:fR place (L++[x]) j↔fR place L j∨j=place-x:=by
 unfold fR;constructor
 ·rintro⟨y,hy,rfl⟩;rcases List.mem_append.1 hy with h | h;·exact .inl ⟨y,h,rfl⟩
  ·rw[List.mem_singleton]at h;subst h;exact .inr rfl
 ·rintro(⟨y,hy,rfl⟩ | rfl);·exact⟨y,List.mem_append_left _ hy,rfl⟩
  ·exact⟨x,ae,rfl⟩
theorem KeepsOthers.drewN(W:World)(m:Nat):KeepsOthers W (W.drewN m):=⟨Nat.le_refl _,fun _ _ h _=>h⟩
structure eI(w:World)(b0 b1 b2 b3 b4:Nat)(f:Nat→Nat)(place lm:Nat)(Fp:Nat)(n k:Nat)(S:Nat→Prop)(W:World):Prop where
 below:Below w.heap.size w W
 bf:aQ b0 W (PF Fp)
 bp:aQ b1 W (.int .i64 (place:Nat))
 bl:aQ b2 W (.int .i64 (lm:Nat))
 bn:aQ b3 W (.int .i64 (n:Nat))
 bd:aQ b4 W (.int .i64 (k:Nat))
 Ej:dw S f n k
 le:n≤lm
 kl:k≤place
theorem aQ.lt{b:Nat}{w:World}{v:Value}(h:aQ b w v):b<w.heap.size:=by obtain⟨t,h⟩:=h;exact(cr h)
theorem aQ.set{b:Nat}{w:World}{v:Value}(h:aQ b w v)(u:Value):aQ b (w.setCell ⟨b,0,none⟩ u) u:=by obtain⟨t,h⟩:=h;exact⟨t,by rw[heap_setCell_same w b 0 _ _ u h];rfl⟩
theorem aQ.frozen{b:Nat}{w:World}{v:Value}(h:aQ b w v):w.frozen? ⟨b,0,none⟩=false:=by obtain⟨t,h⟩:=h;exact frozen_of_row w b 0 _ _ h
theorem aQ.other{b b':Nat}{w:World}{v:Value}(h:aQ b w v)(u:Value)(dr:b≠b'):aQ b (w.setCell ⟨b',0,none⟩ u) v:=h.aI (ag _ _ _ _ dr)
section
variable{w W W':World}{b0 b1 b2 b3 b4:Nat}{f:Nat→Nat}{place lm:Nat}{Fp n k:Nat}{S:Nat→Prop}
theorem eI.aI(h:eI w b0 b1 b2 b3 b4 f place lm Fp n k S W)(hb:Below w.heap.size w W')(hk: ∀i v,aQ i W v→W'.heap[i]? =W.heap[i]?):eI w b0 b1 b2 b3 b4 f place lm Fp n k S W':=
 ⟨hb,h.bf.aI (hk _ _ h.bf),h.bp.aI (hk _ _ h.bp),h.bl.aI (hk _ _ h.bl),h.bn.aI (hk _ _ h.bn),h.bd.aI (hk _ _ h.bd),h.Ej,h.le,h.kl⟩
theorem eI.to{T:Nat→Prop}(h:eI w b0 b1 b2 b3 b4 f place lm Fp n k S W)(hb:dw T f n k):eI w b0 b1 b2 b3 b4 f place lm Fp n k T W:=
 ⟨h.below,h.bf,h.bp,h.bl,h.bn,h.bd,hb,h.le,h.kl⟩
theorem eI.alloc(h:eI w b0 b1 b2 b3 b4 f place lm Fp n k S W)(o:Obj):eI w b0 b1 b2 b3 b4 f place lm Fp n k S (W.alloc o):=
 h.aI (h.below.alloc h.below.size _) fun _ _ hi=>Below.heap_alloc _ _ _ hi.lt
theorem eI.drewN(h:eI w b0 b1 b2 b3 b4 f place lm Fp n k S W)(m:Nat):eI w b0 b1 b2 b3 b4 f place lm Fp n k S (W.drewN m):=
 h.aI (below_drewN h.below m) fun _ _ hi=>(below_drewN (Below.refl _ _) m:Below W.heap.size W (W.drewN m)).block _ hi.lt
theorem eI.putObj(h:eI w b0 b1 b2 b3 b4 f place lm Fp n k S W)(l:Nat)(o o':Obj)(hl:w.heap.size≤l)(we:W.heap[l]? =some o)(ho:o.isCells=false):eI w b0 b1 b2 b3 b4 f place lm Fp n k S (W.putObj l o'):=by refine h.aI (h.below.grown (grownBy_putObj' W l o') h.below.size (fun k e=>by cases e;omega)) fun i v hi=>World.putObj_heap_other ?_;rintro rfl;obtain⟨t,hv⟩:=hi;rw[hv]at we;cases we;cases ho
theorem eI.cells(h:eI w b0 b1 b2 b3 b4 f place lm Fp n k S W):W.cell? ⟨b0,0,none⟩=some (PF Fp)∧W.cell? ⟨b1,0,none⟩=some (.int .i64 (place:Nat))∧W.cell? ⟨b2,0,none⟩=some (.int .i64 (lm:Nat))∧W.cell? ⟨b3,0,none⟩=some (.int .i64 (n:Nat))∧W.cell? ⟨b4,0,none⟩=some (.int .i64 (k:Nat)):=
 ⟨h.bf.cell,h.bp.cell,h.bl.cell,h.bn.cell,h.bd.cell⟩
end
def xj(d:List UInt8)(place lm:Nat)(dict:Int)(L:List Nat)(w:World)(e:Ending)(w':World):Prop:= ∃n k,e= .returned (.tuple #[.int .i64 (n:Nat),.int .i64 (k:Nat)])∧dw (fun j=>(j:Int)≤dict∧fR place L j) (fun j=>aU d place (place-j) lm) n k∧Below w.heap.size w w'
theorem ZJ(w:World)(v0 v1 v2 v3 v4:Value)(t0 t1 t2 t3 t4:TypeId)(W:World)(hW:((((w.alloc (.cells #[v0] t0)).alloc (.cells #[v1] t1)).alloc (.cells #[v2] t2)).alloc (.cells #[v3] t3)).alloc (.cells #[v4] t4)=W):
  Below w.heap.size w W∧aQ w.heap.size W v0∧aQ (w.heap.size+1) W v1∧aQ (w.heap.size+1+1) W v2∧aQ (w.heap.size+1+1+1) W v3∧aQ (w.heap.size+1+1+1+1) W v4:=by
 subst hW;have up: ∀{b:Nat} {W:World} {v:Value} (o:Obj),aQ b W v→aQ b (W.alloc o) v:=fun o h=>h.aI (Below.heap_alloc _ _ _ h.lt);have mk: ∀(W:World) (v:Value) (t:TypeId) (b:Nat),b=W.heap.size→aQ b (W.alloc (.cells #[v] t)) v:=fun W v t b e=>by subst e;exact aQ.made W v t
 refine⟨?_,up _ (up _ (up _ (up _ (mk _ _ _ _ rfl)))),up _ (up _ (up _ (mk _ _ _ _ ae))),up _ (up _ (mk _ _ _ _ ae)),up _ (mk _ _ _ _ ae),mk _ _ _ _ ae⟩;refine Below.alloc ?_ av _;refine Below.alloc ?_ av _;refine Below.alloc ?_ av _;refine Below.alloc ?_ ae _;exact ap
theorem ua(Fp:Nat)(A:Option Addr)(c:Nat)(d:List UInt8)(dict nice:Int)(mp:Nat)(v4:Value)(place lm:Nat)(gf:Nat)(lb:Array Value)(L:List Nat)(w:World)
  (hF:cZ w Fp A c d dict nice mp v4) (hp:place+lm≤d.length) (h1:1≤lm) (hL: ∀x∈L,x<place) (Xz:L.Pairwise (· > ·)) (eg: ∀args w,(callFunc gf args).run prog w= .ok (.enter gf args) w)
  (Ec:Kf Fence.wide 3 prog gf lb L w):
  Calls prog 199 #[PF Fp,.int .i64 (place:Nat),.int .i64 (lm:Nat),.func (.func gf) #[] lb] w (xj d place lm dict L w):=by
 have rz:(place:Int)≤100000:=ar hF.small;have sQ:(lm:Int)≤100000:=ar hF.small;have G9:(d.length:Int)≤100000:=ar hF.small;have tY:(d.length:Int)≤(c:Int):=ar hF.cap;have HF:=hdd hF;have ajP:=hdd Ec;have HEG:=hdd eg;have HL:=hdd hL;have adA:=hdd Xz;have HP:=hdd hp;clear hF Ec eg hL Xz hp;refine(callsIn_wide (n:=4)).1 ?_;refine callsIn_of_wp_marks func199 rfl trivial ?_ rfl;simp only[ntmps199,List.size_toArray,List.length_cons,List.length_nil,Nat.reduceAdd,Nat.reduceSub,Array.replicate_succ,Array.replicate_zero,List.push_toArray,List.append_toArray,List.nil_append,List.cons_append]
 gi_wp2
 generalize tS:((((w.alloc _).alloc _).alloc _).alloc _).alloc _=W0;obtain⟨eH,x0,x1,x2,x3,x4⟩:=ZJ _ _ _ _ _ _ _ _ _ _ _ _ tS;have Db:Hid (w.heap.size<w.heap.size+1):=hdd aa;have dr:(w.heap.size≠w.heap.size+1+1+1∧w.heap.size+1≠w.heap.size+1+1+1∧w.heap.size+1+1≠w.heap.size+1+1+1)∧(w.heap.size≠w.heap.size+1+1+1+1∧w.heap.size+1≠w.heap.size+1+1+1+1∧w.heap.size+1+1≠w.heap.size+1+1+1+1)∧w.heap.size+1+1+1≠w.heap.size+1+1+1+1:=aa;have Dy:w.heap.size≤w.heap.size+1+1+1∧w.heap.size≤w.heap.size+1+1+1+1:=aa;have⟨s,hs⟩:=ex (w.heap.size);obtain⟨b4,bc⟩: ∃b,s+1+1+1+1=b:=⟨_,rfl⟩
 obtain⟨b3,aW⟩: ∃b,s+1+1+1=b:=⟨_,rfl⟩
 obtain⟨b2,aE⟩: ∃b,s+1+1=b:=⟨_,rfl⟩
 obtain⟨b1,aC⟩: ∃b,s+1=b:=⟨_,rfl⟩
 rw[hs]at dr Dy x0 x1 x2 x3 x4 ⊢;rw[bc]at dr Dy x4 ⊢;rw[aW]at dr Dy x3 ⊢;rw[aE]at dr x2 ⊢;rw[aC]at dr x1 ⊢;have Dc:=hdd dr;have nD:Hid (w.heap.size≤b3∧w.heap.size≤b4):=hdd (by rw[hs];exact Dy);clear tS Db aC aE aW bc dr Dy
 refine ze rfl an (gf:=gf) (lb:=lb) rfl trivial HEG.out ajP.out rfl
  (fun pre W=> ∃n k,eI w s b1 b2 b3 b4 (fun j=>aU d place (place-j) lm) place lm Fp n k (fR place pre) W∧ ∀y∈pre,(place:Int)-(y:Int)≤dict)
  (fun e W=>e=Code.exit 0∧ ∃n k,eI w s b1 b2 b3 b4 (fun j=>aU d place (place-j) lm) place lm Fp n k (fun j=>(j:Int)≤dict∧fR place L j) W)
  (fun s W o ⟨n,k,h,hd⟩=>⟨n,k,h.alloc o,hd⟩) (fun s W l o o' ⟨n,k,h,hd⟩ hl we ho=>⟨n,k,h.putObj l o o' (Nat.le_trans eH.size hl) we ho,hd⟩) (fun s W ⟨n,k,h,hd⟩=>h.below) (fun s W m ⟨n,k,h,hd⟩=>⟨n,k,h.drewN m,hd⟩)
  (fun e W l o o' ⟨he,n,k,h⟩ hl we ho=>⟨he,n,k,h.putObj l o o' (Nat.le_trans eH.size hl) we ho⟩) (fun e W m ⟨he,n,k,h⟩=>⟨he,n,k,h.drewN m⟩)
  ⟨0,0,⟨eH,x0,x1,x2,x3,x4,(dw.none _).iff fun j=>⟨fun h=>Lu h,fun h=>h.elim⟩,Nat.zero_le _,Nat.zero_le _⟩,fun y hy=>by cases hy⟩
  (fun x=>{tmps:= #[PF Fp,.int .i64 (place:Nat),.int .i64 (lm:Nat),.func (.func gf) #[] lb,.pointer (some ⟨s,0,none⟩),.pointer (some ⟨b1,0,none⟩),.pointer (some ⟨b2,0,none⟩),undef,.int .i64 0,.int .i64 0,.pointer (some ⟨b3,0,none⟩),.pointer (some ⟨b4,0,none⟩),.int .i64 (x:Nat),undef,.func (.func gf) #[] lb,.int .i64 (x:Nat),undef,undef,undef,undef,undef,undef,undef,undef,undef,undef,undef,undef,undef,undef,undef,undef,undef,undef,undef,undef,undef,undef,undef,undef,undef,undef,undef,undef,undef,undef,undef,undef,undef,undef,undef,undef,undef,undef,undef,undef,undef,undef,undef,undef,undef,undef],defers:=[]}) ?assign ?body ?done ?stop
 case assign=>
  intro l x W K hK
  gi_wp2
  exact hK
 case body=>
  rintro l pre x t W jv ⟨n,k,hI,xl⟩;have hx:x<place:=HL.out x (by rw[jv];simp);have Qk:=adA.out;rw[jv,List.pairwise_append]at Qk;have adB: ∀y∈pre,x<y:=fun y hy=>Qk.2.2 y hy x ae;have gI: ∀y∈t,y<x:=(List.pairwise_cons.1 Qk.2.1).1;have zW: ∀s,fR place pre s→s<place-x:=by rintro _ ⟨y,hy,rfl⟩;have:=adB y hy;have:=HL.out y (by rw[jv];simp[hy]);omega
  have hDL: ∀j,fR place L j↔fR place pre j∨j=place-x∨fR place t j:=by
   intro j;rw[jv];constructor
   ·rintro⟨y,hy,rfl⟩;rcases List.mem_append.1 hy with h | h;·exact .inl ⟨y,h,rfl⟩
    ·rcases List.mem_cons.1 h with rfl | h;·exact .inr (.inl rfl)
     ·exact .inr (.inr ⟨y,h,rfl⟩)
   ·rintro(⟨y,hy,rfl⟩ | rfl | ⟨y,hy,rfl⟩);·exact⟨y,by simp[hy],rfl⟩
    ·exact⟨x,ae,rfl⟩
    ·exact⟨y,by simp[hy],rfl⟩
  have XA: ∀j,fR place t j→place-x<j:=by rintro _ ⟨y,hy,rfl⟩;have:=gI y hy;omega
  have NV: ∀j,fR place pre j→(j:Int)≤dict:=by rintro _ ⟨y,hy,rfl⟩;have:=xl y hy;have:=HL.out y (by rw[jv];simp[hy]);omega
  obtain⟨cf,cp,cl,cn,cd⟩:=hI.cells;have hFW:=HF.out.below hI.below;obtain⟨f0,f1,_,_,_⟩:=hFW.cells;have hxi:(x:Int)<(place:Int):=aa;have hle:=hI.le;have BM:(n:Int)≤(lm:Int):=aa;have HI:=hdd hI;have Lv:=hdd hDL;have Ek:=hdd zW;have XB:=hdd XA;have XC:=hdd NV;have adC:=hdd xl;have HX:=hdd hx;have HFW:=hdd hFW;clear hI hDL zW XA NV Qk adB gI xl jv hx hFW hle;by_cases hd:dict<(place:Int)-(x:Int)
  ·have Ee:Hid (∃n k,eI w s b1 b2 b3 b4 (fun j=>aU d place (place-j) lm) place lm Fp n k (fun j=>(j:Int)≤dict∧fR place L j) W):=hdd ⟨n,k,HI.out.to (HI.out.Ej.iff fun j=>by
    rw[Lv.out];constructor
    ·rintro⟨h1,h | rfl | h⟩;·exact h
     ·have:=HX.out;omega
     ·have:=XB.out j h;have:=HX.out;omega
    ·exact fun h=>⟨XC.out j h,.inl h⟩)⟩
   gi_wp2
   refine dC rfl ak ak ak ?_;repeat (gi_big_quiet_step (fail))
   refine wpQuietIn_nil ?_;rintro _ ⟨nq,rfl⟩
   gi_wp2
   obtain⟨n',k',bJ⟩:=Ee.out;exact⟨KeepsOthers.drewN _ _,rfl,n',k',bJ.drewN _⟩
  ·have hd':decide (dict<(place:Int)-(x:Int))=false:=(by simp;omega);have pL: ¬dict<(place:Int)-(x:Int):=hd;by_cases hn:n=lm
   ·have Ee:Hid (∃n k,eI w s b1 b2 b3 b4 (fun j=>aU d place (place-j) lm) place lm Fp n k (fun j=>(j:Int)≤dict∧fR place L j) W):=hdd ⟨n,k,HI.out.to (HI.out.Ej.more (fun j hj=>⟨XC.out j hj,(Lv.out j).2 (.inl hj)⟩) fun j hj=>by
     rcases(Lv.out j).1 hj.2 with h | h;·exact .inl h
     ·refine .inr ⟨by rw[hn];exact ir _ _ _ _,fun s hs=> ?_⟩;have h1:=Ek.out s hs;rcases h with rfl | h;·exact h1
      ·have:=XB.out j h;omega)⟩
    have he:((n:Int)==(lm:Int))=true:=(by rw[hn];simp);clear hn
    gi_wp2
    refine dC rfl ak ak ak ?_;repeat (gi_big_quiet_step (fail))
    refine wpQuietIn_nil ?_;rintro _ ⟨nq,rfl⟩
    gi_wp2
    obtain⟨n',k',bJ⟩:=Ee.out;exact⟨KeepsOthers.drewN _ _,rfl,n',k',bJ.drewN _⟩
   ·have he:((n:Int)==(lm:Int))=false:=(by rw[beq_eq_false_iff_ne];omega);have asr:(n:Int)<(lm:Int):=aa;have HD2:Hid (∀y∈pre++[x],(place:Int)-(y:Int)≤dict):=hdd (fun y hy=>by
     rcases List.mem_append.1 hy with h | h;·exact adC.out y h
     ·rw[List.mem_singleton]at h;subst h;omega)
    have HM:Hid (∀m,Calls prog 202 #[PF Fp,.int .i64 (place:Nat),.int .i64 (x:Nat),.int .i64 (lm:Nat)] (W.drewN m) fun e w'=>e= .returned (.int .i64 (aU d place x lm:Nat))∧ ∃q,w'=(W.drewN m).drewN q):=hdd (fun m=>by
     have:=Ef Fp A c d dict nice mp v4 place x (lm:Int) _ (HFW.out.drewN m) (by have:=HP.out;simpa using this) (ar HX.out);simpa only[Int.toNat_natCast]using this)
    have⟨g,hg⟩:=ex (aU d place x lm);have qc:(g:Int)≤(lm:Int):=ar (ir d place x lm);rw[hg]at HM;have HG:=hdd hg;clear hg;obtain⟨b,off,rfl,_,bx⟩:=HFW.out.bytes.addr (ar HP.out);have⟨y,hy⟩:=ex (place+n:Nat);have hyi:(place:Int)+(n:Int)=(y:Int):=aa;have⟨z,hz⟩:=ex (x+n:Nat);have ZK:(x:Int)+(n:Int)=(z:Int):=aa;have YU:(y:Int)<(d.length:Int):=ar HP.out;have Uv:(z:Int)<(d.length:Int):=ar HP.out;have cy:=bx y aa;have cz:=bx z aa;have e1:=cY (d:=d) (i:=y) aa;have e2:=cY (d:=d) (i:=z) aa;generalize d[y]'aa=u at*;generalize d[z]'aa=v at*;have uL:=hdd (And.intro (hy▸e1:d.getD (place+n) 0=u) (hz▸e2:d.getD (x+n) 0=v));have zL:Hid (place-(place-x)=x):=hdd aa;have ve:Hid (∀m,eI w s b1 b2 b3 b4 (fun j=>aU d place (place-j) lm) place lm Fp n k (fR place pre) (W.drewN m)):=hdd (fun m=>HI.out.drewN m);have Ql:Hid (aU d place x lm≤n→ ∀m,∃n k,eI w s b1 b2 b3 b4 (fun j=>aU d place (place-j) lm) place lm Fp n k (fR place (pre++[x])) (W.drewN m)):=hdd (fun h m=>⟨n,k,(ve.out m).to (((ve.out m).Ej.skip Ek.out (by show aU d place (place-(place-x)) lm≤n;rw[zL.out];exact h)).iff fun j=>xi)⟩);clear hn hy hz e1 e2 bx;by_cases zh:v=u
    ·have dr:((v.toNat:Int) !=(u.toNat:Int))=false:=(by rw[zh];simp);have adE:((v.toNat:Int)==(u.toNat:Int))=true:=(by rw[zh];simp);clear zh;have HGN:Hid (n<g→dw (fR place (pre++[x])) (fun j=>aU d place (place-j) lm) g (place-x)):=hdd (fun h=>by
      have e:aU d place (place-(place-x)) lm=g:=(by rw[zL.out];exact HG.out);have:=HI.out.Ej.take (j:=place-x) Ek.out (by show n<aU d place (place-(place-x)) lm;rw[e];exact h);rw[e]at this;exact this.iff fun j=>xi)
     gi_wp2
     refine dC rfl ak ak ak ?_;repeat (gi_big_quiet_step (fail))
     refine wpQuietIn_nil ?_;rintro _ ⟨nq,rfl⟩
     gi_wp2
     refine dC rfl ak ak ak ?_;repeat (gi_big_quiet_step (fail))
     refine wpQuietIn_nil ?_;rintro _ ⟨nr,rfl⟩
     gi_wp2
     refine⟨trivial,(CallsIn.inRound _ (callsIn_wide.2 (HM.out _))).mono ?_⟩;rintro e w' ⟨rfl,ns,rfl⟩;by_cases El:n<g
     ·have ajR:decide ((n:Int)<(g:Int))=true:=(by simp;omega);have ajS:(n:Int)<(g:Int):=aa;obtain⟨⟨n03,n13,n23⟩,⟨n04,n14,n24⟩,n34⟩:=Dc.out;have n31:=n13.symm;have n43:=n34.symm;have n41:=n14.symm;have fn:=HI.out.bn.frozen;have fd:=HI.out.bd.frozen;have⟨k2,my⟩:=ex (place-x);have asx:(k2:Int)≤100000:=aa;have hpx:(place:Int)-(x:Int)=(k2:Int):=aa;have yA:IntKind.i64.wrap (k2:Int)=(k2:Int):=IntWalk.i64_in _ aa;have fi:Hid (∀m,KeepsOthers W (((W.drewN m).setCell ⟨b3,0,none⟩ (.int .i64 (g:Nat))).setCell ⟨b4,0,none⟩ (.int .i64 (k2:Nat)))∧ ∃n k,eI w s b1 b2 b3 b4 (fun j=>aU d place (place-j) lm) place lm Fp n k (fR place (pre++[x])) (((W.drewN m).setCell ⟨b3,0,none⟩ (.int .i64 (g:Nat))).setCell ⟨b4,0,none⟩ (.int .i64 (k2:Nat)))):=hdd (fun m=>by
       have h:=ve.out m;exact⟨((KeepsOthers.drewN _ _).trans (KeepsOthers.setCell _ _ _)).trans (KeepsOthers.setCell _ _ _),g,k2,(h.below.setCell nD.out.1 _).setCell nD.out.2 _,(h.bf.other _ n03).other _ n04,(h.bp.other _ n13).other _ n14,(h.bl.other _ n23).other _ n24,(h.bn.set _).other _ n34,(h.bd.other _ n43).set _,by rw[←my];exact HGN.out El,aa,aa⟩)
      clear my
      gi_wp2
      gi_region
      all_goals gi_wp2
      all_goals(obtain⟨hk,n',k',bJ⟩:=fi.out (nq+nr+ns+1);exact⟨hk,n',k',bJ,HD2.out⟩)
     ·have ajR:decide ((n:Int)<(g:Int))=false:=(by simp;omega);have ajS: ¬(n:Int)<(g:Int):=aa
      gi_wp2
      obtain⟨n',k',bJ⟩:=Ql.out (by rw[HG.out];omega) (nq+nr+ns);exact⟨KeepsOthers.drewN _ _,n',k',bJ,HD2.out⟩
    ·have dr:((v.toNat:Int) !=(u.toNat:Int))=true:=(by rw[bne_iff_ne];intro h;exact zh (UInt8.toNat_inj.1 aa));have adE:((v.toNat:Int)==(u.toNat:Int))=false:=(by rw[beq_eq_false_iff_ne];intro h;exact zh (UInt8.toNat_inj.1 aa));have hcut:Hid (aU d place x lm≤n):=hdd (Lp (by rw[uL.out.1,uL.out.2];exact zh));clear zh
     gi_wp2
     refine dC rfl ak ak ak ?_;repeat (gi_big_quiet_step (fail))
     refine wpQuietIn_nil ?_;rintro _ ⟨nq,rfl⟩
     gi_wp2
     refine dC rfl ak ak ak ?_;repeat (gi_big_quiet_step (fail))
     refine wpQuietIn_nil ?_;rintro _ ⟨nr,rfl⟩
     gi_wp2
     rw[World.drewN_drewN];obtain⟨n',k',bJ⟩:=Ql.out hcut.out (nq+nr);exact⟨KeepsOthers.drewN _ _,n',k',bJ,HD2.out⟩
 case done=>
  rintro D W hD ⟨n,k,hI,xl⟩ hK;have U6:Hid (eI w s b1 b2 b3 b4 (fun j=>aU d place (place-j) lm) place lm Fp n k (fun j=>(j:Int)≤dict∧fR place L j) W):=hdd (hI.to (hI.Ej.iff fun j=>by
   constructor;·exact fun h=>h.2
   ·rintro⟨y,hy,rfl⟩;have h1:=xl y hy;have h2:=HL.out y hy;exact⟨aa,y,hy,rfl⟩))
  obtain⟨cf,cp,cl,cn,cd⟩:=U6.out.cells;clear hI xl
  gi_wp2
  refine wpIn_region_quiet_lit rfl ak ak ?_;repeat (gi_big_quiet_step (fail))
  refine wpQuietIn_nil ?_;rintro _ ⟨nq,rfl⟩
  gi_wp2
  refine⟨ae,.inl ⟨_,_,rfl,run_takeDeferred (b:=D) (ds:=[]) hK,?_⟩⟩;refine⟨_,results_tmp2 rfl _ _ _,n,k,rfl,U6.out.Ej,?_⟩;have hbq:=(U6.out.drewN nq).below;exact hbq.grown (grownBy_putObj' (W.drewN nq) D (.deferred none)) hbq.size (fun k e=>by cases e;exact Nat.le_trans eH.size hD)
 case stop=>
  rintro D _ W hD ⟨rfl,n,k,hI⟩ hK;obtain⟨cf,cp,cl,cn,cd⟩:=hI.cells;have U6:=hdd hI;clear hI
  gi_wp2
  refine wpIn_region_quiet_lit rfl ak ak ?_;repeat (gi_big_quiet_step (fail))
  refine wpQuietIn_nil ?_;rintro _ ⟨nq,rfl⟩
  gi_wp2
  refine⟨ae,.inl ⟨_,_,rfl,run_takeDeferred (b:=D) (ds:=[]) hK,?_⟩⟩;refine⟨_,results_tmp2 rfl _ _ _,n,k,rfl,U6.out.Ej,?_⟩;have hbq:=(U6.out.drewN nq).below;exact hbq.grown (grownBy_putObj' (W.drewN nq) D (.deferred none)) hbq.size (fun k e=>by cases e;exact Nat.le_trans eH.size hD)
end
section
section
variable{d:List UInt8}{place:Nat}{dict:Int}
def rU(d:List UInt8)(place L:Nat)(j:Nat):Nat:=aU d place (place-j) L
def depth(place:Nat)(dict:Int):Nat:=(min (place:Int) dict).toNat
def S4(d:List UInt8)(place:Nat)(dict:Int)(j:Nat):Prop:=(j:Int)≤dict∧fR place (chain d (four d place) place) j
theorem adG{j:Nat}(h:S4 d place dict j):1≤j∧j≤depth place dict:=by obtain⟨h1,x,hx,rfl⟩:=h;have:=(jV.1 hx).1;unfold depth;omega
theorem XD{L j:Nat}(h1:1≤j)(h2:j≤depth place dict)(h:4≤rU d place L j):S4 d place dict j:=by unfold depth at h2;refine⟨aa,place-j,jV.2 ⟨aa,Eg h⟩,aa⟩
def S2(L2:List Nat)(place:Nat)(dict:Int)(j:Nat):Prop:=(j:Int)≤dict∧fR place L2 j
theorem Lw{L n k:Nat}(h:dw (S4 d place dict) (rU d place L) n k)(h4:4≤n):(n,k)=bX (rU d place L) (depth place dict):=by have h1:=h.all (m:=4) (fun j hj=>adG hj) (fun j a b c=>XD a b c) h4 an;obtain⟨e1,e2⟩:=h1.unique (iN _ _);rw[e1,e2]
theorem U7{L n k:Nat}(h:dw (S4 d place dict) (rU d place L) n k)(h4:n<4): ∀j,1≤j→j≤depth place dict→rU d place L j≤3:=by
 intro j h1 h2;rcases Nat.lt_or_ge (rU d place L j) 4 with h3 | h3;·omega
 ·have:=h.le j (XD h1 h2 h3);omega
theorem zX{L2:List Nat}{L M n k:Nat}(hL2: ∀x,x∈L2↔x<place∧d.getD x 0=d.getD place 0∧d.getD (x+1) 0=d.getD (place+1) 0)(hM:2≤M)(hML:M≤L)(hf: ∀j,1≤j→j≤depth place dict→rU d place L j≤M)
  (h:dw (S2 L2 place dict) (rU d place M) n k):(n,k)=if(bX (rU d place L) (depth place dict)).1<2 then(0,0)else bX (rU d place L) (depth place dict):=by
 have NV: ∀j,S2 L2 place dict j→1≤j∧j≤depth place dict:=by rintro _ ⟨h1,x,hx,rfl⟩;have:=((hL2 x).1 hx).1;unfold depth;omega
 have he: ∀j,1≤j→j≤depth place dict→rU d place M j=rU d place L j:=fun j h1 h2=>by have:=hf j h1 h2;unfold rU at this ⊢;rw[Eb hML];omega
 have hof: ∀j,1≤j→j≤depth place dict→2≤rU d place L j→S2 L2 place dict j:=fun j h1 h2 h3=>by unfold depth at h2;obtain⟨p1,p2⟩:=Eh h3;exact⟨aa,place-j,(hL2 _).2 ⟨aa,p1,p2⟩,aa⟩
 have h2:dw (S2 L2 place dict) (rU d place L) n k:=by
  refine⟨fun j hj=> ?_,fun j hj aF=> ?_,h.at_.imp id fun⟨a,b,c⟩=>⟨a,?_,c⟩⟩;·obtain⟨a,b⟩:=NV j hj;rw[←he j a b];exact h.le j hj
  ·obtain⟨a,b⟩:=NV j hj;rw[←he j a b];exact h.lt j hj aF
  ·obtain⟨a',b'⟩:=NV k a;rw[←he k a' b'];exact b
 have hB:=iN (rU d place L) (depth place dict);by_cases hn:2≤n;·obtain⟨e1,e2⟩:=(h2.all (m:=2) NV hof hn an).unique hB;rw[if_neg aa,e1,e2]
 ·have FY:n=0∧k=0:=by
   rcases h2.at_ with e | ⟨a,b,c⟩
   ·exact e
   ·exfalso;obtain⟨_,x,hx,e⟩:=a;obtain⟨x1,x2,x3⟩:=(hL2 x).1 hx;have:2≤rU d place L k:=by
     have hk:place-k=x:=aa;unfold rU;rw[hk];have hl:=dO d L place x;rcases Nat.lt_or_ge (aU d place x L) 2 with g | g
     ·exfalso;rcases hl.stop with e1 | e1;·omega
      ·have:aU d place x L=0∨aU d place x L=1:=(by omega);rcases this with e2 | e2<;>rw[e2]at e1;·exact e1 x2.symm
       ·exact e1 x3.symm
     ·exact g
    omega
  have:(bX (rU d place L) (depth place dict)).1<2:=by
   rcases hB.at_ with⟨e,_⟩ | ⟨a,b,c,e⟩
   ·omega
   ·rcases Nat.lt_or_ge (bX (rU d place L) (depth place dict)).1 2 with g | g;·exact g
    ·have:=h2.le _ (hof _ a b aa);omega
  rw[if_pos this,FY.1,FY.2]
theorem Lx{x y:UInt8}{h:Nat}(hx:d.getD place 0=x)(hy:d.getD (place+1) 0=y)(hp:place+1<d.length)(hh:h≤(places d x y (d.length-1)).length)
  (we: ∀q (_:q<(places d x y (d.length-1)).length),q<h→(places d x y (d.length-1))[q]<place) (Ei: ∀q (_:q<(places d x y (d.length-1)).length),h≤q→place≤(places d x y (d.length-1))[q]):
  (∀z,z∈((places d x y (d.length-1)).take h).reverse↔z<place∧d.getD z 0=d.getD place 0∧d.getD (z+1) 0=d.getD (place+1) 0)∧((places d x y (d.length-1)).take h).reverse.Pairwise (· > ·):=by
 constructor
 ·intro z;rw[List.mem_reverse,hx,hy];constructor;·intro hz;obtain⟨q,hq,e⟩:=List.mem_iff_getElem.1 hz;rw[List.length_take]at hq;rw[List.getElem_take]at e;have h1:=we q aa aa;have h2:=mA.1 (List.mem_of_mem_take hz);exact⟨aa,h2.2⟩
  ·rintro⟨h1,h2,h3⟩;have hm:z∈places d x y (d.length-1):=mA.2 ⟨aa,h2,h3⟩;obtain⟨q,hq,e⟩:=List.mem_iff_getElem.1 hm;rcases Nat.lt_or_ge q h with g | g;·refine List.mem_iff_getElem.2 ⟨q,qa,?_⟩;rw[List.getElem_take];exact e
   ·have:=Ei q hq g;omega
 ·rw[List.pairwise_reverse];exact((t8 d x y (d.length-1)).sublist (List.take_sublist _ _)).imp fun h=>h
end
end
section
open Go.ChangeMaps Go.MapKept Go.ChangeShapes Go.RowKit
open Go.WideElems (Fit rd rg pl rd_val elemAt)
open Go.Maps (Keyed)
open Go.WideMaps (KeyLaw)
section
variable{H:Type}{P:Program}{w w':World}{t k E e:TypeId}{R:Value→Option (DataW H×List MemPlace)}{b:Nat}{es es':Array MapEntry}{clock BO:Nat}
theorem tw{l:List MapEntry}(hn:(l.map (·.key)).Nodup){i j:Nat}{x y:MapEntry}(hx:l[i]? =some x)(hy:l[j]? =some y)(e:x.key=y.key):i=j:=by have hi:=(List.getElem?_eq_some_iff.1 hx).1;refine(List.getElem?_inj (l:=l.map (·.key)) jp hn).1 ?_;simp[hx,hy,e]
theorem Ly{l:List MapEntry}(hn:(l.map (·.key)).Nodup){x y:MapEntry}(hx:x∈l)(hy:y∈l)(e:x.key=y.key):x=y:=by obtain⟨i,hi⟩:=List.getElem?_of_mem hx;obtain⟨j,hj⟩:=List.getElem?_of_mem hy;have:=tw hn hi hj e;subst this;rw[hi]at hj;exact Option.some.inj hj
theorem lL(hb:w.heap[b]? =some (.map es clock)){a a':Array MapEntry}{c c':Nat}(h:(Result.ok () (setBlock w b (.map a c)):Result Unit)= .ok () (setBlock w b (.map a' c'))):a=a'∧c=c':=by
 have h1:setBlock w b (.map a c)=setBlock w b (.map a' c'):=by injection h
 have h2:=heap_setBlock_same hb (.map a c);rw[h1,heap_setBlock_same hb]at h2;simp at h2;exact⟨h2.1.symm,h2.2.symm⟩
theorem BP(K:KeyLaw P k)(ht:P.underlying t=some (.map k e))(F:Fit P k R es clock)(hb:w.heap[b]? =some (.map es clock))(zY:w'.heap[b]? =some (.map es clock)){key val:Value}{kl:Lit}(kA:keyOf P k key=some kl)
  (h:(Instr.mapUpdate t (.map (some b)) key val).run P w= .ok () (setBlock w b (.map es' BO))):(Instr.mapUpdate t (.map (some b)) key val).run P w'= .ok () (setBlock w' b (.map es' BO)):=by
 obtain⟨_,_,s3⟩:=F.stamped;rcases K.find w kA es.toList F.keys with⟨h1,h2⟩ | ⟨j,e0,h1,h2,h3⟩
 ·have e1:(Instr.mapUpdate t (.map (some b)) key val).run P w= .ok () (setBlock w b (.map (es.push ⟨key,val,clock⟩) (clock+1))):=by simp[Instr.mapUpdate,run_underlying ht,MapKept.run_getObj_map hb,K.check w false kA,h1,MapKept.run_setObj_map _ hb,Result.andThen,setBlock]
  obtain⟨rfl,rfl⟩:=lL hb (h.symm.trans e1);rcases K.find w' kA es.toList F.keys with⟨g1,g2⟩ | ⟨j',Zq,g1,g2,g3⟩
  ·simp[Instr.mapUpdate,run_underlying ht,MapKept.run_getObj_map zY,K.check w' false kA,g1,MapKept.run_setObj_map _ zY,Result.andThen,setBlock]
  ·exact absurd g3 (h2 _ (List.mem_of_getElem? g2))
 ·have hj:es[j]? =some e0:=by simpa using h2
  have e1:(Instr.mapUpdate t (.map (some b)) key val).run P w= .ok () (setBlock w b (.map (es.modify j (fun e'=>{e' with key:=key,val:=val})) clock)):=by simp[Instr.mapUpdate,run_underlying ht,MapKept.run_getObj_map hb,K.check w false kA,h1,hj,h3,K.stays w kA,MapKept.run_setObj_map _ hb,Result.andThen,setBlock]
  obtain⟨rfl,rfl⟩:=lL hb (h.symm.trans e1);rcases K.find w' kA es.toList F.keys with⟨g1,g2⟩ | ⟨j',Zq,g1,g2,g3⟩
  ·exact absurd h3 (g2 _ (List.mem_of_getElem? h2))
  ·have:=tw s3 h2 g2 (h3.trans g3.symm);subst this;rw[h2]at g2;obtain rfl:=Option.some.inj g2;simp[Instr.mapUpdate,run_underlying ht,MapKept.run_getObj_map zY,K.check w' false kA,g1,hj,h3,K.stays w' kA,MapKept.run_setObj_map _ zY,Result.andThen,setBlock]
theorem Ha(K:KeyLaw P k)(ht:P.underlying t=some (.map k e)){z:Value}(hz: ∀u:World,(zeroValue e).run P u= .ok z u)(F:Fit P k R es clock)(hb:w.heap[b]? =some (.map es clock))(zY:w'.heap[b]? =some (.map es clock)){key v:Value}{kl:Lit}(kA:keyOf P k key=some kl)
  (h:(Instr.lookup t (.map (some b)) key false).run P w= .ok v w):(Instr.lookup t (.map (some b)) key false).run P w'= .ok v w':=by
 obtain⟨_,_,s3⟩:=F.stamped;rcases K.find w kA es.toList F.keys with⟨h1,h2⟩ | ⟨j,e0,h1,h2,h3⟩
 ·have e1:(Instr.lookup t (.map (some b)) key false).run P w= .ok z w:=by simp[Instr.lookup,run_underlying ht,MapKept.run_getObj_map hb,K.check w _ kA,h1,hz,Result.andThen]
  rw[e1]at h;obtain rfl:z=v:=by injection h
  rcases K.find w' kA es.toList F.keys with⟨g1,g2⟩ | ⟨j',Zq,g1,g2,g3⟩
  ·simp[Instr.lookup,run_underlying ht,MapKept.run_getObj_map zY,K.check w' _ kA,g1,hz,Result.andThen]
  ·exact absurd g3 (h2 _ (List.mem_of_getElem? g2))
 ·have e1:(Instr.lookup t (.map (some b)) key false).run P w= .ok e0.val w:=by simp[Instr.lookup,run_underlying ht,MapKept.run_getObj_map hb,K.check w _ kA,h1,Result.andThen]
  rw[e1]at h;obtain rfl:e0.val=v:=by injection h
  rcases K.find w' kA es.toList F.keys with⟨g1,g2⟩ | ⟨j',Zq,g1,g2,g3⟩
  ·exact absurd h3 (g2 _ (List.mem_of_getElem? h2))
  ·have:=tw s3 h2 g2 (h3.trans g3.symm);subst this;rw[h2]at g2;obtain rfl:=Option.some.inj g2;simp[Instr.lookup,run_underlying ht,MapKept.run_getObj_map zY,K.check w' _ kA,g1,Result.andThen]
theorem xm(w:World)(b:Nat)(o o':Obj):setBlock (setBlock w b o) b o'=setBlock w b o':=by simp[setBlock]
variable{base n:Nat}{q:IntKind}{D:DataW H}
theorem BQ(h:w.ownsGroups (H:=H) P k base e q b n D)(K:KeyLaw P k)(ht:P.underlying t=some (.map k E))(hz: ∀u:World,(zeroValue E).run P u= .ok (.slice none 0 0) u)(hn:n<maxLen){key:Value}{kl:Lit}(kA:keyOf P k key=some kl):
  ∃(v:Value) (zs:List Int) (st:Nat) (w1:World),(Instr.mapEntry t (.map (some b)) key).run P w= .ok (.tuple #[v,goInt st]) w1∧w.grownBy w1 (some b)∧D.atKey kl .nil=rowDatum q v zs∧w1.ownsInts base e q v zs∧zs.length≤n∧
   ∀(w2:World) (v':Value) (zs':List Int),w1.grownBy w2 v.ownBlock→w2.ownsInts base e q v' zs'→zs'.length≤n+1→(v'.ownBlock=v.ownBlock∨ ∃g,v'.ownBlock=some g∧w.heap.size≤g)→
    ∃w3,(Instr.entryStore t (.map (some b)) (goInt st) v').run P w2= .ok () w3∧w3.ownsGroups (H:=H) P k base e q b (n+1) (D.put kl (rowDatum q v' zs'))∧w2.grownBy w3 (some b):=by
 obtain⟨es,clock,hb,F,hs,rfl,fg,hlen,hap⟩:=h;have Dz:b<w.heap.size:=(cr hb)
 obtain⟨_,_,s3⟩:=F.stamped;obtain⟨v0,st,es1,xo,OP,uJ,ZL⟩:=WideElems.entry_then_store K ht hz hb F kA;have iY:w.grownBy (setBlock w b (.map es1 xo)) (some b):=⟨rfl,rfl,rfl,by simp[setBlock],fun i _ hi=>heap_setBlock_other hb _ (fun e1=>hi (by rw[e1]))⟩
 have adJ: ∃zs,(DataW.map ((es.toList.map (rg P k (rowElem (H:=H) w base e q))).foldr DataW.insert [])).atKey kl .nil=rowDatum q v0 zs∧w.ownsInts base e q v0 zs∧zs.length≤n∧
   (∀x∈es.toList,x.key≠key→x.val.ownBlock=none∨x.val.ownBlock≠v0.ownBlock)∧v0.ownBlock≠some b:=by
  rcases Maps.fit_look false (Keyed.of_law K) ht (hz w) hb F kA with⟨_,pM,bx⟩ | ⟨e0,y,Em,h3,_,hR,bx,_⟩
  ·rcases uJ with⟨e0,he0,XE,_⟩ | ⟨_,rfl⟩
   ·exact absurd XE (pM e0 he0)
   ·exact⟨[],bx _,World.ownsInts_nil _ _ _ _,Nat.zero_le _,fun x _ _=>by cases x.val.ownBlock<;>simp[Value.ownBlock],vL⟩
  ·rcases uJ with⟨e1,he1,gh,rfl⟩ | ⟨pM,_⟩
   ·obtain rfl:=Ly s3 Em he1 (h3.trans gh.symm);obtain⟨zs,ho,rfl⟩:=rowElem_inv hR;exact⟨zs,bx _,ho,hlen e0 Em zs ho,fun x hx dr=>hap x hx e0 Em (by rw[h3];exact dr),fun e1=>by have:=(ho.1.lt b e1).1;omega⟩
   ·exact absurd h3 (pM e0 Em)
 obtain⟨zs,bx,ZM,Uv,ZN,hvb⟩:=adJ;have J0:=groups_back (Keyed.of_law K) ht hb F hs hn fg hlen hap kA ZN hvb;have ajU:v0.ownBlock=none∨v0.ownBlock≠some b:= .inr hvb;refine⟨v0,zs,st,_,OP,iY,bx,ZM.kept iY ajU,Uv,fun w2 v' zs' hg aD hl tn=> ?_⟩;have aC:(setBlock w b (.map es1 xo)).heap[b]? =some (.map es1 xo):=heap_setBlock_same hb _;have tx:(setBlock w b (.map es1 xo)).heap.size=w.heap.size:=by simp[setBlock]
 have aE:w2.heap[b]? =some (.map es1 xo):=(hg.block b (by rw[tx];exact Dz) (fun e1=>hvb e1.symm)).trans aC;obtain⟨es',BO,bJ,hup⟩:=ZL w2 v' aE;have hbR:(setBlock w2 b (.map es clock)).heap[b]? =some (.map es clock):=heap_setBlock_same aE _;have oY:w.grownBy (setBlock w2 b (.map es clock)) v0.ownBlock:=by
  refine⟨hg.os,hg.tape,hg.output,?_,fun i hi dr=> ?_⟩;·have:=hg.size;rw[tx]at this;simpa [setBlock]using this
  ·by_cases hib:i=b;·subst hib;rw[hbR,hb]
   ·rw[heap_setBlock_other aE _ hib,hg.block i (by rw[tx];exact hi) dr,heap_setBlock_other hb _ hib]
 have ajW:w2.grownBy (setBlock w2 b (.map es clock)) (some b):=⟨rfl,rfl,rfl,by simp[setBlock],fun i _ hi=>heap_setBlock_other aE _ (fun e1=>hi (by rw[e1]))⟩
 have ajX:v'.ownBlock=none∨v'.ownBlock≠some b:=by
  cases hv':v'.ownBlock with
  | none=>exact .inl rfl
  | some g=>
   refine .inr fun e1=> ?_;have:=(aD.1.lt g hv').1;cases e1;omega
 obtain⟨wu,hu1,hu2,_⟩:=J0 _ v' zs' oY (aD.kept ajW ajX) hl tn;have hu3:=BP K ht F hb hbR kA hup;rw[hu1,xm]at hu3;have hu4:wu=setBlock w2 b (.map es' BO):=by injection hu3
 subst hu4;exact⟨_,bJ,hu2,⟨rfl,rfl,rfl,by simp[setBlock],fun i _ hi=>heap_setBlock_other aE _ (fun e1=>hi (by rw[e1]))⟩⟩
end
end
section
open Go.RowKit Go.Maps Go.ChangeShapes
def oZ(L:List Nat):DataW Unit:=if L=[]then .nil else .slice (lits .i32 (L.map Int.ofNat)) []
def cI(w:World)(b:Nat)(d:List UInt8)(n:Nat):Prop:=
 ∃D:DataW Unit,w.ownsGroups prog 189 (b+1) 21 .i32 b n D∧ ∀x y:UInt8,D.atKey (Ls x y) .nil=oZ (places d x y n)
theorem Qm{q:IntKind}{a b:List Int}(h:lits (H:=Unit) q a=lits q b):a=b:=by unfold lits at h;refine(List.map_inj_right (fun x y e=> ?_)).1 h;simpa using e
theorem pT{w:World}{base:Nat}{e:TypeId}{v:Value}{zs:List Int}{L:List Nat}(h:w.ownsInts base e .i32 v zs)(he:oZ L=rowDatum .i32 v zs):zs=L.map Int.ofNat:=by
 unfold oZ at he;split at he
 ·rename_i hL;subst hL;by_cases hz:zs=[];·rw[hz];rfl
  ·rw[h.datum_pos hz]at he;cases he
 ·rcases h.datum (H:=Unit)with⟨h1,_⟩ | h1;·rw[h1]at he;cases he
  ·rw[h1]at he;injection he with he;exact(Qm he).symm
theorem tz{w:World}{base:Nat}{e:TypeId}{v:Value}{L:List Nat}(h:w.ownsInts base e .i32 v (L.map Int.ofNat))(hL:L≠[]):rowDatum .i32 v (L.map Int.ofNat)=oZ L:=by unfold oZ;rw[if_neg hL,h.datum_pos (by simpa using hL)]
theorem cI.made(w:World)(d:List UInt8):cI (w.alloc (.map #[] 0)) w.heap.size d 0:=
 ⟨_,World.ownsGroups_made w prog _ _ _,fun x y=>by simp only[oZ,places,List.range_zero,List.filter_nil,if_true];rfl⟩
theorem BR{w:World}{P:Program}{k:TypeId}{base:Nat}{e:TypeId}{q:IntKind}{b n:Nat}{D:DataW Unit}(h:w.ownsGroups P k base e q b n D): ∃l,D= .map l:=by obtain⟨_,_,_,_,_,rfl,_⟩:=h;exact⟨_,rfl⟩
theorem ub{w w':World}{P:Program}{k:TypeId}{base:Nat}{e:TypeId}{q:IntKind}{b n:Nat}{D:DataW Unit}{row:Option Nat}(h:w.ownsGroups P k base e q b n D)(hg:w.grownBy w' row)(aY: ∀j,row=some j→j<b):w'.ownsGroups P k base e q b n D:=by
 obtain⟨es,clock,hb,F,hs,rfl,fg,hlen,hap⟩:=h;have hk: ∀{v:Value} {zs:List Int},w.ownsInts base e q v zs→w'.ownsInts base e q v zs:=fun{v zs} ho=>ho.kept hg (by
  cases hv:v.ownBlock with
  | none=>exact .inl rfl
  | some g=>
   refine .inr fun e1=> ?_;have h1:=(ho.1.lt g hv).1;have h2:=aY g e1.symm;omega)
 have kG: ∀x∈es.toList,∀z,rowElem (H:=Unit) w base e q x.val=some z→rowElem w' base e q x.val=some z:=by intro x _ z hz;obtain⟨ys,ho,rfl⟩:=rowElem_inv hz;exact rowElem_mk (hk ho)
 obtain⟨F2,adK,_⟩:=F.stay kG;refine⟨es,clock,(hg.block b (cr hb) (fun e1=>ar (aY b e1.symm))).trans hb,F2,hs,by rw[adK],fg,fun x hx ys ho=> ?_,hap⟩;obtain⟨y,hy⟩:=F.reads x hx;obtain⟨z,hz,_⟩:=WideElems.rd_val hy;obtain⟨ys',AT,_⟩:=rowElem_inv hz;rw[ho.unique (hk AT)];exact hlen x hx ys' AT
theorem cI.below{w w':World}{b n:Nat}{d:List UInt8}(h:cI w b d n)(hb:Below w.heap.size w w'):cI w' b d n:=by obtain⟨D,h1,h2⟩:=h;exact⟨D,ub (row:=none) h1 ⟨hb.os,hb.tape,hb.output,hb.size,fun k hk _=>hb.block k hk⟩ (fun j e=>jX),h2⟩
theorem cI.set{w:World}{b n:Nat}{d:List UInt8}(h:cI w b d n)(a:Addr)(v:Value)(ha:a.block<b):cI (w.setCell a v) b d n:=by obtain⟨D,h1,h2⟩:=h;refine⟨D,ub (row:=some a.block) h1 ⟨rfl,rfl,rfl,by simp[World.setCell],fun k _ hk=>ag _ _ _ _ (fun e=>hk (by rw[e]))⟩ (fun j e=>sX),h2⟩
theorem qk(d:List UInt8)(x y:UInt8)(n:Nat):(places d x y n).length≤n:=by unfold places;have:=List.length_filter_le (fun i=>d.getD i 0==x&&d.getD (i+1) 0==y) (List.range n);simpa using this
theorem cI.lt{w:World}{b n:Nat}{d:List UInt8}(h:cI w b d n):b<w.heap.size:=by obtain⟨D,⟨es,clock,hb,_⟩,_⟩:=h;exact(cr hb)
theorem cI.entry{w:World}{b n:Nat}{d:List UInt8}(h:cI w b d n)(hn:n≤100000):
  ∃(v:Value) (st:Nat) (w1:World),(Instr.mapEntry 110 (.map (some b)) (mZ (d.getD n 0) (d.getD (n+1) 0))).run prog w= .ok (.tuple #[v,goInt st]) w1∧w.grownBy w1 (some b)∧
   aP 21 (b+1) w1 v ((places d (d.getD n 0) (d.getD (n+1) 0) n).map fun i=> .int .i32 (i:Nat))∧
   ∀(w2:World) (v':Value),w1.grownBy w2 v.ownBlock→aP 21 (b+1) w2 v' ((places d (d.getD n 0) (d.getD (n+1) 0) n).map (fun i=> .int .i32 (i:Nat))++[.int .i32 (n:Nat)])→(v'.ownBlock=v.ownBlock∨ ∃g,v'.ownBlock=some g∧w.heap.size≤g)→
    ∃w3,(Instr.entryStore 110 (.map (some b)) (goInt st) v').run prog w2= .ok () w3∧cI w3 b d (n+1)∧w2.grownBy w3 (some b):=by
 obtain⟨D,h1,h2⟩:=h;have⟨x,hx⟩:=ex (d.getD n 0);have⟨y,hy⟩:=ex (d.getD (n+1) 0);rw[hx,hy];have hz: ∀u:World,(zeroValue 111).run prog u= .ok (.slice none 0 0) u:=fun u=>by first | rfl | simp[zeroValue]
 obtain⟨v,zs,st,w1,hr,hg,bx,ho,Uv,bJ⟩:=BQ h1 U0.law underlying110 hz gD (jU x y);have hzs:=pT ho ((h2 x y).symm.trans bx);subst hzs;have hlen:(places d x y n).length≤n:=by simpa using Uv
 have hP:places d x y (n+1)=places d x y n++[n]:=by rw[t7,if_pos ⟨hx,hy⟩]
 refine⟨v,st,w1,hr,hg,?_,fun w2 v' iV j6 tn=> ?_⟩;·have:=ho.1;unfold aP;simpa [List.map_map,Function.comp_def]using this
 ·have aD:w2.ownsInts (b+1) 21 .i32 v' ((places d x y (n+1)).map Int.ofNat):=by
   refine⟨?_,fun z hz=> ?_⟩;·unfold aP at j6;rw[hP];simpa [List.map_map,Function.comp_def]using j6
   ·obtain⟨i,hi,rfl⟩:=List.mem_map.1 hz;have:=(mA.1 hi).1;exact ZH ae av
  obtain⟨w3,hs,hG,l5⟩:=bJ w2 v' _ iV aD (by rw[hP];simp;exact hlen) tn;refine⟨w3,hs,⟨_,hG,fun x' y'=> ?_⟩,l5⟩;have hk:=G3.key (jU x y);by_cases hxy:x'=x∧y'=y;·obtain⟨rfl,rfl⟩:=hxy;rw[atKey_put_same (BR h1) hk];exact tz aD (by rw[hP];simp)
  ·have dr:Ls x' y'≠Ls x y:=fun e=>hxy (Qc e);rw[atKey_put_other dr,h2 x' y',t7,if_neg (by rw[hx,hy];exact fun e=>hxy ⟨e.1.symm,e.2.symm⟩),List.append_nil]
theorem cI.Qn{w w':World}{b n:Nat}{d:List UInt8}(h:cI w b d n)(hb:w'.heap[b]? =w.heap[b]?){x y:UInt8}{v:Value}(hr:(Instr.lookup 110 (.map (some b)) (mZ x y) false).run prog w= .ok v w):(Instr.lookup 110 (.map (some b)) (mZ x y) false).run prog w'= .ok v w':=by
 obtain⟨D,⟨es,clock,eH,F,_⟩,_⟩:=h;have hz: ∀u:World,(zeroValue 111).run prog u= .ok (.slice none 0 0) u:=fun u=>by first | rfl | simp[zeroValue]
 exact Ha U0.law underlying110 hz F eH (hb.trans eH) (jU x y) hr
theorem cI.look{w:World}{b n:Nat}{d:List UInt8}(h:cI w b d n)(hn:n≤100000)(x y:UInt8):
  ∃(A:Option Addr) (c:Nat),(Instr.lookup 110 (.map (some b)) (mZ x y) false).run prog w= .ok (.slice A (places d x y n).length c) w∧nT w A (places d x y n)∧(places d x y n).length≤c∧c≤9223372036854775807:=by
 obtain⟨D,h1,h2⟩:=h;have hz:(zeroValue 111).run prog w= .ok (.slice none 0 0) w:=by first | rfl | simp[zeroValue]
 obtain⟨v,zs,hr,bx,ho,_,_⟩:=h1.at G3 underlying110 hz gD (jU x y);have hzs:=pT ho ((h2 x y).symm.trans bx);subst hzs;have hv:aP 21 (b+1) w v ((places d x y n).map fun i=> .int .i32 (i:Nat)):=by have:=ho.1;unfold aP;simpa [List.map_map,Function.comp_def]using this
 obtain⟨A,c,rfl,hc,hm,hcell⟩:=hv.read;rw[List.length_map]at hr hc;refine⟨A,c,hr,fun i hi=> ?_,hc,hm⟩;obtain⟨g,hA,hg⟩:=hcell i (by rw[List.length_map];exact hi);exact⟨g,hA,by rw[hg];simp⟩
end
section
open Go.RowKit Go.Maps
theorem ZO:Elem 111 21 (.int .i32 0) 4:=⟨underlying111,ak,rfl⟩
theorem xp(A:Option Addr)(l:List UInt8)(c n:Nat)(w:World)(hB:Bytes w A l)(hc:l.length≤c)(hl:l.length≤100000)(hn:n=l.length-1):
  Calls prog 72 #[.slice A l.length c] w fun e w'=>e= .returned (.map (some w.heap.size))∧cI w' w.heap.size l n∧Below w.heap.size w w':=by
 have tY:(l.length:Int)≤(c:Int):=aa;have sQ:(l.length:Int)≤100000:=aa;have sO:(n:Int)≤100000:=aa;have iG:=hdd hB;have HN:=hdd hn;have KV: ∀w:World,(Instr.makeMap 110 none).run prog w= .ok (.map (some w.heap.size)) (w.alloc (.map #[] 0)):=fun w=>run_makeMap _ w;clear hB hn hl hc;go_enter func72,ntmps72;go_wp2_with fail;have HMP:Hid (cI (w.alloc (.map #[] 0)) w.heap.size l 0):=hdd (cI.made w l);have cu:Hid (Below w.heap.size w (w.alloc (.map #[] 0))):=hdd (ap);clear KV;go_loopw [10] (fun i wr=> ∃k:Nat,k≤n∧i= .int .i64 (k:Nat)∧Hid (cI wr w.heap.size l k)∧Hid (Below w.heap.size w wr)) (fun i _=>n-(intOf i).toNat);case atStart=>exact⟨0,aa,rfl,HMP,cu⟩
 case round=>
  obtain⟨k,hk,rfl,HL,HB⟩:=hrel;by_cases hkl:k<n
  ·have BI:(k:Int)<(l.length:Int)-1:=ar HN.out;obtain⟨b,off,rfl,fF,bx⟩:=(iG.out.below HB.out).addr aa;have vl:=bx k aa;have ly:=bx (k+1) aa;have e0:=cY (d:=l) (i:=k) aa;have e1:=cY (d:=l) (i:=k+1) aa;generalize l[k]'aa=z0 at*;generalize l[k+1]'aa=z1 at*;obtain⟨y1,XF⟩: ∃y:Nat,k+1=y:=⟨_,rfl⟩
   rw[XF]at ly;have k1:(k:Int)+1=(y1:Int):=aa;have l1:(y1:Int)<(l.length:Int):=aa;have l0:(k:Int)<(l.length:Int):=aa;have HC:=hdd (fun(wx:World) (h:wx.heap[b]? =wr.heap[b]?)=>(show wx.cell? ⟨b,off+k,none⟩=some (.int .u8 (z0.toNat:Nat))∧wx.cell? ⟨b,off+y1,none⟩=some (.int .u8 (z1.toNat:Nat))from by
    refine⟨?_,?_⟩;·rw[←vl];unfold World.cell?;rw[h]
    ·rw[←ly];unfold World.cell?;rw[h]))
   have v1:IntKind.i64.wrap (y1:Int)=(y1:Int):=IntWalk.i64_in _ aa;have HE:=hdd (And.intro e0 e1);clear bx e0 e1 XF vl ly;go_wp2_with fail;refine wp_region_held_drew (S:=fun w2=>w2.heap[b]? =wr.drew.heap[b]?) ak rfl (fun hS=> ?_);refine bq 0 HC.out hS (h:=bq 1 HC.out hS (h:=bq 2 HC.out hS (h:=bq 3 HC.out hS (h:=bq 4 HC.out hS (h:=bq 5 HC.out hS (h:=bq 6 HC.out hS (h:=bq 7 HC.out hS (h:=bq 8 HC.out hS (h:=bq 9 HC.out hS (h:= ?_))))))))));refine aG 10 (fun K hK=> ?_);go_simp;refine hK.out _ _ (Below.heap_alloc _ _ _ fF) (fun _=> ?_);clear hK K;refine aG 11 (fun K hK=> ?_);go_simp;refine hK.out _ _ (Below.heap_alloc _ _ _ fF) (fun _=> ?_);clear hK K;refine wpAnyH_done ak ?_ _;have⟨W2,jT⟩:=ex ((wr.alloc (.cells #[.int .u8 (z0.toNat:Nat),.int .u8 (z1.toNat:Nat)] 189)).drew);rw[jT];have aE:Below wr.heap.size wr W2:=(by rw[←jT];have h:=(Below.refl wr.heap.size wr).alloc (Nat.le_refl _) (.cells #[.int .u8 (z0.toNat:Nat),.int .u8 (z1.toNat:Nat)] 189);exact⟨h.os,h.tape,h.output,h.size,h.block⟩);have zG:W2.heap[wr.heap.size]? =some (.cells #[.int .u8 (z0.toNat:Nat),.int .u8 (z1.toNat:Nat)] 189 (0,0)):=(by rw[←jT];exact heap_alloc_last _ _);have x0:W2.cell? ⟨wr.heap.size,0,none⟩=some (.int .u8 (z0.toNat:Nat)):=(by rw[cell_of_row W2 _ _ _ _ _ zG];rfl);have x1:W2.cell? ⟨wr.heap.size,1,none⟩=some (.int .u8 (z1.toNat:Nat)):=(by rw[cell_of_row W2 _ _ _ _ _ zG];rfl);have⟨W3,jD⟩:=ex (W2.alloc (.cells #[.int .i32 (k:Nat)] 21));have aW:Below wr.heap.size wr W3:=(by rw[←jD];exact aE.alloc aE.size _);have U8:W3.heap.size=W2.heap.size+1:=(by rw[←jD];simp);have ZP:W3.heap[W2.heap.size]? =some (.cells #[.int .i32 (k:Nat)] 21 (0,0)):=(by rw[←jD];exact heap_alloc_last _ _);have kt:=HB.out.size;have rR:=HL.out.below aW;have aF:=rR.lt;obtain⟨v,st,w1,Oa,iY,cE,bJ⟩:=rR.entry aa;rw[HE.out.1,HE.out.2,←jD]at Oa;simp only[mZ,goInt]at Oa;have hlen:=qk l (l.getD k 0) (l.getD (k+1) 0) k;rw[HE.out.1,HE.out.2]at cE bJ hlen;have xr:((places l z0 z1 k).map (fun i=>Value.int .i32 (i:Nat))).length≤100000:=(by rw[List.length_map];omega);have⟨PL,Tz⟩:=ex ((places l z0 z1 k).map (fun i=>Value.int .i32 (i:Nat)));rw[Tz]at cE bJ xr;have pq:=aE.size;have adL:w1.heap[W2.heap.size]? =some (.cells #[.int .i32 (k:Nat)] 21 (0,0)):=(iY.block _ aa (by
    have N1:w.heap.size<wr.heap.size:=HL.out.lt;intro e;injection e with e;omega)).trans ZP
   have rE: ∀i (h:i<[Value.int .i32 (k:Nat)].length),w1.cell? ⟨W2.heap.size,i,none⟩=some [Value.int .i32 (k:Nat)][i]:=(by intro i hi;obtain rfl:i=0:=jp;rw[cell_of_row _ _ _ _ _ _ adL];rfl);have iE:=hdd bJ;have dV:Hid (Below w.heap.size w w1):=hdd (am (HB.out.trans (aW.mono kt)) iY (Nat.le_trans kt aW.size) (fun g e=>sX));have y9:=hdd cE;have Bw:=hdd rE;have aj0:Hid (w.heap.size+1≤w1.heap.size):=hdd (Nat.le_trans aa iY.size);have ee:=hdd xr;have aj1:=hdd iY.size;clear jT aE hS zG jD aW U8 ZP rR iY cE bJ hlen xr Tz pq adL rE aF kt;have adM:IntKind.i32.wrap (k:Int)=(k:Int):=by have e1:IntKind.i32.min= -2147483648:=rfl;have e2:IntKind.i32.max=2147483647:=rfl;first | exact IntWalk.i32_in _ aa | (unfold IntKind.wrap;simp;omega)
   go_wp2_with (at_builtin;refine a8 ZO rfl (.tmp 25) (.tmp 28) rfl (w.heap.size+1) w1 v PL rfl y9.out W2.heap.size 1 1 [.int .i32 (k:Nat)] rfl rfl Bw.out sV (ar ee.out) (ar ee.out) aj0.out ?_;intro v' w2 bM iV tn;obtain⟨w3,hes,Ob,l5⟩:=iE.out w2 v' iV bM (tn.imp id fun e=>⟨_,e,aj1.out⟩);simp only[goInt]at hes;have TA:=hdd Ob;have fc:Hid (Below w.heap.size w w3):=hdd (am (am dV.out iV dV.out.size (fun g e=>by have:=(y9.out.lt g e).1;omega)) l5 (Nat.le_trans dV.out.size iV.size) (fun g e=>sX));clear bM iV tn Ob l5)
   exact⟨⟨k+1,aa,by rw[←k1];rfl,TA,fc⟩,gt⟩
  ·obtain rfl:k=n:=(by omega);have BI: ¬(k:Int)<(l.length:Int)-1:=ar HN.out;have asG:decide ((k:Int)<(l.length:Int)-1)=false:=decide_eq_false BI;clear HMP cu;go_wp2_with fail;go_ret;exact⟨rfl,HL.out,HB.out⟩
end
section
open Go.RowKit Go.Maps
def En(L:List Nat)(place:Nat)(w:World)(e:Ending)(w':World):Prop:= ∃(b1 b2:Nat) (A:Option Addr) (c h:Nat),e= .returned (.func (.func 221) #[] #[PF b1,PF b2])∧aQ b1 w' (.int .i64 (h:Nat))∧aQ b2 w' (.slice A L.length c)∧
 nT w' A L∧L.length≤c∧h≤L.length∧(∀q (_:q<L.length),q<h→L[q]<place)∧(∀q (_:q<L.length),h≤q→place≤L[q])∧Below w.heap.size w w'
theorem nU(Fp:Nat)(A:Option Addr)(c:Nat)(d:List UInt8)(dict nice:Int)(mp:Nat)(v4:Value)(place:Nat)(w:World)(hF:cZ w Fp A c d dict nice mp v4)(hP:cI w mp d (d.length-1))(hp:place+1<d.length):
  Calls prog 201 #[PF Fp,.int .i64 (place:Nat)] w (En (places d (d.getD place 0) (d.getD (place+1) 0) (d.length-1)) place w):=by
 have sQ:(d.length:Int)≤100000:=ar hF.small;have N7:d.length≤100000:=hF.small;have tY:(d.length:Int)≤(c:Int):=ar hF.cap;obtain⟨y1,XF⟩: ∃y:Nat,place+1=y:=⟨_,rfl⟩
 have k1:(place:Int)+1=(y1:Int):=aa;have l1:(y1:Int)<(d.length:Int):=aa;have l0:(place:Int)<(d.length:Int):=aa;obtain⟨b,off,rfl,fF,_⟩:=hF.bytes.addr aa;have ZQ:Hid (∀w2:World,Below w.heap.size w w2→w2.cell? ⟨b,off+place,none⟩=some (.int .u8 ((d.getD place 0).toNat:Nat))∧w2.cell? ⟨b,off+y1,none⟩=some (.int .u8 ((d.getD y1 0).toNat:Nat))):=hdd (fun w2 hb=>by
  obtain⟨b',abX,e,_,bx⟩:=(hF.below hb).bytes.addr aa;injection e with e;injection e with e1 e2;subst e1;subst e2;have h0:=bx place aa;have h1:=bx y1 aa;rw[←cY (d:=d) (i:=place) aa]at h0;rw[←cY (d:=d) (i:=y1) aa]at h1;exact⟨h0,h1⟩)
 rw[XF];generalize d.getD place 0=z0 at*;generalize d.getD y1 0=z1 at*;obtain⟨PA,cp,Qo,Do,wl,uz⟩:=hP.look aa z0 z1;have zW:=t8 d z0 z1 (d.length-1);have hlen:=qk d z0 z1 (d.length-1);have GH:Hid (∀w2:World,Below w.heap.size w w2→(Instr.lookup 110 (.map (some mp)) (mZ z0 z1) false).run prog w2= .ok (.slice PA (places d z0 z1 (d.length-1)).length cp) w2):=hdd (fun w2 hb=>by
  have zY:w2.heap[mp]? =w.heap[mp]? :=hb.block _ hP.lt;exact hP.Qn zY Qo)
 have⟨L,hL⟩:=ex (places d z0 z1 (d.length-1));rw[hL]at Qo Do wl zW hlen GH ⊢;have HC:=hdd (fun(w2:World) (hb:Below w.heap.size w w2)=>(show w2.cell? ⟨Fp,0,none⟩=some (.slice (some ⟨b,off,none⟩) d.length c)∧w2.cell? ⟨Fp,3,none⟩=some (.map (some mp))∧w2.cell? ⟨b,off+place,none⟩=some (.int .u8 (z0.toNat:Nat))∧w2.cell? ⟨b,off+y1,none⟩=some (.int .u8 (z1.toNat:Nat))∧(Instr.lookup 110 (.map (some mp)) (.agg #[.int .u8 (z0.toNat:Nat),.int .u8 (z1.toNat:Nat)]) false).run prog w2= .ok (.slice PA L.length cp) w2 from by
  obtain⟨f0,_,_,f3,_⟩:=(hF.below hb).cells;exact⟨f0,f3,(ZQ.out w2 hb).1,(ZQ.out w2 hb).2,GH.out w2 hb⟩))
 have XG:=hdd Do;have Ek:=hdd zW;have HCP:=hdd wl;have adM:IntKind.i32.wrap (place:Int)=(place:Int):=by have e1:IntKind.i32.min= -2147483648:=rfl;have e2:IntKind.i32.max=2147483647:=rfl;first | exact IntWalk.i32_in _ aa | (unfold IntKind.wrap;simp;omega)
 have sN:L.length≤100000:=aa;have yJ:=hdd sN;have v1:IntKind.i64.wrap (y1:Int)=(y1:Int):=IntWalk.i64_in _ aa;clear hF hP Qo Do zW hlen wl hL fF XF ZQ GH sN hp uz;go_enter func201,ntmps201;go_wp2_with fail;refine wp_region_held_drew (S:=fun w2=>Below w.heap.size w w2) ak ⟨rfl,rfl,rfl,Nat.le_refl _,fun _ _=>rfl⟩ (fun hS=> ?_);refine bq 0 HC.out hS (h:=bq 1 HC.out hS (h:=bq 2 HC.out hS (h:=bq 3 HC.out hS (h:=bq 4 HC.out hS (h:=bq 5 HC.out hS (h:=bq 6 HC.out hS (h:=bq 7 HC.out hS (h:=bq 8 HC.out hS (h:=bq 9 HC.out hS (h:=bq 10 HC.out hS (h:=bq 11 HC.out hS (h:= ?_))))))))))));refine bq 12 HC.out hS (h:=bq 13 HC.out hS (h:=bq 14 HC.out hS (h:=bq 15 HC.out hS (h:=bq 16 HC.out hS (h:=bq 17 HC.out hS (h:=bq 18 HC.out hS (h:=bq 19 HC.out hS (h:=bq 20 HC.out hS (h:= ?_)))))))));refine aG 21 (fun K hK=> ?_);go_simp;refine hK.out _ _ (Below.alloc hS hS.size _) (fun _=> ?_);clear hK K;refine aG 22 (fun K hK=> ?_);go_simp;refine hK.out _ _ (Below.alloc hS hS.size _) (fun _=> ?_);clear hK K;refine wpAnyH_done ak ?_ _;have⟨W2,jT⟩:=ex ((w.alloc (.cells #[.slice PA L.length cp] 111)).drew);rw[jT];have aE:Below w.heap.size w W2:=by rw[←jT];have h:=(Below.refl w.heap.size w).alloc (Nat.le_refl _) (.cells #[.slice PA L.length cp] 111);exact⟨h.os,h.tape,h.output,h.size,h.block⟩
 have jo:aQ w.heap.size W2 (.slice PA L.length cp):=⟨_,vM⟩
 have c5:=jo.cell;have Lz:=hdd (G6 PA L cp place W2 (XG.out.below aE) yJ.out HCP.out Ek.out);have dY:=hdd aE;have HX2:=hdd jo;have U9:Hid (W2.heap.size=w.heap.size+1):=hdd (by rw[←jT];simp[World.drew]);clear jT aE jo hS;go_wp2_with fail;refine Lz.out.mono ?_;rintro e w3 ⟨⟨i,bb,rfl,hi,we,Ei⟩,rfl⟩;have HI:=hdd (And.intro hi (And.intro we Ei));have⟨W4,pz⟩:=ex (W2.alloc (.cells #[.int .i64 (i:Nat)] 3));have bc:Below W2.heap.size W2 W4:=by rw[←pz];exact ap
 have Zb:aQ W2.heap.size W4 (.int .i64 (i:Nat)):=by rw[←pz];exact aQ.made _ _ _
 have O7:=hdd pz;have H4:=hdd (And.intro bc Zb);clear hi we Ei pz bc Zb;go_wp2_with fail;rw[O7.out];go_ret;have adN:=aO dY.out H4.out.1;refine⟨_,_,PA,cp,i,rfl,H4.out.2,HX2.out.aI (H4.out.1.block _ (by rw[U9.out];omega)),XG.out.below adN,HCP.out,HI.out.1,HI.out.2.1,HI.out.2.2,adN⟩
end
theorem Va(d:Nat)(A:Option Addr)(n c:Nat)(w:World):(Op.equalIn (d+1) 22 (.slice A n c) (.slice none 0 0)).run prog w= .ok A.isNone w:=by cases A<;>simp[Op.equalIn,run_underlying underlying22]
theorem XH(A:Option Addr)(n c:Nat)(w:World):(binOp .eql 22 (.slice A n c) (.slice none 0 0)).run prog w= .ok (.bool A.isNone) w:=by have e:Op.maxDepth=9999+1:=rfl;simp only[binOp,Op.equal,e,Sem.run_bind,Sem.run_pure,Va,Result.andThen_ok]
def LA(l:List UInt8)(w:World)(e:Ending)(w':World):Prop:= ∃v,e= .returned v∧Own w.heap.size w' v l∧Below w.heap.size w w'
theorem LB(A:Option Addr)(l:List UInt8)(c:Nat)(w:World)(hB:Bytes w A l)(hc:l.length≤c)(hl:l.length≤100000):
  Calls prog 71 #[.slice A l.length c] w (LA l w):=by
 cases A with
 | none=>
  obtain rfl:l=[]:=by
   rcases Nat.eq_zero_or_pos l.length with h | h;·exact List.eq_nil_of_length_eq_zero h
   ·obtain⟨_,_,e,_⟩:=hB.addr h;cases e
  clear hB;have hq:=XH none 0 c w;simp only[Option.isNone]at hq;go_enter func71,ntmps71;go_wp2_with fail;go_ret;exact⟨_,rfl,Own.nil _ _,Below.refl _ _⟩
 | some a=>
  have hlen:([]:List UInt8).length+l.length≤140737488355328:=av;have ho:=Own.lit (base:=w.heap.size) w [] (Nat.le_refl _) ae;have eH:Below w.heap.size w (w.alloc (.cells (([]:List UInt8).map B8).toArray 5)):=ap;have Db:=eH.size;have HB:=hdd hB;clear hB;have hq:=XH (some a) l.length c w;simp only[Option.isNone]at hq;go_enter func71,ntmps71;go_wp2_with (at_builtin;refine aj rfl (.tmp 5) (.tmp 6) rfl w.heap.size _ _ [] rfl ho (some a) l c rfl (HB.out.below eH) hlen Db ?_;intro v1 w1 m6 iY;have aC:Below w.heap.size w w1:=am eH iY Db (fun g e=>(ho.aw g e).1))
  go_ret;exact⟨_,rfl,by simpa using m6,aC⟩
section
open Go.RowKit Go.Maps
theorem BS(A:Option Addr)(l:List UInt8)(c n:Nat)(w:World)(hB:Bytes w A l)(hc:l.length≤c)(hl:l.length≤100000)(hn:n=l.length-3):
  Calls prog 73 #[.slice A l.length c] w fun e w'=>e= .returned (.slice (some ⟨w.heap.size+1,0,none⟩) n n)∧w'.heap[w.heap.size+1]? =some (.cells (gH l n).toArray 21 (0,0))∧Below w.heap.size w w':=by
 have tY:(l.length:Int)≤(c:Int):=aa;have sQ:(l.length:Int)≤100000:=aa;have hmx:max ((l.length:Int)-3) 0=(n:Int):=aa;have hn6:n≤1000000:=aa;have sO:(n:Int)≤100000:=aa;have iG:=hdd hB;have HN:=hdd hn;have KV: ∀w:World,(Instr.makeMap 190 none).run prog w= .ok (.map (some w.heap.size)) (w.alloc (.map #[] 0)):=fun w=>run_makeMap _ w;clear hB hn hl hc;go_enter func73,ntmps73;go_wp2_with (at_make;refine uM rfl (.tmp 13) (.tmp 13) rfl n (w.alloc (.map #[] 0)) rfl rfl hn6 ?_;intro w1 aY hg)
 have aC:Below w.heap.size w w1:=am (ap) hg ae (fun g e=>jX);have tx:(w.alloc (.map #[] 0)).heap.size=w.heap.size+1:=ae;have HMP:Hid (fV w1 w.heap.size l 0):=hdd ((fV.made w l).aI (hg.block _ (by rw[tx];omega) ae));rw[tx]at aY;have ng:=hdd aY;have cu:=hdd aC;clear aY hg aC tx;go_loopw [17] (fun i wr=> ∃k:Nat,k≤n∧i= .int .i64 (k:Nat)∧Hid (wr.heap[w.heap.size+1]? =some (.cells (gH l k++List.replicate (n-k) (Value.int .i32 0)).toArray 21 (0,0)))∧Hid (fV wr w.heap.size l k)∧Hid (Below w.heap.size w wr)) (fun i _=>n-(intOf i).toNat);case atStart=>exact⟨0,aa,rfl,hdd (by rw[Nat.sub_zero];exact ng.out),HMP,cu⟩
 case round=>
  obtain⟨k,hk,rfl,HR,HL,HB⟩:=hrel;by_cases hkl:k<n
  ·have BI:(k:Int)<(n:Int):=(by omega);have qU:(k:Int)+3<(l.length:Int):=ar HN.out;obtain⟨b,off,rfl,fF,bx⟩:=(iG.out.below HB.out).addr aa;have vl:=bx k aa;have ly:=bx (k+1) aa;have jo:=bx (k+2) aa;have Da:=bx (k+3) aa;have e0:=cY (d:=l) (i:=k) aa;have e1:=cY (d:=l) (i:=k+1) aa;have e2:=cY (d:=l) (i:=k+2) aa;have e3:=cY (d:=l) (i:=k+3) aa;generalize l[k]'aa=z0 at*;generalize l[k+1]'aa=z1 at*;generalize l[k+2]'aa=z2 at*;generalize l[k+3]'aa=z3 at*;have HFO:Hid (four l k=(z0,z1,z2,z3)):=hdd (by unfold four;rw[e0,e1,e2,e3]);obtain⟨y1,XF⟩: ∃y:Nat,k+1=y:=⟨_,rfl⟩
   obtain⟨y2,TB⟩: ∃y:Nat,k+2=y:=⟨_,rfl⟩
   obtain⟨y3,hy3⟩: ∃y:Nat,k+3=y:=⟨_,rfl⟩
   rw[XF]at ly;rw[TB]at jo;rw[hy3]at Da;have k1:(k:Int)+1=(y1:Int):=aa;have k2:(k:Int)+2=(y2:Int):=aa;have k3:(k:Int)+3=(y3:Int):=aa;have l1:(y1:Int)<(l.length:Int):=aa;have l2:(y2:Int)<(l.length:Int):=aa;have l3:(y3:Int)<(l.length:Int):=aa;have l0:(k:Int)<(l.length:Int):=aa;have HC:=hdd (fun(wx:World) (h:wx.heap[b]? =wr.heap[b]?)=>(show wx.cell? ⟨b,off+k,none⟩=some (.int .u8 (z0.toNat:Nat))∧wx.cell? ⟨b,off+y1,none⟩=some (.int .u8 (z1.toNat:Nat))∧wx.cell? ⟨b,off+y2,none⟩=some (.int .u8 (z2.toNat:Nat))∧wx.cell? ⟨b,off+y3,none⟩=some (.int .u8 (z3.toNat:Nat))from by
    refine⟨?_,?_,?_,?_⟩;·rw[←vl];unfold World.cell?;rw[h]
    ·rw[←ly];unfold World.cell?;rw[h]
    ·rw[←jo];unfold World.cell?;rw[h]
    ·rw[←Da];unfold World.cell?;rw[h]))
   have v1:IntKind.i64.wrap (y1:Int)=(y1:Int):=IntWalk.i64_in _ aa;have v2:IntKind.i64.wrap (y2:Int)=(y2:Int):=IntWalk.i64_in _ aa;have v3:IntKind.i64.wrap (y3:Int)=(y3:Int):=IntWalk.i64_in _ aa;clear bx e0 e1 e2 e3 XF TB hy3 qU vl ly jo Da;go_wp2_with fail;refine wp_region_held_drew (S:=fun w2=>w2.heap[b]? =wr.drew.heap[b]?) ak rfl (fun hS=> ?_);refine bq 0 HC.out hS (h:=bq 1 HC.out hS (h:=bq 2 HC.out hS (h:=bq 3 HC.out hS (h:=bq 4 HC.out hS (h:=bq 5 HC.out hS (h:=bq 6 HC.out hS (h:=bq 7 HC.out hS (h:=bq 8 HC.out hS (h:=bq 9 HC.out hS (h:=bq 10 HC.out hS (h:=bq 11 HC.out hS (h:= ?_))))))))))));refine bq 12 HC.out hS (h:=bq 13 HC.out hS (h:=bq 14 HC.out hS (h:=bq 15 HC.out hS (h:=bq 16 HC.out hS (h:=bq 17 HC.out hS (h:=bq 18 HC.out hS (h:=bq 19 HC.out hS (h:= ?_))))))));refine aG 20 (fun K hK=> ?_);go_simp;refine hK.out _ _ (Below.heap_alloc _ _ _ fF) (fun _=> ?_);clear hK K;refine aG 21 (fun K hK=> ?_);go_simp;refine hK.out _ _ (Below.heap_alloc _ _ _ fF) (fun _=> ?_);clear hK K;refine wpAnyH_done ak ?_ _;have⟨W2,jT⟩:=ex ((wr.alloc (.cells #[.int .u8 (z0.toNat:Nat),.int .u8 (z1.toNat:Nat),.int .u8 (z2.toNat:Nat),.int .u8 (z3.toNat:Nat)] 191)).drew);rw[jT];have aE:Below wr.heap.size wr W2:=(by rw[←jT];have h:=(Below.refl wr.heap.size wr).alloc (Nat.le_refl _) (.cells #[.int .u8 (z0.toNat:Nat),.int .u8 (z1.toNat:Nat),.int .u8 (z2.toNat:Nat),.int .u8 (z3.toNat:Nat)] 191);exact⟨h.os,h.tape,h.output,h.size,h.block⟩);have zG:W2.heap[wr.heap.size]? =some (.cells #[.int .u8 (z0.toNat:Nat),.int .u8 (z1.toNat:Nat),.int .u8 (z2.toNat:Nat),.int .u8 (z3.toNat:Nat)] 191 (0,0)):=(by rw[←jT];exact heap_alloc_last _ _);have qc:w.heap.size+1<wr.heap.size:=(cr HR.out)
   have oP:=(aE.block _ qc).trans HR.out;have qT:fV W2 w.heap.size l k:=HL.out.aI (aE.block _ aa);have N3:Below w.heap.size w W2:=HB.out.trans (aE.mono aa);clear jT aE hS;have c1:W2.cell? ⟨w.heap.size+1,k,none⟩=some (.int .i32 0):=(by rw[cell_of_row W2 _ _ _ _ _ oP,List.getElem?_toArray,List.getElem?_append_right (by simp[gH]),show(gH l k).length=k from by simp[gH],Nat.sub_self,List.getElem?_replicate,if_pos aa]);have f1:W2.frozen? ⟨w.heap.size+1,k,none⟩=false:=(by simp[World.frozen?,oP]);have⟨W3,jD⟩:=ex (W2.setCell ⟨w.heap.size+1,k,none⟩ (.int .i32 (-1)));have yC:=heap_set oP k (.int .i32 (-1));have TU:=(show W3.heap[wr.heap.size]? =W2.heap[wr.heap.size]? from by rw[←jD,ag _ _ _ _ av]).trans zG;have rR:fV W3 w.heap.size l k:=qT.aI (by rw[←jD,ag _ _ _ _ ae]);have adO:Below w.heap.size w W3:=(by rw[←jD];exact Below.setCell (p:=⟨w.heap.size+1,k,none⟩) N3 ae _);rw[jD]at yC;have C7:=hdd jD;have pK:=hdd oP;obtain⟨cc,TC,BT⟩:=rR.look (z0,z1,z2,z3);have HCC:=hdd BT;have x0:W3.cell? ⟨wr.heap.size,0,none⟩=some (.int .u8 (z0.toNat:Nat)):=Bb;have x1:W3.cell? ⟨wr.heap.size,1,none⟩=some (.int .u8 (z1.toNat:Nat)):=Bb;have x2:W3.cell? ⟨wr.heap.size,2,none⟩=some (.int .u8 (z2.toNat:Nat)):=Bb;have x3:W3.cell? ⟨wr.heap.size,3,none⟩=some (.int .u8 (z3.toNat:Nat)):=Bb;simp only[xd,pS]at TC;have Lh:=hdd yC;have HL3:=hdd rR;have fc:=hdd adO;clear jD oP qT N3 zG BT yC rR adO;go_upto_region 8 with fail;rw[C7.out];have adM:IntKind.i32.wrap (k:Int)=(k:Int):=by have e1:IntKind.i32.min= -2147483648:=rfl;have e2:IntKind.i32.max=2147483647:=rfl;first | exact IntWalk.i32_in _ aa | (unfold IntKind.wrap;simp;omega)
   have dK:w.heap.size+1<W3.heap.size:=(cr Lh.out)
   have hmb:w.heap.size<W3.heap.size:=aa;cases hs:seen l (z0,z1,z2,z3) k with
   | true=>
    rw[hs]at TC;have Dd:=hdd (HCC.out hs);have c3:W3.cell? ⟨w.heap.size+1,k,none⟩=some (.int .i32 (-1)):=(by rw[cell_of_row W3 _ _ _ _ _ Lh.out,List.getElem?_toArray,List.getElem?_set_self (by rw[List.length_append,tq,List.length_replicate];omega)]);have f3:W3.frozen? ⟨w.heap.size+1,k,none⟩=false:=(by simp[World.frozen?,Lh.out]);have⟨W4,pz⟩:=ex (W3.setCell ⟨w.heap.size+1,k,none⟩ (.int .i32 cc));have abV:=(show W4.heap[wr.heap.size]? =W3.heap[wr.heap.size]? from by rw[←pz,ag _ _ _ _ av]).trans TU;have y0:W4.cell? ⟨wr.heap.size,0,none⟩=some (.int .u8 (z0.toNat:Nat)):=Bc;have y1':W4.cell? ⟨wr.heap.size,1,none⟩=some (.int .u8 (z1.toNat:Nat)):=Bc;have y2':W4.cell? ⟨wr.heap.size,2,none⟩=some (.int .u8 (z2.toNat:Nat)):=Bc;have y3':W4.cell? ⟨wr.heap.size,3,none⟩=some (.int .u8 (z3.toNat:Nat)):=Bc;have uc:Hid (W4.heap[w.heap.size+1]? =some (.cells (gH l (k+1)++List.replicate (n-(k+1)) (Value.int .i32 0)).toArray 21 (0,0))):=hdd (by
     have h:=heap_set Lh.out k (.int .i32 cc);rw[pz,List.set_set,zV l n k hkl cc (by rw[HFO.out];exact Dd.out)]at h;exact h)
    have HLW:Hid (fV W4 w.heap.size l k):=hdd (HL3.out.aI (by rw[←pz,ag _ _ _ _ ae]));have dV:Hid (Below w.heap.size w W4):=hdd (by rw[←pz];exact Below.setCell (p:=⟨w.heap.size+1,k,none⟩) fc.out ae _);have O7:=hdd pz;clear pz TU abV hs dK hmb;go_upto_region 11 with fail;rw[O7.out];obtain⟨w5,hmu,ZR,ht5⟩:=HLW.out.put aa;rw[HFO.out]at hmu;simp only[xd,pS]at hmu;have iM:=ht5.grown;have ZS:Hid (w5.heap[w.heap.size+1]? =some (.cells (gH l (k+1)++List.replicate (n-(k+1)) (Value.int .i32 0)).toArray 21 (0,0))):=hdd ((iM.block _ (cr uc.out) ae).trans uc.out);have sP:Hid (Below w.heap.size w w5):=hdd (am dV.out iM dV.out.size (fun g e=>sX));have HL5:=hdd ZR;clear ZR ht5 iM;go_wp2_with fail;exact⟨⟨k+1,aa,aq,ZS,HL5,sP⟩,gt⟩
   | false=>
    rw[hs]at TC;have yT:Hid (-1=bz l (four l k) k):=hdd (by
     have h1: ¬0≤bz l (z0,z1,z2,z3) k:=(by simpa [seen]using hs);rw[HFO.out];rcases i8 l (z0,z1,z2,z3) k with h | h<;>omega)
    have uc:Hid (W3.heap[w.heap.size+1]? =some (.cells (gH l (k+1)++List.replicate (n-(k+1)) (Value.int .i32 0)).toArray 21 (0,0))):=hdd (by
     rw[←zV l n k hkl (-1) yT.out];exact Lh.out)
    have HLW:=HL3;have dV:=fc;clear TU hs dK hmb;obtain⟨w5,hmu,ZR,ht5⟩:=HLW.out.put aa;rw[HFO.out]at hmu;simp only[xd,pS]at hmu;have iM:=ht5.grown;have ZS:Hid (w5.heap[w.heap.size+1]? =some (.cells (gH l (k+1)++List.replicate (n-(k+1)) (Value.int .i32 0)).toArray 21 (0,0))):=hdd ((iM.block _ (cr uc.out) ae).trans uc.out);have sP:Hid (Below w.heap.size w w5):=hdd (am dV.out iM dV.out.size (fun g e=>sX));have HL5:=hdd ZR;clear ZR ht5 iM;go_wp2_with fail;exact⟨⟨k+1,aa,aq,ZS,HL5,sP⟩,gt⟩
  ·obtain rfl:k=n:=(by omega);rw[Nat.sub_self,List.replicate_zero,List.append_nil]at HR;clear ng cu;go_wp2_with fail;go_ret;exact⟨rfl,HR.out,HB.out⟩
end
end Go.Proofs.YtgfpocdiojifoaaGreatDoor
