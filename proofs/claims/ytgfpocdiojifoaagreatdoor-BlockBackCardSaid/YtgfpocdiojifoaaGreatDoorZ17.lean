import Derived.Test.YtgfpocdiojifoaaGreatDoorZ16
import Derived.BigRegionIn
import Derived.Maps.OwnRows
import Derived.WideKeyEntry
import Derived.Test.YtgfpocdiojifoaaGreatDoorRows
namespace Go.Proofs.YtgfpocdiojifoaaGreatDoor
set_option maxRecDepth 100000
set_option maxHeartbeats 8000000
open Go.RowKit
section
open Go.RowKit Go.Shelf
attribute [local go_sem] Oper.semAt_some
theorem dY.more{S T:Nat→Prop}{f:Nat→Nat}{n k:Nat}(h:dY S f n k)(hST: ∀j,S j→T j)(hT: ∀j,T j→S j∨(f j≤n∧ ∀s,S s→s<j)):dY T f n k:=by
 refine⟨fun j hj=> ?_,fun j hj hlt=> ?_,h.at_.imp id fun⟨a,b⟩=>⟨hST k a,b⟩⟩
 ·rcases hT j hj with e | ⟨e,_⟩
  ·exact h.le j e
  ·exact e
 ·rcases hT j hj with e | ⟨_,e⟩
  ·exact h.lt j e hlt
  ·rcases h.at_ with⟨_,rfl⟩ | ⟨e2,_⟩
   ·omega
   ·have:=e k e2;omega
def jr(place:Nat)(L:List Nat)(j:Nat):Prop:= ∃x∈L,j=place-x
theorem SN{place j:Nat}: ¬jr place [] j:=fun⟨_,h,_⟩=>by cases h
theorem C9{place:Nat}{L:List Nat}{x j:Nat}:jr place (L++[x]) j↔jr place L j∨j=place-x:=by
 unfold jr
 constructor
 ·rintro⟨y,hy,rfl⟩
  rcases List.mem_append.1 hy with h | h
  ·exact .inl ⟨y,h,rfl⟩
  ·rw[List.mem_singleton]at h;subst h;exact .inr rfl
 ·rintro(⟨y,hy,rfl⟩ | rfl)
  ·exact⟨y,List.mem_append_left _ hy,rfl⟩
  ·exact⟨x,by simp,rfl⟩
theorem KeepsOthers.drewN(W:World)(m:Nat):KeepsOthers W (W.drewN m):=⟨Nat.le_refl _,fun _ _ h _=>h⟩
structure iG(w:World)(b0 b1 b2 b3 b4:Nat)(f:Nat→Nat)(place lm:Nat)(Fp:Nat)(n k:Nat)(S:Nat→Prop)(W:World):Prop where
 below:Below w.heap.size w W
 bf:aI b0 W (PF Fp)
 bp:aI b1 W (.int .i64 (place:Nat))
 bl:aI b2 W (.int .i64 (lm:Nat))
 bn:aI b3 W (.int .i64 (n:Nat))
 bd:aI b4 W (.int .i64 (k:Nat))
 best:dY S f n k
 le:n≤lm
 kl:k≤place
theorem aI.lt{b:Nat}{w:World}{v:Value}(h:aI b w v):b<w.heap.size:=by
 obtain⟨t,h⟩:=h
 exact(Array.getElem?_eq_some_iff.1 h).1
theorem aI.set{b:Nat}{w:World}{v:Value}(h:aI b w v)(u:Value):aI b (w.setCell ⟨b,0,none⟩ u) u:=by
 obtain⟨t,h⟩:=h
 exact⟨t,by rw[heap_setCell_same w b 0 _ _ u h];rfl⟩
theorem aI.frozen{b:Nat}{w:World}{v:Value}(h:aI b w v):w.frozen? ⟨b,0,none⟩=false:=by
 obtain⟨t,h⟩:=h
 exact frozen_of_row w b 0 _ _ h
theorem aI.other{b b':Nat}{w:World}{v:Value}(h:aI b w v)(u:Value)(hne:b≠b'):aI b (w.setCell ⟨b',0,none⟩ u) v:=h.keep (ah _ _ _ _ hne)
section
variable{w W W':World}{b0 b1 b2 b3 b4:Nat}{f:Nat→Nat}{place lm:Nat}{Fp n k:Nat}{S:Nat→Prop}
theorem iG.keep(h:iG w b0 b1 b2 b3 b4 f place lm Fp n k S W)(hb:Below w.heap.size w W')(hk: ∀i v,aI i W v→W'.heap[i]? =W.heap[i]?):iG w b0 b1 b2 b3 b4 f place lm Fp n k S W':=
 ⟨hb,h.bf.keep (hk _ _ h.bf),h.bp.keep (hk _ _ h.bp),h.bl.keep (hk _ _ h.bl),h.bn.keep (hk _ _ h.bn),h.bd.keep (hk _ _ h.bd),h.best,h.le,h.kl⟩
theorem iG.to{T:Nat→Prop}(h:iG w b0 b1 b2 b3 b4 f place lm Fp n k S W)(hb:dY T f n k):iG w b0 b1 b2 b3 b4 f place lm Fp n k T W:=
 ⟨h.below,h.bf,h.bp,h.bl,h.bn,h.bd,hb,h.le,h.kl⟩
theorem iG.alloc(h:iG w b0 b1 b2 b3 b4 f place lm Fp n k S W)(o:Obj):iG w b0 b1 b2 b3 b4 f place lm Fp n k S (W.alloc o):=
 h.keep (h.below.alloc h.below.size _) fun _ _ hi=>Below.heap_alloc _ _ _ hi.lt
theorem iG.drewN(h:iG w b0 b1 b2 b3 b4 f place lm Fp n k S W)(m:Nat):iG w b0 b1 b2 b3 b4 f place lm Fp n k S (W.drewN m):=
 h.keep (below_drewN h.below m) fun _ _ hi=>(below_drewN (Below.refl _ _) m:Below W.heap.size W (W.drewN m)).block _ hi.lt
theorem iG.putObj(h:iG w b0 b1 b2 b3 b4 f place lm Fp n k S W)(l:Nat)(o o':Obj)(hl:w.heap.size≤l)(hlo:W.heap[l]? =some o)(ho:o.isCells=false):iG w b0 b1 b2 b3 b4 f place lm Fp n k S (W.putObj l o'):=by
 refine h.keep (h.below.grown (grownBy_putObj' W l o') h.below.size (fun k e=>by cases e;omega)) fun i v hi=>World.putObj_heap_other ?_
 rintro rfl
 obtain⟨t,hv⟩:=hi
 rw[hv]at hlo
 cases hlo
 cases ho
theorem iG.cells(h:iG w b0 b1 b2 b3 b4 f place lm Fp n k S W):W.cell? ⟨b0,0,none⟩=some (PF Fp)∧W.cell? ⟨b1,0,none⟩=some (.int .i64 (place:Nat))∧W.cell? ⟨b2,0,none⟩=some (.int .i64 (lm:Nat))∧W.cell? ⟨b3,0,none⟩=some (.int .i64 (n:Nat))∧W.cell? ⟨b4,0,none⟩=some (.int .i64 (k:Nat)):=
 ⟨h.bf.cell,h.bp.cell,h.bl.cell,h.bn.cell,h.bd.cell⟩
end
def Dc(d:List UInt8)(place lm:Nat)(dict:Int)(L:List Nat)(w:World)(e:Ending)(w':World):Prop:= ∃n k,e= .returned (.tuple #[.int .i64 (n:Nat),.int .i64 (k:Nat)])∧dY (fun j=>(j:Int)≤dict∧jr place L j) (fun j=>aX d place (place-j) lm) n k∧Below w.heap.size w w'
theorem aeW(w:World)(v0 v1 v2 v3 v4:Value)(t0 t1 t2 t3 t4:TypeId)(W:World)(hW:((((w.alloc (.cells #[v0] t0)).alloc (.cells #[v1] t1)).alloc (.cells #[v2] t2)).alloc (.cells #[v3] t3)).alloc (.cells #[v4] t4)=W):
  Below w.heap.size w W∧aI w.heap.size W v0∧aI (w.heap.size+1) W v1∧aI (w.heap.size+1+1) W v2∧aI (w.heap.size+1+1+1) W v3∧aI (w.heap.size+1+1+1+1) W v4:=by
 subst hW
 have up: ∀{b:Nat} {W:World} {v:Value} (o:Obj),aI b W v→aI b (W.alloc o) v:=fun o h=>h.keep (Below.heap_alloc _ _ _ h.lt)
 have mk: ∀(W:World) (v:Value) (t:TypeId) (b:Nat),b=W.heap.size→aI b (W.alloc (.cells #[v] t)) v:=fun W v t b e=>by subst e;exact aI.made W v t
 refine⟨?_,up _ (up _ (up _ (up _ (mk _ _ _ _ rfl)))),up _ (up _ (up _ (mk _ _ _ _ (by simp)))),up _ (up _ (mk _ _ _ _ (by simp))),up _ (mk _ _ _ _ (by simp)),mk _ _ _ _ (by simp)⟩
 refine Below.alloc ?_ (by simp;omega) _
 refine Below.alloc ?_ (by simp;omega) _
 refine Below.alloc ?_ (by simp;omega) _
 refine Below.alloc ?_ (by simp) _
 exact(Below.refl _ _).alloc (Nat.le_refl _) _
theorem zX(Fp:Nat)(A:Option Addr)(c:Nat)(d:List UInt8)(dict nice:Int)(mp:Nat)(v4:Value)(place lm:Nat)(gf:Nat)(lb:Array Value)(L:List Nat)(w:World)
  (hF:dH w Fp A c d dict nice mp v4) (hp:place+lm≤d.length) (h1:1≤lm) (hL: ∀x∈L,x<place) (adv:L.Pairwise (· > ·)) (eg: ∀args w,(callFunc gf args).run Tryz.prog w= .ok (.enter gf args) w)
  (hseq:CS Fence.wide 3 Tryz.prog gf lb L w):
  Calls Tryz.prog 199 #[PF Fp,.int .i64 (place:Nat),.int .i64 (lm:Nat),.func (.func gf) #[] lb] w (Dc d place lm dict L w):=by
 have hpi:(place:Int)≤100000:=by have:=hF.small;omega
 have Fb:(lm:Int)≤100000:=by have:=hF.small;omega
 have hdi:(d.length:Int)≤100000:=by have:=hF.small;omega
 have hci:(d.length:Int)≤(c:Int):=by have:=hF.cap;omega
 have HF:=Lib.hid hF
 have al8:=Lib.hid hseq
 have HEG:=Lib.hid eg
 have HL:=Lib.hid hL
 have ah4:=Lib.hid adv
 have HP:=Lib.hid hp
 clear hF hseq eg hL adv hp
 refine(callsIn_wide (n:=4)).1 ?_
 refine callsIn_of_wp_marks Tryz.func199 rfl trivial ?_ rfl
 simp only[Tryz.ntmps199,List.size_toArray,List.length_cons,List.length_nil,Nat.reduceAdd,Nat.reduceSub,Array.replicate_succ,Array.replicate_zero,List.push_toArray,List.append_toArray,List.nil_append,List.cons_append]
 gi_wp2
 generalize hW0:((((w.alloc _).alloc _).alloc _).alloc _).alloc _=W0
 obtain⟨hb0,x0,x1,x2,x3,x4⟩:=aeW _ _ _ _ _ _ _ _ _ _ _ _ hW0
 have hs0:Hid (w.heap.size<w.heap.size+1):=Lib.hid (by omega)
 have hne:(w.heap.size≠w.heap.size+1+1+1∧w.heap.size+1≠w.heap.size+1+1+1∧w.heap.size+1+1≠w.heap.size+1+1+1)∧(w.heap.size≠w.heap.size+1+1+1+1∧w.heap.size+1≠w.heap.size+1+1+1+1∧w.heap.size+1+1≠w.heap.size+1+1+1+1)∧w.heap.size+1+1+1≠w.heap.size+1+1+1+1:=by omega
 have hge:w.heap.size≤w.heap.size+1+1+1∧w.heap.size≤w.heap.size+1+1+1+1:=by omega
 obtain⟨s,hs⟩: ∃s,w.heap.size=s:=⟨_,rfl⟩
 obtain⟨b4,hb4⟩: ∃b,s+1+1+1+1=b:=⟨_,rfl⟩
 obtain⟨b3,hb3⟩: ∃b,s+1+1+1=b:=⟨_,rfl⟩
 obtain⟨b2,hb2⟩: ∃b,s+1+1=b:=⟨_,rfl⟩
 obtain⟨b1,hb1⟩: ∃b,s+1=b:=⟨_,rfl⟩
 rw[hs]at hne hge x0 x1 x2 x3 x4 ⊢
 rw[hb4]at hne hge x4 ⊢
 rw[hb3]at hne hge x3 ⊢
 rw[hb2]at hne x2 ⊢
 rw[hb1]at hne x1 ⊢
 have Jv:=Lib.hid hne
 have jV:Hid (w.heap.size≤b3∧w.heap.size≤b4):=Lib.hid (by rw[hs];exact hge)
 clear hW0 hs0 hb1 hb2 hb3 hb4 hne hge
 refine FM rfl (by decide) (gf:=gf) (lb:=lb) rfl trivial HEG.out al8.out rfl
  (fun pre W=> ∃n k,iG w s b1 b2 b3 b4 (fun j=>aX d place (place-j) lm) place lm Fp n k (jr place pre) W∧ ∀y∈pre,(place:Int)-(y:Int)≤dict)
  (fun e W=>e=Code.exit 0∧ ∃n k,iG w s b1 b2 b3 b4 (fun j=>aX d place (place-j) lm) place lm Fp n k (fun j=>(j:Int)≤dict∧jr place L j) W)
  (fun s W o ⟨n,k,h,hd⟩=>⟨n,k,h.alloc o,hd⟩) (fun s W l o o' ⟨n,k,h,hd⟩ hl hlo ho=>⟨n,k,h.putObj l o o' (Nat.le_trans hb0.size hl) hlo ho,hd⟩) (fun s W ⟨n,k,h,hd⟩=>h.below) (fun s W m ⟨n,k,h,hd⟩=>⟨n,k,h.drewN m,hd⟩)
  (fun e W l o o' ⟨he,n,k,h⟩ hl hlo ho=>⟨he,n,k,h.putObj l o o' (Nat.le_trans hb0.size hl) hlo ho⟩) (fun e W m ⟨he,n,k,h⟩=>⟨he,n,k,h.drewN m⟩)
  ⟨0,0,⟨hb0,x0,x1,x2,x3,x4,(dY.none _).iff fun j=>⟨fun h=>SN h,fun h=>h.elim⟩,Nat.zero_le _,Nat.zero_le _⟩,fun y hy=>by cases hy⟩
  (fun x=>{tmps:= #[PF Fp,.int .i64 (place:Nat),.int .i64 (lm:Nat),.func (.func gf) #[] lb,.pointer (some ⟨s,0,none⟩),.pointer (some ⟨b1,0,none⟩),.pointer (some ⟨b2,0,none⟩),undef,.int .i64 0,.int .i64 0,.pointer (some ⟨b3,0,none⟩),.pointer (some ⟨b4,0,none⟩),.int .i64 (x:Nat),undef,.func (.func gf) #[] lb,.int .i64 (x:Nat),undef,undef,undef,undef,undef,undef,undef,undef,undef,undef,undef,undef,undef,undef,undef,undef,undef,undef,undef,undef,undef,undef,undef,undef,undef,undef,undef,undef,undef,undef,undef,undef,undef,undef,undef,undef,undef,undef,undef,undef,undef,undef,undef,undef,undef,undef],defers:=[]}) ?assign ?body ?done ?stop
 case assign=>
  intro l x W K hK
  gi_wp2
  exact hK
 case body=>
  rintro l pre x t W hsplit ⟨n,k,hI,vG⟩
  have hx:x<place:=HL.out x (by rw[hsplit];simp)
  have hfl:=ah4.out
  rw[hsplit,List.pairwise_append]at hfl
  have hpre: ∀y∈pre,x<y:=fun y hy=>hfl.2.2 y hy x (by simp)
  have hrest: ∀y∈t,y<x:=(List.pairwise_cons.1 hfl.2.1).1
  have hrise: ∀s,jr place pre s→s<place-x:=by
   rintro _ ⟨y,hy,rfl⟩
   have:=hpre y hy;have:=HL.out y (by rw[hsplit];simp[hy]);omega
  have hDL: ∀j,jr place L j↔jr place pre j∨j=place-x∨jr place t j:=by
   intro j
   rw[hsplit]
   constructor
   ·rintro⟨y,hy,rfl⟩
    rcases List.mem_append.1 hy with h | h
    ·exact .inl ⟨y,h,rfl⟩
    ·rcases List.mem_cons.1 h with rfl | h
     ·exact .inr (.inl rfl)
     ·exact .inr (.inr ⟨y,h,rfl⟩)
   ·rintro(⟨y,hy,rfl⟩ | rfl | ⟨y,hy,rfl⟩)
    ·exact⟨y,by simp[hy],rfl⟩
    ·exact⟨x,by simp,rfl⟩
    ·exact⟨y,by simp[hy],rfl⟩
  have adw: ∀j,jr place t j→place-x<j:=by
   rintro _ ⟨y,hy,rfl⟩
   have:=hrest y hy;omega
  have hin: ∀j,jr place pre j→(j:Int)≤dict:=by
   rintro _ ⟨y,hy,rfl⟩
   have:=vG y hy;have:=HL.out y (by rw[hsplit];simp[hy]);omega
  obtain⟨cf,cp,cl,cn,cd⟩:=hI.cells
  have hFW:=HF.out.below hI.below
  obtain⟨f0,f1,_,_,_⟩:=hFW.cells
  have hxi:(x:Int)<(place:Int):=by omega
  have hle:=hI.le
  have hnl:(n:Int)≤(lm:Int):=by omega
  have HI:=Lib.hid hI
  have HDL:=Lib.hid hDL
  have KG:=Lib.hid hrise
  have ady:=Lib.hid adw
  have HIN:=Lib.hid hin
  have ah6:=Lib.hid vG
  have HX:=Lib.hid hx
  have HFW:=Lib.hid hFW
  clear hI hDL hrise adw hin hfl hpre hrest vG hsplit hx hFW hle
  by_cases hd:dict<(place:Int)-(x:Int)
  ·have hstop:Hid (∃n k,iG w s b1 b2 b3 b4 (fun j=>aX d place (place-j) lm) place lm Fp n k (fun j=>(j:Int)≤dict∧jr place L j) W):=Lib.hid ⟨n,k,HI.out.to (HI.out.best.iff fun j=>by
    rw[HDL.out]
    constructor
    ·rintro⟨h1,h | rfl | h⟩
     ·exact h
     ·have:=HX.out;omega
     ·have:=ady.out j h;have:=HX.out;omega
    ·exact fun h=>⟨HIN.out j h,.inl h⟩)⟩
   gi_wp2
   refine eX rfl (by kernel_rfl) (by kernel_rfl) (by kernel_rfl) ?_
   repeat(gi_big_quiet_step (fail))
   refine wpQuietIn_nil ?_
   rintro _ ⟨nq,rfl⟩
   gi_wp2
   obtain⟨n',k',hst⟩:=hstop.out
   exact⟨KeepsOthers.drewN _ _,rfl,n',k',hst.drewN _⟩
  ·have hd':decide (dict<(place:Int)-(x:Int))=false:=by simp;omega
   have hd2: ¬dict<(place:Int)-(x:Int):=hd
   by_cases hn:n=lm
   ·have hstop:Hid (∃n k,iG w s b1 b2 b3 b4 (fun j=>aX d place (place-j) lm) place lm Fp n k (fun j=>(j:Int)≤dict∧jr place L j) W):=Lib.hid ⟨n,k,HI.out.to (HI.out.best.more (fun j hj=>⟨HIN.out j hj,(HDL.out j).2 (.inl hj)⟩) fun j hj=>by
     rcases(HDL.out j).1 hj.2 with h | h
     ·exact .inl h
     ·refine .inr ⟨by rw[hn];exact kZ _ _ _ _,fun s hs=> ?_⟩
      have h1:=KG.out s hs
      rcases h with rfl | h
      ·exact h1
      ·have:=ady.out j h;omega)⟩
    have he:((n:Int)==(lm:Int))=true:=by rw[hn];simp
    clear hn
    gi_wp2
    refine eX rfl (by kernel_rfl) (by kernel_rfl) (by kernel_rfl) ?_
    repeat(gi_big_quiet_step (fail))
    refine wpQuietIn_nil ?_
    rintro _ ⟨nq,rfl⟩
    gi_wp2
    obtain⟨n',k',hst⟩:=hstop.out
    exact⟨KeepsOthers.drewN _ _,rfl,n',k',hst.drewN _⟩
   ·have he:((n:Int)==(lm:Int))=false:=by rw[beq_eq_false_iff_ne];omega
    have arS:(n:Int)<(lm:Int):=by omega
    have HD2:Hid (∀y∈pre++[x],(place:Int)-(y:Int)≤dict):=Lib.hid (fun y hy=>by
     rcases List.mem_append.1 hy with h | h
     ·exact ah6.out y h
     ·rw[List.mem_singleton]at h;subst h;omega)
    have HM:Hid (∀m,Calls Tryz.prog 202 #[PF Fp,.int .i64 (place:Nat),.int .i64 (x:Nat),.int .i64 (lm:Nat)] (W.drewN m) fun e w'=>e= .returned (.int .i64 (aX d place x lm:Nat))∧ ∃q,w'=(W.drewN m).drewN q):=Lib.hid (fun m=>by
     have:=KD Fp A c d dict nice mp v4 place x (lm:Int) _ (HFW.out.drewN m) (by have:=HP.out;simpa using this) (by have:=HX.out;omega)
     simpa only[Int.toNat_natCast]using this)
    obtain⟨g,hg⟩: ∃g,aX d place x lm=g:=⟨_,rfl⟩
    have hgl:(g:Int)≤(lm:Int):=by have:=kZ d place x lm;omega
    rw[hg]at HM
    have HG:=Lib.hid hg
    clear hg
    obtain⟨b,off,rfl,_,hat⟩:=HFW.out.bytes.addr (by have:=HP.out;omega)
    obtain⟨y,hy⟩: ∃y:Nat,place+n=y:=⟨_,rfl⟩
    have hyi:(place:Int)+(n:Int)=(y:Int):=by omega
    obtain⟨z,hz⟩: ∃z:Nat,x+n=z:=⟨_,rfl⟩
    have hzi:(x:Int)+(n:Int)=(z:Int):=by omega
    have hyl:(y:Int)<(d.length:Int):=by have:=HP.out;omega
    have hzl:(z:Int)<(d.length:Int):=by have:=HP.out;omega
    have cy:=hat y (by omega)
    have cz:=hat z (by omega)
    have e1:=dQ (d:=d) (i:=y) (by omega)
    have e2:=dQ (d:=d) (i:=z) (by omega)
    generalize d[y]'(by omega)=u at*
    generalize d[z]'(by omega)=v at*
    have Oi:=Lib.hid (And.intro (hy▸e1:d.getD (place+n) 0=u) (hz▸e2:d.getD (x+n) 0=v))
    have Gp:Hid (place-(place-x)=x):=Lib.hid (by omega)
    have EU:Hid (∀m,iG w s b1 b2 b3 b4 (fun j=>aX d place (place-j) lm) place lm Fp n k (jr place pre) (W.drewN m)):=Lib.hid (fun m=>HI.out.drewN m)
    have XH:Hid (aX d place x lm≤n→ ∀m,∃n k,iG w s b1 b2 b3 b4 (fun j=>aX d place (place-j) lm) place lm Fp n k (jr place (pre++[x])) (W.drewN m)):=Lib.hid (fun h m=>⟨n,k,(EU.out m).to (((EU.out m).best.skip KG.out (by show aX d place (place-(place-x)) lm≤n;rw[Gp.out];exact h)).iff fun j=>C9)⟩)
    clear hn hy hz e1 e2 hat
    by_cases huv:v=u
    ·have hne:((v.toNat:Int) !=(u.toNat:Int))=false:=by rw[huv];simp
     have hne2:((v.toNat:Int)==(u.toNat:Int))=true:=by rw[huv];simp
     clear huv
     have HGN:Hid (n<g→dY (jr place (pre++[x])) (fun j=>aX d place (place-j) lm) g (place-x)):=Lib.hid (fun h=>by
      have e:aX d place (place-(place-x)) lm=g:=by rw[Gp.out];exact HG.out
      have:=HI.out.best.take (j:=place-x) KG.out (by show n<aX d place (place-(place-x)) lm;rw[e];exact h)
      rw[e]at this
      exact this.iff fun j=>C9)
     gi_wp2
     refine eX rfl (by kernel_rfl) (by kernel_rfl) (by kernel_rfl) ?_
     repeat(gi_big_quiet_step (fail))
     refine wpQuietIn_nil ?_
     rintro _ ⟨nq,rfl⟩
     gi_wp2
     refine eX rfl (by kernel_rfl) (by kernel_rfl) (by kernel_rfl) ?_
     repeat(gi_big_quiet_step (fail))
     refine wpQuietIn_nil ?_
     rintro _ ⟨nr,rfl⟩
     gi_wp2
     refine⟨trivial,(CallsIn.inRound _ (callsIn_wide.2 (HM.out _))).mono ?_⟩
     rintro e w' ⟨rfl,ns,rfl⟩
     by_cases hgn:n<g
     ·have hgn2:decide ((n:Int)<(g:Int))=true:=by simp;omega
      have ama:(n:Int)<(g:Int):=by omega
      obtain⟨⟨n03,n13,n23⟩,⟨n04,n14,n24⟩,n34⟩:=Jv.out
      have n31:=n13.symm
      have n43:=n34.symm
      have n41:=n14.symm
      have fn:=HI.out.bn.frozen
      have fd:=HI.out.bd.frozen
      obtain⟨k2,hk2⟩: ∃k2,place-x=k2:=⟨_,rfl⟩
      have arW:(k2:Int)≤100000:=by omega
      have hpx:(place:Int)-(x:Int)=(k2:Int):=by omega
      have hwr:IntKind.i64.wrap (k2:Int)=(k2:Int):=IntWalk.i64_in _ (by omega)
      have vX:Hid (∀m,KeepsOthers W (((W.drewN m).setCell ⟨b3,0,none⟩ (.int .i64 (g:Nat))).setCell ⟨b4,0,none⟩ (.int .i64 (k2:Nat)))∧ ∃n k,iG w s b1 b2 b3 b4 (fun j=>aX d place (place-j) lm) place lm Fp n k (jr place (pre++[x])) (((W.drewN m).setCell ⟨b3,0,none⟩ (.int .i64 (g:Nat))).setCell ⟨b4,0,none⟩ (.int .i64 (k2:Nat)))):=Lib.hid (fun m=>by
       have h:=EU.out m
       exact⟨((KeepsOthers.drewN _ _).trans (KeepsOthers.setCell _ _ _)).trans (KeepsOthers.setCell _ _ _),g,k2,(h.below.setCell jV.out.1 _).setCell jV.out.2 _,(h.bf.other _ n03).other _ n04,(h.bp.other _ n13).other _ n14,(h.bl.other _ n23).other _ n24,(h.bn.set _).other _ n34,(h.bd.other _ n43).set _,by rw[←hk2];exact HGN.out hgn,by omega,by omega⟩)
      clear hk2
      gi_wp2
      gi_region
      all_goals gi_wp2
      all_goals(obtain⟨hk,n',k',hst⟩:=vX.out (nq+nr+ns+1);exact⟨hk,n',k',hst,HD2.out⟩)
     ·have hgn2:decide ((n:Int)<(g:Int))=false:=by simp;omega
      have ama: ¬(n:Int)<(g:Int):=by omega
      gi_wp2
      obtain⟨n',k',hst⟩:=XH.out (by rw[HG.out];omega) (nq+nr+ns)
      exact⟨KeepsOthers.drewN _ _,n',k',hst,HD2.out⟩
    ·have hne:((v.toNat:Int) !=(u.toNat:Int))=true:=by
      rw[bne_iff_ne];intro h;exact huv (UInt8.toNat_inj.1 (by omega))
     have hne2:((v.toNat:Int)==(u.toNat:Int))=false:=by
      rw[beq_eq_false_iff_ne];intro h;exact huv (UInt8.toNat_inj.1 (by omega))
     have hcut:Hid (aX d place x lm≤n):=Lib.hid (SG (by rw[Oi.out.1,Oi.out.2];exact huv))
     clear huv
     gi_wp2
     refine eX rfl (by kernel_rfl) (by kernel_rfl) (by kernel_rfl) ?_
     repeat(gi_big_quiet_step (fail))
     refine wpQuietIn_nil ?_
     rintro _ ⟨nq,rfl⟩
     gi_wp2
     refine eX rfl (by kernel_rfl) (by kernel_rfl) (by kernel_rfl) ?_
     repeat(gi_big_quiet_step (fail))
     refine wpQuietIn_nil ?_
     rintro _ ⟨nr,rfl⟩
     gi_wp2
     rw[World.drewN_drewN]
     obtain⟨n',k',hst⟩:=XH.out hcut.out (nq+nr)
     exact⟨KeepsOthers.drewN _ _,n',k',hst,HD2.out⟩
 case done=>
  rintro D W hD ⟨n,k,hI,vG⟩ hK
  have XI:Hid (iG w s b1 b2 b3 b4 (fun j=>aX d place (place-j) lm) place lm Fp n k (fun j=>(j:Int)≤dict∧jr place L j) W):=Lib.hid (hI.to (hI.best.iff fun j=>by
   constructor
   ·exact fun h=>h.2
   ·rintro⟨y,hy,rfl⟩
    have h1:=vG y hy
    have h2:=HL.out y hy
    exact⟨by omega,y,hy,rfl⟩))
  obtain⟨cf,cp,cl,cn,cd⟩:=XI.out.cells
  clear hI vG
  gi_wp2
  refine wpIn_region_quiet_lit rfl (by kernel_rfl) (by kernel_rfl) ?_
  repeat(gi_big_quiet_step (fail))
  refine wpQuietIn_nil ?_
  rintro _ ⟨nq,rfl⟩
  gi_wp2
  refine⟨by simp,.inl ⟨_,_,rfl,run_takeDeferred (b:=D) (ds:=[]) hK,?_⟩⟩
  refine⟨_,results_tmp2 rfl _ _ _,n,k,rfl,XI.out.best,?_⟩
  have hbq:=(XI.out.drewN nq).below
  exact hbq.grown (grownBy_putObj' (W.drewN nq) D (.deferred none)) hbq.size (fun k e=>by cases e;exact Nat.le_trans hb0.size hD)
 case stop=>
  rintro D _ W hD ⟨rfl,n,k,hI⟩ hK
  obtain⟨cf,cp,cl,cn,cd⟩:=hI.cells
  have XI:=Lib.hid hI
  clear hI
  gi_wp2
  refine wpIn_region_quiet_lit rfl (by kernel_rfl) (by kernel_rfl) ?_
  repeat(gi_big_quiet_step (fail))
  refine wpQuietIn_nil ?_
  rintro _ ⟨nq,rfl⟩
  gi_wp2
  refine⟨by simp,.inl ⟨_,_,rfl,run_takeDeferred (b:=D) (ds:=[]) hK,?_⟩⟩
  refine⟨_,results_tmp2 rfl _ _ _,n,k,rfl,XI.out.best,?_⟩
  have hbq:=(XI.out.drewN nq).below
  exact hbq.grown (grownBy_putObj' (W.drewN nq) D (.deferred none)) hbq.size (fun k e=>by cases e;exact Nat.le_trans hb0.size hD)
end
section
section
variable{d:List UInt8}{place:Nat}{dict:Int}
def xI(d:List UInt8)(place L:Nat)(j:Nat):Nat:=aX d place (place-j) L
def depth(place:Nat)(dict:Int):Nat:=(min (place:Int) dict).toNat
def S4(d:List UInt8)(place:Nat)(dict:Int)(j:Nat):Prop:=(j:Int)≤dict∧jr place (chain d (four d place) place) j
theorem ah7{j:Nat}(h:S4 d place dict j):1≤j∧j≤depth place dict:=by
 obtain⟨h1,x,hx,rfl⟩:=h
 have:=(mM.1 hx).1
 unfold depth
 omega
theorem adz{L j:Nat}(h1:1≤j)(h2:j≤depth place dict)(h:4≤xI d place L j):S4 d place dict j:=by
 unfold depth at h2
 refine⟨by omega,place-j,mM.2 ⟨by omega,KE h⟩,by omega⟩
def S2(L2:List Nat)(place:Nat)(dict:Int)(j:Nat):Prop:=(j:Int)≤dict∧jr place L2 j
theorem SQ{L n k:Nat}(h:dY (S4 d place dict) (xI d place L) n k)(h4:4≤n):(n,k)=eY (xI d place L) (depth place dict):=by
 have h1:=h.all (m:=4) (fun j hj=>ah7 hj) (fun j a b c=>adz a b c) h4 (by decide)
 obtain⟨e1,e2⟩:=h1.unique (mG _ _)
 rw[e1,e2]
theorem abH{L n k:Nat}(h:dY (S4 d place dict) (xI d place L) n k)(h4:n<4): ∀j,1≤j→j≤depth place dict→xI d place L j≤3:=by
 intro j h1 h2
 rcases Nat.lt_or_ge (xI d place L j) 4 with h3 | h3
 ·omega
 ·have:=h.le j (adz h1 h2 h3);omega
theorem Gu{L2:List Nat}{L M n k:Nat}(hL2: ∀x,x∈L2↔x<place∧d.getD x 0=d.getD place 0∧d.getD (x+1) 0=d.getD (place+1) 0)(hM:2≤M)(SV:M≤L)(hf: ∀j,1≤j→j≤depth place dict→xI d place L j≤M)
  (h:dY (S2 L2 place dict) (xI d place M) n k):(n,k)=if(eY (xI d place L) (depth place dict)).1<2 then(0,0)else eY (xI d place L) (depth place dict):=by
 have hin: ∀j,S2 L2 place dict j→1≤j∧j≤depth place dict:=by
  rintro _ ⟨h1,x,hx,rfl⟩
  have:=((hL2 x).1 hx).1
  unfold depth;omega
 have he: ∀j,1≤j→j≤depth place dict→xI d place M j=xI d place L j:=fun j h1 h2=>by
  have:=hf j h1 h2
  unfold xI at this ⊢
  rw[KC SV];omega
 have hof: ∀j,1≤j→j≤depth place dict→2≤xI d place L j→S2 L2 place dict j:=fun j h1 h2 h3=>by
  unfold depth at h2
  obtain⟨p1,p2⟩:=KF h3
  exact⟨by omega,place-j,(hL2 _).2 ⟨by omega,p1,p2⟩,by omega⟩
 have h2:dY (S2 L2 place dict) (xI d place L) n k:=by
  refine⟨fun j hj=> ?_,fun j hj hlt=> ?_,h.at_.imp id fun⟨a,b,c⟩=>⟨a,?_,c⟩⟩
  ·obtain⟨a,b⟩:=hin j hj;rw[←he j a b];exact h.le j hj
  ·obtain⟨a,b⟩:=hin j hj;rw[←he j a b];exact h.lt j hj hlt
  ·obtain⟨a',b'⟩:=hin k a;rw[←he k a' b'];exact b
 have hB:=mG (xI d place L) (depth place dict)
 by_cases hn:2≤n
 ·obtain⟨e1,e2⟩:=(h2.all (m:=2) hin hof hn (by decide)).unique hB
  rw[if_neg (by omega),e1,e2]
 ·have hn0:n=0∧k=0:=by
   rcases h2.at_ with e | ⟨a,b,c⟩
   ·exact e
   ·exfalso
    obtain⟨_,x,hx,e⟩:=a
    obtain⟨x1,x2,x3⟩:=(hL2 x).1 hx
    have:2≤xI d place L k:=by
     have hk:place-k=x:=by omega
     unfold xI;rw[hk]
     have hl:=fK d L place x
     rcases Nat.lt_or_ge (aX d place x L) 2 with g | g
     ·exfalso
      rcases hl.stop with e1 | e1
      ·omega
      ·have:aX d place x L=0∨aX d place x L=1:=by omega
       rcases this with e2 | e2<;>rw[e2]at e1
       ·exact e1 x2.symm
       ·exact e1 x3.symm
     ·exact g
    omega
  have:(eY (xI d place L) (depth place dict)).1<2:=by
   rcases hB.at_ with⟨e,_⟩ | ⟨a,b,c,e⟩
   ·omega
   ·rcases Nat.lt_or_ge (eY (xI d place L) (depth place dict)).1 2 with g | g
    ·exact g
    ·have:=h2.le _ (hof _ a b (by omega));omega
  rw[if_pos this,hn0.1,hn0.2]
theorem SX{x y:UInt8}{h:Nat}(hx:d.getD place 0=x)(hy:d.getD (place+1) 0=y)(hp:place+1<d.length)(hh:h≤(places d x y (d.length-1)).length)
  (hlo: ∀q (_:q<(places d x y (d.length-1)).length),q<h→(places d x y (d.length-1))[q]<place) (hhi: ∀q (_:q<(places d x y (d.length-1)).length),h≤q→place≤(places d x y (d.length-1))[q]):
  (∀z,z∈((places d x y (d.length-1)).take h).reverse↔z<place∧d.getD z 0=d.getD place 0∧d.getD (z+1) 0=d.getD (place+1) 0)∧((places d x y (d.length-1)).take h).reverse.Pairwise (· > ·):=by
 constructor
 ·intro z
  rw[List.mem_reverse,hx,hy]
  constructor
  ·intro hz
   obtain⟨q,hq,e⟩:=List.mem_iff_getElem.1 hz
   rw[List.length_take]at hq
   rw[List.getElem_take]at e
   have h1:=hlo q (by omega) (by omega)
   have h2:=mem_places.1 (List.mem_of_mem_take hz)
   exact⟨by omega,h2.2⟩
  ·rintro⟨h1,h2,h3⟩
   have hm:z∈places d x y (d.length-1):=mem_places.2 ⟨by omega,h2,h3⟩
   obtain⟨q,hq,e⟩:=List.mem_iff_getElem.1 hm
   rcases Nat.lt_or_ge q h with g | g
   ·refine List.mem_iff_getElem.2 ⟨q,by rw[List.length_take];omega,?_⟩
    rw[List.getElem_take];exact e
   ·have:=hhi q hq g;omega
 ·rw[List.pairwise_reverse]
  exact((zW d x y (d.length-1)).sublist (List.take_sublist _ _)).imp fun h=>h
end
end
section
open Go.ChangeMaps Go.MapKept Go.ChangeShapes Go.RowKit
open Go.WideElems (Fit rd rg pl rd_val elemAt)
open Go.Maps (Keyed)
open Go.WideMaps (KeyLaw)
section
variable{H:Type}{P:Program}{w w':World}{t k E e:TypeId}{R:Value→Option (DataW H×List MemPlace)}{b:Nat}{es es':Array MapEntry}{clock clock':Nat}
theorem zh{l:List MapEntry}(hn:(l.map (·.key)).Nodup){i j:Nat}{x y:MapEntry}(hx:l[i]? =some x)(hy:l[j]? =some y)(e:x.key=y.key):i=j:=by
 have hi:=(List.getElem?_eq_some_iff.1 hx).1
 refine(List.getElem?_inj (l:=l.map (·.key)) (by simpa using hi) hn).1 ?_
 simp[hx,hy,e]
theorem SY{l:List MapEntry}(hn:(l.map (·.key)).Nodup){x y:MapEntry}(hx:x∈l)(hy:y∈l)(e:x.key=y.key):x=y:=by
 obtain⟨i,hi⟩:=List.getElem?_of_mem hx
 obtain⟨j,hj⟩:=List.getElem?_of_mem hy
 have:=zh hn hi hj e
 subst this
 rw[hi]at hj
 exact Option.some.inj hj
theorem pK(hb:w.heap[b]? =some (.map es clock)){a a':Array MapEntry}{c c':Nat}(h:(Result.ok () (setBlock w b (.map a c)):Result Unit)= .ok () (setBlock w b (.map a' c'))):a=a'∧c=c':=by
 have h1:setBlock w b (.map a c)=setBlock w b (.map a' c'):=by injection h
 have h2:=heap_setBlock_same hb (.map a c)
 rw[h1,heap_setBlock_same hb]at h2
 simp at h2
 exact⟨h2.1.symm,h2.2.symm⟩
theorem Iz(K:KeyLaw P k)(ht:P.underlying t=some (.map k e))(F:Fit P k R es clock)(hb:w.heap[b]? =some (.map es clock))(hb':w'.heap[b]? =some (.map es clock)){key val:Value}{kl:Lit}(hkey:keyOf P k key=some kl)
  (h:(Instr.mapUpdate t (.map (some b)) key val).run P w= .ok () (setBlock w b (.map es' clock'))):(Instr.mapUpdate t (.map (some b)) key val).run P w'= .ok () (setBlock w' b (.map es' clock')):=by
 obtain⟨_,_,s3⟩:=F.stamped
 rcases K.find w hkey es.toList F.keys with⟨h1,h2⟩ | ⟨j,e0,h1,h2,h3⟩
 ·have e1:(Instr.mapUpdate t (.map (some b)) key val).run P w= .ok () (setBlock w b (.map (es.push ⟨key,val,clock⟩) (clock+1))):=by
   simp[Instr.mapUpdate,run_underlying ht,MapKept.run_getObj_map hb,K.check w false hkey,h1,MapKept.run_setObj_map _ hb,Result.andThen,setBlock]
  obtain⟨rfl,rfl⟩:=pK hb (h.symm.trans e1)
  rcases K.find w' hkey es.toList F.keys with⟨g1,g2⟩ | ⟨j',e0',g1,g2,g3⟩
  ·simp[Instr.mapUpdate,run_underlying ht,MapKept.run_getObj_map hb',K.check w' false hkey,g1,MapKept.run_setObj_map _ hb',Result.andThen,setBlock]
  ·exact absurd g3 (h2 _ (List.mem_of_getElem? g2))
 ·have hj:es[j]? =some e0:=by simpa using h2
  have e1:(Instr.mapUpdate t (.map (some b)) key val).run P w= .ok () (setBlock w b (.map (es.modify j (fun e'=>{e' with key:=key,val:=val})) clock)):=by
   simp[Instr.mapUpdate,run_underlying ht,MapKept.run_getObj_map hb,K.check w false hkey,h1,hj,h3,K.stays w hkey,MapKept.run_setObj_map _ hb,Result.andThen,setBlock]
  obtain⟨rfl,rfl⟩:=pK hb (h.symm.trans e1)
  rcases K.find w' hkey es.toList F.keys with⟨g1,g2⟩ | ⟨j',e0',g1,g2,g3⟩
  ·exact absurd h3 (g2 _ (List.mem_of_getElem? h2))
  ·have:=zh s3 h2 g2 (h3.trans g3.symm)
   subst this
   rw[h2]at g2
   obtain rfl:=Option.some.inj g2
   simp[Instr.mapUpdate,run_underlying ht,MapKept.run_getObj_map hb',K.check w' false hkey,g1,hj,h3,K.stays w' hkey,MapKept.run_setObj_map _ hb',Result.andThen,setBlock]
theorem Oq(K:KeyLaw P k)(ht:P.underlying t=some (.map k e)){z:Value}(hz: ∀u:World,(zeroValue e).run P u= .ok z u)(F:Fit P k R es clock)(hb:w.heap[b]? =some (.map es clock))(hb':w'.heap[b]? =some (.map es clock)){key v:Value}{kl:Lit}(hkey:keyOf P k key=some kl)
  (h:(Instr.lookup t (.map (some b)) key false).run P w= .ok v w):(Instr.lookup t (.map (some b)) key false).run P w'= .ok v w':=by
 obtain⟨_,_,s3⟩:=F.stamped
 rcases K.find w hkey es.toList F.keys with⟨h1,h2⟩ | ⟨j,e0,h1,h2,h3⟩
 ·have e1:(Instr.lookup t (.map (some b)) key false).run P w= .ok z w:=by
   simp[Instr.lookup,run_underlying ht,MapKept.run_getObj_map hb,K.check w _ hkey,h1,hz,Result.andThen]
  rw[e1]at h
  obtain rfl:z=v:=by injection h
  rcases K.find w' hkey es.toList F.keys with⟨g1,g2⟩ | ⟨j',e0',g1,g2,g3⟩
  ·simp[Instr.lookup,run_underlying ht,MapKept.run_getObj_map hb',K.check w' _ hkey,g1,hz,Result.andThen]
  ·exact absurd g3 (h2 _ (List.mem_of_getElem? g2))
 ·have e1:(Instr.lookup t (.map (some b)) key false).run P w= .ok e0.val w:=by
   simp[Instr.lookup,run_underlying ht,MapKept.run_getObj_map hb,K.check w _ hkey,h1,Result.andThen]
  rw[e1]at h
  obtain rfl:e0.val=v:=by injection h
  rcases K.find w' hkey es.toList F.keys with⟨g1,g2⟩ | ⟨j',e0',g1,g2,g3⟩
  ·exact absurd h3 (g2 _ (List.mem_of_getElem? h2))
  ·have:=zh s3 h2 g2 (h3.trans g3.symm)
   subst this
   rw[h2]at g2
   obtain rfl:=Option.some.inj g2
   simp[Instr.lookup,run_underlying ht,MapKept.run_getObj_map hb',K.check w' _ hkey,g1,Result.andThen]
theorem Df(w:World)(b:Nat)(o o':Obj):setBlock (setBlock w b o) b o'=setBlock w b o':=by
 simp[setBlock]
variable{base n:Nat}{q:IntKind}{D:DataW H}
theorem IB(h:w.ownsGroups (H:=H) P k base e q b n D)(K:KeyLaw P k)(ht:P.underlying t=some (.map k E))(hz: ∀u:World,(zeroValue E).run P u= .ok (.slice none 0 0) u)(hn:n<maxLen){key:Value}{kl:Lit}(hkey:keyOf P k key=some kl):
  ∃(v:Value) (zs:List Int) (st:Nat) (w1:World),(Instr.mapEntry t (.map (some b)) key).run P w= .ok (.tuple #[v,goInt st]) w1∧w.grownBy w1 (some b)∧D.atKey kl .nil=rowDatum q v zs∧w1.ownsInts base e q v zs∧zs.length≤n∧
   ∀(w2:World) (v':Value) (zs':List Int),w1.grownBy w2 v.ownBlock→w2.ownsInts base e q v' zs'→zs'.length≤n+1→(v'.ownBlock=v.ownBlock∨ ∃g,v'.ownBlock=some g∧w.heap.size≤g)→
    ∃w3,(Instr.entryStore t (.map (some b)) (goInt st) v').run P w2= .ok () w3∧w3.ownsGroups (H:=H) P k base e q b (n+1) (D.put kl (rowDatum q v' zs'))∧w2.grownBy w3 (some b):=by
 obtain⟨es,clock,hb,F,hs,rfl,hbb,hlen,hap⟩:=h
 have hblt:b<w.heap.size:=(Array.getElem?_eq_some_iff.1 hb).1
 obtain⟨_,_,s3⟩:=F.stamped
 obtain⟨v0,st,es1,clock1,hrun,hv0,aeX⟩:=WideElems.entry_then_store K ht hz hb F hkey
 have hg1:w.grownBy (setBlock w b (.map es1 clock1)) (some b):=⟨rfl,rfl,rfl,by simp[setBlock],fun i _ hi=>heap_setBlock_other hb _ (fun e1=>hi (by rw[e1]))⟩
 have hboth: ∃zs,(DataW.map ((es.toList.map (rg P k (rowElem (H:=H) w base e q))).foldr DataW.insert [])).atKey kl .nil=rowDatum q v0 zs∧w.ownsInts base e q v0 zs∧zs.length≤n∧
   (∀x∈es.toList,x.key≠key→x.val.ownBlock=none∨x.val.ownBlock≠v0.ownBlock)∧v0.ownBlock≠some b:=by
  rcases Maps.fit_look false (Keyed.of_law K) ht (hz w) hb F hkey with⟨_,hno,hat⟩ | ⟨e0,y,hm0,h3,_,hR,hat,_⟩
  ·rcases hv0 with⟨e0,he0,hk0,_⟩ | ⟨_,rfl⟩
   ·exact absurd hk0 (hno e0 he0)
   ·exact⟨[],hat _,World.ownsInts_nil _ _ _ _,Nat.zero_le _,fun x _ _=>by cases x.val.ownBlock<;>simp[Value.ownBlock],by simp[Value.ownBlock]⟩
  ·rcases hv0 with⟨e1,he1,hk1,rfl⟩ | ⟨hno,_⟩
   ·obtain rfl:=SY s3 hm0 he1 (h3.trans hk1.symm)
    obtain⟨zs,ho,rfl⟩:=rowElem_inv hR
    exact⟨zs,hat _,ho,hlen e0 hm0 zs ho,fun x hx hne=>hap x hx e0 hm0 (by rw[h3];exact hne),fun e1=>by have:=(ho.1.lt b e1).1;omega⟩
   ·exact absurd h3 (hno e0 hm0)
 obtain⟨zs,hat,hoi,hzl,hapart,hvb⟩:=hboth
 have hback:=groups_back (Keyed.of_law K) ht hb F hs hn hbb hlen hap hkey hapart hvb
 have hne0:v0.ownBlock=none∨v0.ownBlock≠some b:= .inr hvb
 refine⟨v0,zs,st,_,hrun,hg1,hat,hoi.kept hg1 hne0,hzl,fun w2 v' zs' hg hown hl hloc=> ?_⟩
 have hb1:(setBlock w b (.map es1 clock1)).heap[b]? =some (.map es1 clock1):=heap_setBlock_same hb _
 have hsz1:(setBlock w b (.map es1 clock1)).heap.size=w.heap.size:=by simp[setBlock]
 have hb2:w2.heap[b]? =some (.map es1 clock1):=(hg.block b (by rw[hsz1];exact hblt) (fun e1=>hvb e1.symm)).trans hb1
 obtain⟨es',clock',hst,hup⟩:=aeX w2 v' hb2
 have hbR:(setBlock w2 b (.map es clock)).heap[b]? =some (.map es clock):=heap_setBlock_same hb2 _
 have hgR:w.grownBy (setBlock w2 b (.map es clock)) v0.ownBlock:=by
  refine⟨hg.os,hg.tape,hg.output,?_,fun i hi hne=> ?_⟩
  ·have:=hg.size;rw[hsz1]at this;simpa [setBlock]using this
  ·by_cases hib:i=b
   ·subst hib;rw[hbR,hb]
   ·rw[heap_setBlock_other hb2 _ hib,hg.block i (by rw[hsz1];exact hi) hne,heap_setBlock_other hb _ hib]
 have amb:w2.grownBy (setBlock w2 b (.map es clock)) (some b):=⟨rfl,rfl,rfl,by simp[setBlock],fun i _ hi=>heap_setBlock_other hb2 _ (fun e1=>hi (by rw[e1]))⟩
 have amc:v'.ownBlock=none∨v'.ownBlock≠some b:=by
  cases hv':v'.ownBlock with
  | none=>exact .inl rfl
  | some g=>
   refine .inr fun e1=> ?_
   have:=(hown.1.lt g hv').1
   cases e1
   omega
 obtain⟨wu,hu1,hu2,_⟩:=hback _ v' zs' hgR (hown.kept amb amc) hl hloc
 have hu3:=Iz K ht F hb hbR hkey hup
 rw[hu1,Df]at hu3
 have hu4:wu=setBlock w2 b (.map es' clock'):=by injection hu3
 subst hu4
 exact⟨_,hst,hu2,⟨rfl,rfl,rfl,by simp[setBlock],fun i _ hi=>heap_setBlock_other hb2 _ (fun e1=>hi (by rw[e1]))⟩⟩
end
end
end Go.Proofs.YtgfpocdiojifoaaGreatDoor
