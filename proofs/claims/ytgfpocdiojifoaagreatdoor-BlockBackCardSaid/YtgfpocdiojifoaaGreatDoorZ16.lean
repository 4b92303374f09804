import Derived.Test.YtgfpocdiojifoaaGreatDoorZ15
import Derived.Lib.MinMax
import Derived.Maps.OwnOps
import Derived.Shelf.Abstract
import Derived.Shelf.RegionOpen
import Derived.OwnWalkIn
import Derived.TacticsInMore
import Derived.LoopNIn
import Derived.LoopIn
namespace Go.Proofs.YtgfpocdiojifoaaGreatDoor
set_option maxRecDepth 100000
set_option maxHeartbeats 8000000
open Go.RowKit
structure dH(w:World)(F:Nat)(A:Option Addr)(c:Nat)(d:List UInt8)(dict nice:Int)(mp:Nat)(v4:Value):Prop where
 box:w.heap[F]? =some (.cells [.slice A d.length c,.int .i64 dict,.int .i64 nice,.map (some mp),v4].toArray 113 (0,0))
 bytes:Bytes w A d
 cap:d.length≤c
 small:d.length≤100000
theorem dH.lt{w:World}{F:Nat}{A:Option Addr}{c:Nat}{d:List UInt8}{dict nice:Int}{mp:Nat}{v4:Value}(h:dH w F A c d dict nice mp v4):F<w.heap.size:=(Array.getElem?_eq_some_iff.1 h.box).1
theorem dH.below{w w':World}{F:Nat}{A:Option Addr}{c:Nat}{d:List UInt8}{dict nice:Int}{mp:Nat}{v4:Value}(h:dH w F A c d dict nice mp v4)(hb:Below w.heap.size w w'):dH w' F A c d dict nice mp v4:=
 ⟨(hb.block _ h.lt).trans h.box,h.bytes.below hb,h.cap,h.small⟩
theorem dH.drewN{w:World}{F:Nat}{A:Option Addr}{c:Nat}{d:List UInt8}{dict nice:Int}{mp:Nat}{v4:Value}(h:dH w F A c d dict nice mp v4)(m:Nat):dH (w.drewN m) F A c d dict nice mp v4:=h.below (below_drewN (Below.refl _ _) m)
theorem dH.cells{w:World}{F:Nat}{A:Option Addr}{c:Nat}{d:List UInt8}{dict nice:Int}{mp:Nat}{v4:Value}(h:dH w F A c d dict nice mp v4):w.cell? ⟨F,0,none⟩=some (.slice A d.length c)∧w.cell? ⟨F,1,none⟩=some (.int .i64 dict)∧w.cell? ⟨F,2,none⟩=some (.int .i64 nice)∧w.cell? ⟨F,3,none⟩=some (.map (some mp))∧w.cell? ⟨F,4,none⟩=some v4:=by
 refine⟨?_,?_,?_,?_,?_⟩<;>(rw[cell_of_row w F _ _ _ _ h.box];rfl)
theorem KD(F:Nat)(A:Option Addr)(c:Nat)(d:List UInt8)(dict nice:Int)(mp:Nat)(v4:Value)(p q:Nat)(lm:Int)(w:World)(hF:dH w F A c d dict nice mp v4)(hp:p+lm.toNat≤d.length)(hq:q≤p):
  Calls Tryz.prog 202 #[PF F,.int .i64 (p:Nat),.int .i64 (q:Nat),.int .i64 lm] w fun e w'=>e= .returned (.int .i64 (aX d p q lm.toNat:Nat))∧ ∃m,w'=w.drewN m:=by
 obtain⟨c0,_,_,_,_⟩:=hF.cells
 have HAD:=Lib.hid (fun(h:0<d.length)=>hF.bytes.addr h)
 have Fb:(d.length:Int)≤100000:=by have:=hF.small;omega
 have hci:(d.length:Int)≤(c:Int):=by have:=hF.cap;omega
 obtain⟨L,hL⟩: ∃L,lm.toNat=L:=⟨_,rfl⟩
 rw[hL]at hp ⊢
 have HL:Hid (∀n:Nat,n<L↔(n:Int)<lm):=Lib.hid (fun n=>by omega)
 have HU:=Lib.hid (fun n (h:zT d p q L n)=>h.is)
 obtain⟨E,hE⟩: ∃E,aX d p q L=E:=⟨_,rfl⟩
 rw[hE]at HU ⊢
 have HPQ:=Lib.hid (And.intro hp hq)
 clear hF hL hE hp hq
 go_enter Tryz.func202,Tryz.ntmps202
 go_wp2_with fail
 go_loopw [9] (fun i wr=> ∃(n m:Nat),n≤L∧i= .int .i64 (n:Nat)∧Hid (∀i,i<n→d.getD (p+i) 0=d.getD (q+i) 0)∧wr=w.drewN m) (fun i _=>L-(intOf i).toNat)
 case atStart=>exact⟨0,0,by omega,rfl,Lib.hid (fun i h=>by cases h),rfl⟩
 case round=>
  obtain⟨n,m,hn,rfl,Oh,rfl⟩:=hrel
  by_cases hnl:n<L
  ·have h1:=(HL.out n).1 hnl
   obtain⟨b,off,rfl,_,hat⟩:=HAD.out (by have:=HPQ.out;omega)
   obtain⟨x,hx⟩: ∃x:Nat,p+n=x:=⟨_,rfl⟩
   have hxi:(p:Int)+(n:Int)=(x:Int):=by omega
   obtain⟨y,hy⟩: ∃y:Nat,q+n=y:=⟨_,rfl⟩
   have hyi:(q:Int)+(n:Int)=(y:Int):=by omega
   have hxl:(x:Int)<(d.length:Int):=by have:=HPQ.out;omega
   have hyl:(y:Int)<(d.length:Int):=by have:=HPQ.out;omega
   have cx:=hat x (by omega)
   have cy:=hat y (by omega)
   have HX:Hid (p+n=x∧q+n=y):=Lib.hid ⟨hx,hy⟩
   have hni:(n:Int)≤100000:=by omega
   have e1:=dQ (d:=d) (i:=x) (by omega)
   have e2:=dQ (d:=d) (i:=y) (by omega)
   generalize d[x]'(by omega)=u at*
   generalize d[y]'(by omega)=v at*
   have Oi:=Lib.hid (And.intro e1 e2)
   clear e1 e2 hx hy hat HAD
   by_cases huv:u=v
   ·have al4:((u.toNat:Int)==(v.toNat:Int))=true:=by rw[huv];simp
    have HQ:Hid (∀i,i<n+1→d.getD (p+i) 0=d.getD (q+i) 0):=Lib.hid (fun i hi=>by
     rcases Nat.lt_or_ge i n with h | h
     ·exact Oh.out i h
     ·obtain rfl:i=n:=by omega
      rw[HX.out.1,HX.out.2,Oi.out.1,Oi.out.2,huv])
    clear huv
    go_wp2_with fail
    go_quiet (fail)
    go_wp2_with fail
    exact⟨⟨n+1,_,by omega,by go_num,HQ,rfl⟩,by simp[intOf];omega⟩
   ·have al4:((u.toNat:Int)==(v.toNat:Int))=false:=by
     rw[beq_eq_false_iff_ne];intro h;exact huv (UInt8.toNat_inj.1 (by omega))
    have HN:Hid (n=E):=Lib.hid (HU.out n ⟨by omega,Oh.out,.inr (by rw[HX.out.1,HX.out.2,Oi.out.1,Oi.out.2];exact huv)⟩)
    clear huv
    go_wp2_with fail
    go_quiet (fail)
    go_wp2_with fail
    go_ret
    exact⟨by rw[HN.out];rfl,_,World.drewN_drewN ..⟩
  ·obtain rfl:n=L:=by omega
   have HN:Hid (n=E):=Lib.hid (HU.out n ⟨by omega,Oh.out,.inl rfl⟩)
   have h1:decide ((n:Int)<lm)=false:=decide_eq_false (mt (HL.out n).2 hnl)
   clear HAD hnl hn
   go_wp2_with fail
   go_quiet (fail)
   go_wp2_with fail
   go_ret
   exact⟨by rw[HN.out];rfl,_,World.drewN_drewN ..⟩
def hasB(d:List UInt8)(place:Int):Bool:=decide (0≤place)&&decide (place<(d.length:Int))
theorem QU(F:Nat)(A:Option Addr)(c:Nat)(d:List UInt8)(dict nice:Int)(mp:Nat)(v4:Value)(place:Int)(w:World)(hF:dH w F A c d dict nice mp v4):
  Calls Tryz.prog 198 #[PF F,.int .i64 place] w fun e w'=>e= .returned (.bool (hasB d place))∧w=w':=by
 obtain⟨c0,_,_,_,_⟩:=hF.cells
 clear hF
 unfold hasB
 by_cases h1:0≤place
 ·by_cases h2:place<(d.length:Int)
  ·have e:(decide (0≤place)&&decide (place<(d.length:Int)))=true:=by simp[h1,h2]
   rw[e]
   clear e
   go_enter Tryz.func198,Tryz.ntmps198
   go_wp2_with fail
   go_ret
   exact⟨rfl,rfl⟩
  ·have e:(decide (0≤place)&&decide (place<(d.length:Int)))=false:=by simp[h2]
   rw[e]
   clear e
   go_enter Tryz.func198,Tryz.ntmps198
   go_wp2_with fail
   go_ret
   exact⟨rfl,rfl⟩
 ·have e:(decide (0≤place)&&decide (place<(d.length:Int)))=false:=by simp[h1]
  rw[e]
  clear e
  go_enter Tryz.func198,Tryz.ntmps198
  go_wp2_with fail
  go_ret
  exact⟨rfl,rfl⟩
def fQ(d:List UInt8)(dict place dist most:Int):Nat:=
 if 0≤place∧place<(d.length:Int)∧1≤dist∧dist≤place∧dist≤dict then aX d place.toNat (place.toNat-dist.toNat) (lim d place.toNat (min 273 most))else 0
theorem CU(F:Nat)(A:Option Addr)(c:Nat)(d:List UInt8)(dict nice:Int)(mp:Nat)(v4:Value)(place dist most:Int)(w:World)(hF:dH w F A c d dict nice mp v4):
  Calls Tryz.prog 161 #[PF F,.int .i64 place,.int .i64 dist,.int .i64 most] w fun e w'=>e= .returned (.int .i64 (fQ d dict place dist most:Nat))∧ ∃m,w'=w.drewN m:=by
 obtain⟨c0,c1,_,_,_⟩:=hF.cells
 have HH:=Lib.hid (QU F A c d dict nice mp v4 place w hF)
 have Fb:(d.length:Int)≤100000:=by have:=hF.small;omega
 have hln:d.length≤100000:=hF.small
 unfold fQ
 by_cases h1:0≤place∧place<(d.length:Int)
 case neg=>
  have hh:hasB d place=false:=by
   unfold hasB
   cases h:(decide (0≤place)&&decide (place<(d.length:Int)))with
   | false=>rfl
   | true=>simp at h;exact absurd h h1
  rw[hh]at HH
  rw[if_neg (fun h=>h1 ⟨h.1,h.2.1⟩)]
  clear h1 hh hF
  go_enter Tryz.func161,Tryz.ntmps161
  go_wp2_with fail
  refine HH.out.mono ?_
  rintro e w1 ⟨rfl,rfl⟩
  go_wp2_with fail
  go_ret
  exact⟨rfl,0,rfl⟩
 have hh:hasB d place=true:=by unfold hasB;simp[h1.1,h1.2]
 rw[hh]at HH
 by_cases h2:1≤dist
 case neg=>
  rw[if_neg (fun h=>h2 h.2.2.1)]
  have b2:decide (dist<1)=true:=decide_eq_true (by omega)
  clear h1 hh hF h2
  go_enter Tryz.func161,Tryz.ntmps161
  go_wp2_with fail
  refine HH.out.mono ?_
  rintro e w1 ⟨rfl,rfl⟩
  go_wp2_with fail
  go_ret
  exact⟨rfl,0,rfl⟩
 have b2:decide (dist<1)=false:=decide_eq_false (by omega)
 obtain⟨MN,hmn⟩: ∃MN:Int,min place dict=MN:=⟨_,rfl⟩
 by_cases h3:dist≤place∧dist≤dict
 case neg=>
  rw[if_neg (fun h=>h3 ⟨h.2.2.2.1,h.2.2.2.2⟩)]
  have b3:decide (MN<dist)=true:=decide_eq_true (by omega)
  clear h1 hh hF h2 h3
  go_enter Tryz.func161,Tryz.ntmps161
  go_wp2_with fail
  refine HH.out.mono ?_
  rintro e w1 ⟨rfl,rfl⟩
  go_wp2_with fail
  go_ret
  exact⟨rfl,0,rfl⟩
 have b3:decide (MN<dist)=false:=decide_eq_false (by omega)
 rw[if_pos ⟨h1.1,h1.2,h2,h3.1,h3.2⟩]
 obtain⟨p,hp⟩: ∃p:Nat,place=(p:Int):=⟨place.toNat,by omega⟩
 obtain⟨k,hk⟩: ∃k:Nat,dist=(k:Int):=⟨dist.toNat,by omega⟩
 subst hp;subst hk
 simp only[Int.toNat_natCast]
 obtain⟨q,hq⟩: ∃q:Nat,p-k=q:=⟨_,rfl⟩
 have hqi:(p:Int)-(k:Int)=(q:Int):=by omega
 have hpi:(p:Int)≤100000:=by omega
 have hp2:(p:Int)<(d.length:Int):=h1.2
 have hki:(k:Int)≤(p:Int):=h3.1
 obtain⟨E,hE⟩: ∃E,aX d p (p-k) (lim d p (min 273 most))=E:=⟨_,rfl⟩
 rw[hE]
 obtain⟨X,hX⟩: ∃X:Int,(d.length:Int)-(p:Int)=X:=⟨_,rfl⟩
 have key: ∀M:Int,min (min 273 most) X=M→Hid (Calls Tryz.prog 202 #[PF F,.int .i64 (p:Nat),.int .i64 (q:Nat),.int .i64 M] w fun e w'=>e= .returned (.int .i64 (E:Nat))∧ ∃m,w'=w.drewN m):=fun M hM=>Lib.hid (by
  have h:=KD F A c d dict nice mp v4 p q M w hF (by omega) (by omega)
  have e:aX d p q M.toNat=E:=by rw[←hE,hq];congr 1;unfold lim;rw[hX,hM]
  rw[e]at h;exact h)
 clear h1 hh hF h2 h3 hq hE
 by_cases g1:most<273
 ·by_cases g2:X<most
  ·have HSA:=key X (by omega)
   clear key
   go_enter Tryz.func161,Tryz.ntmps161
   go_wp2_with fail
   refine HH.out.mono ?_
   rintro e w1 ⟨rfl,rfl⟩
   go_wp2_with fail
   refine HSA.out.mono ?_
   rintro e w1 ⟨rfl,m,rfl⟩
   go_wp2_with fail
   go_ret
   exact⟨rfl,_,rfl⟩
  ·have HSA:=key most (by omega)
   clear key
   go_enter Tryz.func161,Tryz.ntmps161
   go_wp2_with fail
   refine HH.out.mono ?_
   rintro e w1 ⟨rfl,rfl⟩
   go_wp2_with fail
   refine HSA.out.mono ?_
   rintro e w1 ⟨rfl,m,rfl⟩
   go_wp2_with fail
   go_ret
   exact⟨rfl,_,rfl⟩
 ·by_cases g2:X<273
  ·have HSA:=key X (by omega)
   clear key
   go_enter Tryz.func161,Tryz.ntmps161
   go_wp2_with fail
   refine HH.out.mono ?_
   rintro e w1 ⟨rfl,rfl⟩
   go_wp2_with fail
   refine HSA.out.mono ?_
   rintro e w1 ⟨rfl,m,rfl⟩
   go_wp2_with fail
   go_ret
   exact⟨rfl,_,rfl⟩
  ·have HSA:=key 273 (by omega)
   clear key
   go_enter Tryz.func161,Tryz.ntmps161
   go_wp2_with fail
   refine HH.out.mono ?_
   rintro e w1 ⟨rfl,rfl⟩
   go_wp2_with fail
   refine HSA.out.mono ?_
   rintro e w1 ⟨rfl,m,rfl⟩
   go_wp2_with fail
   go_ret
   exact⟨rfl,_,rfl⟩
section
open Go.RowKit Go.Maps
theorem CV{w:World}{base n:Nat}{t:TypeId}{g:Nat}{xs:List Value}(h:w.ownsRow base t 1 (.slice (some ⟨g,0,none⟩) n n) n xs):w.heap[g]? =some (.cells xs.toArray t (0,0)):=by
 obtain⟨hl,⟨h,_⟩ | ⟨g',cap,cur,e,_,hg,_,_,hsz,ht⟩⟩:=h
 ·cases h
 ·injection e with e1 _ e3
  injection e1 with e1
  injection e1 with e1
  subst e1;subst e3
  rw[Nat.mul_one]at hl hsz ht
  have:cur.toList=xs:=by rw[←ht,List.take_of_length_le (by simp;omega)]
  rw[hg,←this]
theorem abB(n:Nat):(madeCells (Value.int .i32 0).cells (n*1)).toList=List.replicate n (Value.int .i32 0):=by
 rw[Nat.mul_one,show(Value.int .i32 0).cells= #[Value.int .i32 0]from rfl,toList_madeCells_one]
theorem abC:(Tryz.prog.info? 21).map (fun i=>(i.zero,i.size,i.bytes))=some (some (.int .i32 0),1,4):=by kernel_rfl
theorem AB{ops:Array Oper}{rest:List Oper}{o:Oper}{a:Act}{Q:Exit→Act→World→Prop}(hgd:o.guard=none)(x y:Operand)(ho:o.op= .makeSlice 111 x y)
  (n:Nat) (w:World) (hx:a.eval x= .int .i64 (n:Nat)) (hy:a.eval y= .int .i64 (n:Nat)) (hn:n≤1000000)
  (h: ∀w',w'.heap[w.heap.size]? =some (.cells (List.replicate n (Value.int .i32 0)).toArray 21 (0,0))→w.grownBy w' none→wpList Tryz.prog ops Q rest (a.put o.dst (.slice (some ⟨w.heap.size,0,none⟩) n n)) w'):wpList Tryz.prog ops Q (o::rest) a w:=by
 refine wpList_plain hgd fun K hK=> ?_
 obtain⟨i,hi,hz0,hz1,hz2⟩:=info_parts abC
 obtain⟨w',hr,h1,h2⟩:=run_make_full (P:=Tryz.prog) w w.heap.size 111 21 i (.int .i32 0) 1 Tryz.underlying111 hi hz0 hz1 .i64 .i64 n (by rw[hz2];omega) (by unfold maxLen;omega) (Nat.le_refl _)
 rw[abB]at h1
 unfold Oper.wp execOp
 simp only[ho,hx,hy,Sem.run_bind,Sem.run_pure,Result.andThen_ok,hr]
 exact hK _ _ (h w' (CV h1) h2)
def four(d:List UInt8)(i:Nat):UInt8×UInt8×UInt8×UInt8:=(d.getD i 0,d.getD (i+1) 0,d.getD (i+2) 0,d.getD (i+3) 0)
def bC(d:List UInt8)(x:UInt8×UInt8×UInt8×UInt8):Nat→Int
 | 0=> -1
 | n+1=>if four d n=x then(n:Int)else bC d x n
theorem kU(d:List UInt8)(x:UInt8×UInt8×UInt8×UInt8): ∀n,-1≤bC d x n∧bC d x n<(n:Int)∨n=0∧bC d x n= -1
 | 0=> .inr ⟨rfl,rfl⟩
 | n+1=>by
  unfold bC
  split
  ·left;omega
  ·rcases kU d x n with h | ⟨h,e⟩
   ·left;omega
   ·left;rw[e];omega
def jL(d:List UInt8)(n:Nat):List Value:=(List.range n).map fun i=>Value.int .i32 (bC d (four d i) i)
def iM(w:World)(b:Nat)(d:List UInt8)(n:Nat):Prop:=
 ∃D:DataW Unit,w.ownsMap Tryz.prog 191 (plainElem Tryz.prog 21) b n D∧
  ∀x:UInt8×UInt8×UInt8×UInt8,(Maps.has D (Og x.1 x.2.1 x.2.2.1 x.2.2.2)=true↔0≤bC d x n)∧(0≤bC d x n→D.atKey (Og x.1 x.2.1 x.2.2.1 x.2.2.2) (.lit (.int .i32 0))= .lit (.int .i32 (bC d x n)))
theorem iM.keep{w w':World}{b n:Nat}{d:List UInt8}(h:iM w b d n)(hb:w'.heap[b]? =w.heap[b]?):iM w' b d n:=by
 obtain⟨D,⟨es,clock,h1,r⟩,h2⟩:=h
 exact⟨D,⟨es,clock,hb.trans h1,r⟩,h2⟩
theorem iM.lt{w:World}{b n:Nat}{d:List UInt8}(h:iM w b d n):b<w.heap.size:=by
 obtain⟨D,h1,_⟩:=h
 exact h1.lt
theorem iM.made(w:World)(d:List UInt8):iM (w.alloc (.map #[] 0)) w.heap.size d 0:=
 ⟨_,World.ownsMap_made w Tryz.prog _ _,fun x=>⟨by simp[Maps.has,bC],fun h=>by simp[bC]at h⟩⟩
noncomputable abbrev QV(x:UInt8×UInt8×UInt8×UInt8):Lit:=Og x.1 x.2.1 x.2.2.1 x.2.2.2
abbrev CW(x:UInt8×UInt8×UInt8×UInt8):Value:=vF x.1 x.2.1 x.2.2.1 x.2.2.2
theorem SL{x y:UInt8×UInt8×UInt8×UInt8}(h:QV x=QV y):x=y:=by
 obtain⟨h1,h2,h3,h4⟩:=XB h
 obtain⟨a,b,c,d⟩:=x
 obtain⟨a',b',c',d'⟩:=y
 simp_all
theorem abD(w:World):(zeroValue 21).run Tryz.prog w= .ok (.int .i32 0) w:=by
 first | rfl | simp[zeroValue]
theorem wf32{z:Int}(h0: -1≤z)(h1:z≤1000000):(Lit.int .i32 z).wf=true:=by
 have e1:IntKind.i32.min= -2147483648:=rfl
 have e2:IntKind.i32.max=2147483647:=rfl
 simp[Lit.wf,e1,e2];omega
def seen(d:List UInt8)(x:UInt8×UInt8×UInt8×UInt8)(n:Nat):Bool:=decide (0≤bC d x n)
theorem iM.look{w:World}{b n:Nat}{d:List UInt8}(h:iM w b d n)(x:UInt8×UInt8×UInt8×UInt8): ∃c:Int,(Instr.lookup 190 (.map (some b)) (CW x) true).run Tryz.prog w= .ok (.tuple #[.int .i32 c,.bool (seen d x n)]) w∧(seen d x n=true→c=bC d x n):=by
 obtain⟨D,h1,h2⟩:=h
 obtain⟨v,ps,hr,hv⟩:=h1.look_ok Iy Tryz.underlying190 (abD w) (plainElem_int (H:=Unit) Tryz.underlying21 (wf32 (by omega) (by omega))) (pJ x.1 x.2.1 x.2.2.1 x.2.2.2)
 obtain⟨c,rfl,hc,_⟩:=plainElem_int_inv Tryz.underlying21 hv
 have e:Maps.has D (Og x.1 x.2.1 x.2.2.1 x.2.2.2)=seen d x n:=by
  rw[Bool.eq_iff_iff,(h2 x).1];simp[seen]
 refine⟨c,by rw[hr,e],fun hs=> ?_⟩
 have hs:0≤bC d x n:=by simpa [seen]using hs
 have e2:=(h2 x).2 hs
 have e3:=congrArg Prod.fst hc
 simp only at e3
 rw[e2]at e3
 injection e3 with e3
 injection e3 with _ e3
 exact e3.symm
theorem iM.put{w:World}{b n:Nat}{d:List UInt8}(h:iM w b d n)(hn:n≤100000): ∃w',(Instr.mapUpdate 190 (.map (some b)) (CW (four d n)) (.int .i32 (n:Nat))).run Tryz.prog w= .ok () w'∧iM w' b d (n+1)∧w.mapTurned w' b:=by
 obtain⟨D,h1,h2⟩:=h
 obtain⟨w',hr,ho,ht⟩:=h1.store Iy Tryz.underlying190 (by unfold maxLen;omega) (pJ (four d n).1 (four d n).2.1 (four d n).2.2.1 (four d n).2.2.2) (plainElem_int (H:=Unit) Tryz.underlying21 (a:=(n:Nat)) (wf32 (by omega) (by omega)))
 have hk:=Iy.key (pJ (four d n).1 (four d n).2.1 (four d n).2.2.1 (four d n).2.2.2)
 refine⟨w',hr,⟨_,ho,fun x=> ?_⟩,ht⟩
 by_cases hx:four d n=x
 ·subst hx
  rw[has_put_same h1.isMap hk,atKey_put_same h1.isMap hk]
  simp[bC]
 ·have hne:QV x≠QV (four d n):=fun e=>hx (SL e).symm
  have e:bC d x (n+1)=bC d x n:=by rw[bC,if_neg hx]
  rw[e,has_put_other hne,atKey_put_other hne]
  exact h2 x
theorem y8(d:List UInt8)(k:Nat):(jL d k).length=k:=by simp[jL]
theorem Gt(d:List UInt8)(n k:Nat)(hk:k<n)(z:Int)(hz:z=bC d (four d k) k):((jL d k)++List.replicate (n-k) (Value.int .i32 0)).set k (.int .i32 z)=jL d (k+1)++List.replicate (n-(k+1)) (Value.int .i32 0):=by
 have e:n-k=(n-(k+1))+1:=by omega
 rw[e,List.replicate_succ,List.set_append_right _ _ (by rw[y8];exact Nat.le_refl _),y8,Nat.sub_self,List.set_cons_zero,hz]
 have e2:jL d (k+1)=jL d k++[.int .i32 (bC d (four d k) k)]:=by simp[jL,List.range_succ]
 rw[e2,List.append_assoc]
 rfl
end
def chain(d:List UInt8)(x:UInt8×UInt8×UInt8×UInt8):Nat→List Nat
 | 0=>[]
 | n+1=>if four d n=x then n::chain d x n else chain d x n
theorem qE(d:List UInt8)(x:UInt8×UInt8×UInt8×UInt8)(n:Nat):chain d x (n+1)=if four d n=x then n::chain d x n else chain d x n:=rfl
theorem CX{d:List UInt8}{x:UInt8×UInt8×UInt8×UInt8}: ∀{n},bC d x n<0→chain d x n=[]
 | 0,_=>rfl
 | n+1,h=>by
  unfold bC at h
  rw[qE]
  split at h
  ·omega
  ·rename_i hx
   rw[if_neg hx];exact CX h
theorem CY{d:List UInt8}{x:UInt8×UInt8×UInt8×UInt8}{j:Nat}: ∀{n},bC d x n=(j:Int)→chain d x n=j::chain d x j∧j<n∧four d j=x
 | 0,h=>by simp[bC]at h
 | n+1,h=>by
  unfold bC at h
  rw[qE]
  split at h
  ·rename_i hx
   obtain rfl:n=j:=by omega
   rw[if_pos hx]
   exact⟨rfl,by omega,hx⟩
  ·rename_i hx
   rw[if_neg hx]
   obtain⟨h1,h2,h3⟩:=CY h
   exact⟨h1,by omega,h3⟩
theorem mM{d:List UInt8}{x:UInt8×UInt8×UInt8×UInt8}{j:Nat}: ∀{n},j∈chain d x n↔j<n∧four d j=x
 | 0=>by simp[chain]
 | n+1=>by
  rw[qE]
  split
  ·rename_i hx
   rw[List.mem_cons,mM]
   constructor
   ·rintro(rfl | ⟨h1,h2⟩)
    ·exact⟨by omega,hx⟩
    ·exact⟨by omega,h2⟩
   ·rintro⟨h1,h2⟩
    rcases Nat.lt_or_ge j n with h | h
    ·exact .inr ⟨h,h2⟩
    ·exact .inl (by omega)
  ·rename_i hx
   rw[mM]
   constructor
   ·rintro⟨h1,h2⟩
    exact⟨by omega,h2⟩
   ·rintro⟨h1,h2⟩
    rcases Nat.lt_or_ge j n with h | h
    ·exact⟨h,h2⟩
    ·obtain rfl:j=n:=by omega
     exact absurd h2 hx
theorem sF(d:List UInt8)(x:UInt8×UInt8×UInt8×UInt8): ∀n,(chain d x n).Pairwise (· > ·)
 | 0=>List.Pairwise.nil
 | n+1=>by
  rw[qE]
  split
  ·exact List.pairwise_cons.2 ⟨fun j hj=>(mM.1 hj).1,sF d x n⟩
  ·exact sF d x n
theorem KE{d:List UInt8}{p q L:Nat}(h:4≤aX d p q L):four d q=four d p:=by
 have hi:=(fK d L p q).eq
 have h0:=hi 0 (by omega)
 have h1:=hi 1 (by omega)
 have h2:=hi 2 (by omega)
 have h3:=hi 3 (by omega)
 simp only[Nat.add_zero]at h0
 unfold four
 rw[h0,h1,h2,h3]
theorem KF{d:List UInt8}{p q L:Nat}(h:2≤aX d p q L):d.getD q 0=d.getD p 0∧d.getD (q+1) 0=d.getD (p+1) 0:=by
 have hi:=(fK d L p q).eq
 have h0:=hi 0 (by omega)
 have h1:=hi 1 (by omega)
 simp only[Nat.add_zero]at h0
 exact⟨h0.symm,h1.symm⟩
def places(d:List UInt8)(a b:UInt8)(n:Nat):List Nat:=(List.range n).filter fun i=>d.getD i 0==a&&d.getD (i+1) 0==b
theorem zV(d:List UInt8)(a b:UInt8)(n:Nat):places d a b (n+1)=places d a b n++(if d.getD n 0=a∧d.getD (n+1) 0=b then [n]else []):=by
 unfold places
 rw[List.range_succ,List.filter_append]
 congr 1
 by_cases h:d.getD n 0=a∧d.getD (n+1) 0=b
 ·have e:(d.getD n 0==a&&d.getD (n+1) 0==b)=true:=by rw[h.1,h.2];simp
  rw[if_pos h]
  simp only[List.filter_cons,List.filter_nil,e,if_true]
 ·rw[if_neg h]
  simp only[List.filter_cons,List.filter_nil]
  rw[if_neg]
  intro h2
  simp at h2
  exact h (by simpa using h2)
theorem mem_places{d:List UInt8}{a b:UInt8}{n i:Nat}:i∈places d a b n↔i<n∧d.getD i 0=a∧d.getD (i+1) 0=b:=by
 unfold places
 rw[List.mem_filter,List.mem_range]
 simp only[Bool.and_eq_true,beq_iff_eq]
theorem zW(d:List UInt8)(a b:UInt8)(n:Nat):(places d a b n).Pairwise (· < ·):=List.Pairwise.filter _ (List.pairwise_lt_range)
def aI(b:Nat)(w:World)(v:Value):Prop:= ∃t,w.heap[b]? =some (.cells [v].toArray t (0,0))
theorem aI.cell{b:Nat}{w:World}{v:Value}(h:aI b w v):w.cell? ⟨b,0,none⟩=some v:=by
 obtain⟨t,h⟩:=h
 rw[cell_of_row w b _ _ _ _ h];rfl
theorem aI.keep{b:Nat}{w w':World}{v:Value}(h:aI b w v)(hb:w'.heap[b]? =w.heap[b]?):aI b w' v:=by
 obtain⟨t,h⟩:=h
 exact⟨t,hb.trans h⟩
theorem aI.made(w:World)(v:Value)(t:TypeId):aI w.heap.size (w.alloc (.cells #[v] t)) v:=⟨t,heap_alloc_last _ _⟩
def XC(F:Nat)(place:Int)(w:World)(e:Ending)(w':World):Prop:= ∃b1 b2,e= .returned (.func (.func 219) #[] #[PF b1,PF b2])∧aI b1 w' (PF F)∧aI b2 w' (.int .i64 place)∧w.heap.size≤b1∧w.heap.size≤b2∧Below w.heap.size w w'
theorem CZ(F:Nat)(place:Int)(w:World):Calls Tryz.prog 200 #[PF F,.int .i64 place] w (XC F place w):=by
 obtain⟨W1,hW1⟩: ∃W1,w.alloc (.cells #[PF F] 69)=W1:=⟨_,rfl⟩
 obtain⟨W2,hW2⟩: ∃W2,W1.alloc (.cells #[.int .i64 place] 3)=W2:=⟨_,rfl⟩
 have hb1:Below w.heap.size w W1:=by rw[←hW1];exact(Below.refl _ _).alloc (Nat.le_refl _) _
 have hb2:Below W1.heap.size W1 W2:=by rw[←hW2];exact(Below.refl _ _).alloc (Nat.le_refl _) _
 have hx1:aI w.heap.size W1 (PF F):=by rw[←hW1];exact aI.made _ _ _
 have hx2:aI W1.heap.size W2 (.int .i64 place):=by rw[←hW2];exact aI.made _ _ _
 have hlt:w.heap.size<W1.heap.size:=by rw[←hW1];simp
 have HH:=Lib.hid (And.intro hb1 (And.intro hb2 (And.intro hx1 (And.intro hx2 hlt))))
 have HW1:=Lib.hid hW1
 have HW2:=Lib.hid hW2
 have hsz:Hid (W1.heap.size=w.heap.size+1):=Lib.hid (by rw[←hW1];simp)
 clear hW1 hW2 hb1 hb2 hx1 hx2 hlt
 go_enter Tryz.func200,Tryz.ntmps200
 go_wp2_with fail
 rw[HW1.out,HW2.out]
 go_ret
 refine⟨w.heap.size,W1.heap.size,?_,HH.out.2.2.1.keep (HH.out.2.1.block _ HH.out.2.2.2.2),HH.out.2.2.2.1,Nat.le_refl _,Nat.le_of_lt HH.out.2.2.2.2,HH.out.1.trans (HH.out.2.1.mono (Nat.le_of_lt HH.out.2.2.2.2))⟩
 first | rfl | (rw[hsz.out];rfl)
theorem abE(x:Int)(w:World):Calls Tryz.prog 237 #[.int .i32 x] w fun e w'=>e= .returned (.bool false)∧w=w':=by
 go_enter Tryz.func237,Tryz.ntmps237
 go_wp2_with fail
 go_ret
 exact⟨rfl,rfl⟩
theorem XD(x:Int)(w:World):Calls Tryz.prog 233 #[.int .i32 x] w fun e w'=>e= .returned (.bool false)∧w=w':=by
 go_enter Tryz.func233,Tryz.ntmps233
 go_wp2_with fail
 go_ret
 exact⟨rfl,rfl⟩
theorem XE(x y:Int)(w:World):Calls Tryz.prog 232 #[.int .i32 x,.int .i32 y] w fun e w'=>e= .returned (.bool (decide (x<y)))∧w=w':=by
 have HN:=Lib.hid abE
 generalize hb:decide (x<y)=b
 go_enter Tryz.func232,Tryz.ntmps232
 go_wp2_with fail
 refine(HN.out _ _).mono ?_
 rintro e w1 ⟨rfl,rfl⟩
 go_wp2_with fail
 go_ret
 exact⟨rfl,rfl⟩
def sG(w:World)(A:Option Addr)(l:List Nat):Prop:= ∀i (h:i<l.length),∃g,A=some ⟨g,0,none⟩∧w.cell? ⟨g,i,none⟩=some (.int .i32 (l[i]:Nat))
def Oj(l:List Nat)(x:Nat)(w:World)(e:Ending)(w':World):Prop:=(∃(i:Nat) (b:Bool),e= .returned (.tuple #[.int .i64 (i:Nat),.bool b])∧i≤l.length∧(∀q (h:q<l.length),q<i→l[q]<x)∧(∀q (h:q<l.length),i≤q→x≤l[q]))∧w=w'
theorem Ol(A:Option Addr)(l:List Nat)(c x:Nat)(w:World)(hA:sG w A l)(hl:l.length≤100000)(hc:l.length≤c)(hs:l.Pairwise (· < ·)):
  Calls Tryz.prog 220 #[.slice A l.length c,.int .i32 (x:Nat)] w (Oj l x w):=by
 have Fb:(l.length:Int)≤100000:=by omega
 have hci:(l.length:Int)≤(c:Int):=by omega
 have HA:=Lib.hid hA
 have xA:=Lib.hid XE
 have HNA:=Lib.hid XD
 have HSO:Hid (∀p q (hp:p<l.length) (hq:q<l.length),p<q→l[p]<l[q]):=Lib.hid (fun p q hp hq h=>List.pairwise_iff_getElem.1 hs p q hp hq h)
 clear hA hs hc
 go_enter Tryz.func220,Tryz.ntmps220
 go_wp2_with fail
 go_loopw [7,8] (fun a b wr=> ∃i j:Nat,i≤j∧j≤l.length∧a= .int .i64 (i:Nat)∧b= .int .i64 (j:Nat)∧Hid (∀q (h:q<l.length),q<i→l[q]<x)∧Hid (∀q (h:q<l.length),j≤q→x≤l[q])∧wr=w) (fun a b _=>(intOf b).toNat-(intOf a).toNat)
 case atStart=>exact⟨0,l.length,by omega,Nat.le_refl _,rfl,rfl,Lib.hid (fun q _ h=>by omega),Lib.hid (fun q h h2=>by omega),rfl⟩
 case round=>
  obtain⟨i,j,hij,hj,rfl,rfl,H1,H2,rfl⟩:=hrel
  by_cases hlt:i<j
  ·have Om:(i:Int)<(j:Int):=by omega
   have hj4:(j:Int)≤100000:=by omega
   obtain⟨m,hm⟩: ∃m:Nat,(i+j)/2=m:=⟨_,rfl⟩
   have hml:m<l.length:=by omega
   have Nj:(m:Int)<(l.length:Int):=by omega
   obtain⟨g,rfl,hcell⟩:=HA.out m hml
   have e1:((i:Int)+(j:Int))/2=(m:Int):=by omega
   have HH:=Lib.hid (show i≤m∧m<j by omega)
   obtain⟨y,hy⟩: ∃y,l[m]=y:=⟨_,rfl⟩
   rw[hy]at hcell
   have HY:=Lib.hid hy
   clear hy hm
   by_cases hyx:y<x
   ·have hb:decide ((y:Int)<(x:Int))=true:=decide_eq_true (by omega)
    have HL1:=Lib.hid (xA.out (y:Int) (x:Int) wr)
    rw[hb]at HL1
    have H3:Hid (∀q (h:q<l.length),q<m+1→l[q]<x):=Lib.hid (fun q hq h2=>by
     rcases Nat.lt_or_ge q m with h3 | h3
     ·have:=HSO.out q m hq hml h3
      have:=HY.out
      omega
     ·obtain rfl:q=m:=by omega
      have:=HY.out
      omega)
    clear hb
    go_wp2_with fail
    refine HL1.out.mono ?_
    rintro e w1 ⟨rfl,rfl⟩
    go_wp2_with fail
    exact⟨⟨m+1,j,by have:=HH.out;omega,hj,by go_num,rfl,H3,H2,by trivial⟩,by have:=HH.out;simp[intOf];omega⟩
   ·have hb:decide ((y:Int)<(x:Int))=false:=decide_eq_false (by omega)
    have HL1:=Lib.hid (xA.out (y:Int) (x:Int) wr)
    rw[hb]at HL1
    have H3:Hid (∀q (h:q<l.length),m≤q→x≤l[q]):=Lib.hid (fun q hq h2=>by
     rcases Nat.lt_or_ge m q with h3 | h3
     ·have:=HSO.out m q hml hq h3
      have:=HY.out
      omega
     ·obtain rfl:q=m:=by omega
      have:=HY.out
      omega)
    clear hb
    go_wp2_with fail
    refine HL1.out.mono ?_
    rintro e w1 ⟨rfl,rfl⟩
    go_wp2_with fail
    exact⟨⟨i,m,by have:=HH.out;omega,by omega,rfl,rfl,H1,H3,by trivial⟩,by have:=HH.out;simp[intOf];omega⟩
  ·obtain rfl:i=j:=by omega
   have hi4:(i:Int)≤100000:=by omega
   by_cases hil:i<l.length
   ·have al5:(i:Int)<(l.length:Int):=by omega
    obtain⟨g,rfl,hcell⟩:=HA.out i hil
    obtain⟨y,hy⟩: ∃y,l[i]=y:=⟨_,rfl⟩
    rw[hy]at hcell
    clear hy
    by_cases hyx:y=x
    ·subst hyx
     go_wp2_with fail
     go_ret2
     exact⟨⟨i,true,rfl,hj,H1.out,H2.out⟩,rfl⟩
    ·have hb:((y:Int)==(x:Int))=false:=by rw[beq_eq_false_iff_ne];omega
     go_wp2_with fail
     refine(HNA.out _ _).mono ?_
     rintro e w1 ⟨rfl,rfl⟩
     go_wp2_with fail
     go_ret2
     exact⟨⟨i,false,rfl,hj,H1.out,H2.out⟩,rfl⟩
   ·have al5: ¬(i:Int)<(l.length:Int):=by omega
    go_wp2_with fail
    go_ret2
    exact⟨⟨i,false,rfl,hj,H1.out,H2.out⟩,rfl⟩
section
open Go.RowKit Go.Shelf
attribute [local go_sem] Oper.semAt_some
theorem Oo{w:World}{B n:Nat}{d:List UInt8}(h:w.heap[B]? =some (.cells (jL d n).toArray 21 (0,0)))(i:Nat)(hi:i<n):w.cell? ⟨B,i,none⟩=some (.int .i32 (bC d (four d i) i)):=by
 rw[cell_of_row w B _ _ _ _ h]
 simp[jL,hi]
theorem XF(F:Fence)(n:Nat)(hfn:F.fn 219)(hro:F.round=none)(hn:1≤n)(Fp:Nat)(A:Option Addr)(c:Nat)(d:List UInt8)(dict nice:Int)(mp B N:Nat)(b1 b2 place:Nat)(w:World)
  (hF:dH w Fp A c d dict nice mp (.slice (some ⟨B,0,none⟩) N N)) (hB:w.heap[B]? =some (.cells (jL d N).toArray 21 (0,0))) (hx1:aI b1 w (PF Fp)) (hx2:aI b2 w (.int .i64 (place:Nat))) (hp:place<N) (hN:N≤d.length):
  CS F n Tryz.prog 219 #[PF b1,PF b2] (chain d (four d place) place) w:=by
 intro l J Jx W hJB hJD hXD hY h0
 have hb0:=hJB _ _ h0
 have HC:Hid (∀W,Below w.heap.size w W→W.cell? ⟨b1,0,none⟩=some (PF Fp)∧W.cell? ⟨b2,0,none⟩=some (.int .i64 (place:Nat))∧W.cell? ⟨Fp,4,none⟩=some (.slice (some ⟨B,0,none⟩) N N)∧ ∀i,i<N→W.cell? ⟨B,i,none⟩=some (.int .i32 (bC d (four d i) i))):=Lib.hid (fun W hb=>by
  have hl1:b1<w.heap.size:=by obtain⟨t,h⟩:=hx1;exact(Array.getElem?_eq_some_iff.1 h).1
  have hl2:b2<w.heap.size:=by obtain⟨t,h⟩:=hx2;exact(Array.getElem?_eq_some_iff.1 h).1
  exact⟨(hx1.keep (hb.block _ hl1)).cell,(hx2.keep (hb.block _ hl2)).cell,(hF.below hb).cells.2.2.2.2,fun i hi=>Oo ((hb.block _ (Array.getElem?_eq_some_iff.1 hB).1).trans hB) i hi⟩)
 have HY:=Lib.hid hY
 have HJB:=Lib.hid hJB
 have HJD:=Lib.hid hJD
 have HXD:=Lib.hid hXD
 have hpi:(place:Int)<(N:Int):=by omega
 have hNi:(N:Int)≤100000:=by have:=hF.small;omega
 have HNN:=Lib.hid (And.intro hp hN)
 obtain⟨c1,c2,c3,c4⟩:=HC.out W hb0
 have c5:=c4 place hp
 have HLB:Hid (∀m,m≤place→ -1≤bC d (four d place) m∧bC d (four d place) m<place∨bC d (four d place) m= -1):=Lib.hid (fun m hm=>by
  rcases kU d (four d place) m with h | ⟨_,h⟩
  ·left;omega
  ·right;exact h)
 have HX0:=Lib.hid h0
 obtain⟨x,hx⟩: ∃x,four d place=x:=⟨_,rfl⟩
 rw[hx]at c5 HLB ⊢
 rw[hx]at HY
 have HXE:=Lib.hid hx
 clear hF hB hx1 hx2 hJB hJD hXD hY h0 hp hN c4 hx
 refine callsIn_of_wp Tryz.func219 rfl hfn ?_ hro
 simp only[Tryz.ntmps219,List.size_toArray,List.length_cons,List.length_nil,Nat.reduceAdd,Nat.reduceSub,Array.replicate_succ,Array.replicate_zero,List.push_toArray,List.append_toArray,List.nil_append,List.cons_append]
 gi_wp2
 refine wpIn_region_quiet_lit hro (by kernel_rfl) (by kernel_rfl) ?_
 repeat(gi_big_quiet_step (fail))
 refine wpQuietIn_nil ?_
 rintro _ ⟨nq,rfl⟩
 gi_wp2
 gi_loopw [4] (fun v wr=> ∃(pre:List Nat) (m:Nat) (q:Int),v= .int .i32 q∧Hid (q=bC d x m)∧Hid (chain d x place=pre++chain d x m)∧m≤place∧J pre wr) (fun v _=>(intOf v+1).toNat)
 case atStart=>exact⟨[],place,_,rfl,rfl,rfl,Nat.le_refl _,HJD.out _ _ _ HX0.out⟩
 case round=>
  obtain⟨pre,m,q,rfl,HQ,HL,hm,hJs⟩:=hrel
  clear c1 c2 c3 c5
  have hqb:=HLB.out m hm
  rw[←HQ.out]at hqb
  have HJS:=Lib.hid hJs
  by_cases hq0:q= -1
  ·subst hq0
   have HE:Hid (pre=chain d x place):=Lib.hid (by
    rw[HL.out,CX (by rw[←HQ.out];decide),List.append_nil])
   clear hqb hJs
   gi_wp2
   refine⟨(fun _ h=>nomatch h),?_⟩
   gi_wp2
   go_end0
   exact⟨⟨_,rfl⟩,.inl (by rw[←HE.out];exact HJS.out)⟩
  ·obtain⟨j,rfl⟩: ∃j:Nat,q=(j:Int):=⟨q.toNat,by omega⟩
   obtain⟨e1,e2,e3⟩:=CY HQ.out.symm
   have hji:(j:Int)<(place:Int):=by omega
   have hne:((j:Int)== -1)=false:=by rw[beq_eq_false_iff_ne];omega
   obtain⟨fn,tmps,assign,body,hy,hR⟩:=HY.out pre j (chain d x j) wr (by rw[HL.out,e1]) hJs
   have HLE:Hid (chain d x place=(pre++[j])++chain d x j):=Lib.hid (by rw[HL.out,e1];simp)
   have HJP:Hid (j≤place):=Lib.hid (by omega)
   have HJX:Hid (four d j=x):=Lib.hid e3
   clear e1 e2 e3 hqb hq0 hJs
   gi_wp2
   refine hR.mono ?_
   rintro e W3 (⟨rfl,hJ3⟩ | ⟨rfl,hx3⟩)
   ·obtain⟨c1,c2,c3,c4⟩:=HC.out W3 (HJB.out _ _ hJ3)
    have c5:=c4 j (by have:=HJP.out;have:=HNN.out;omega)
    rw[HJX.out]at c5
    have hjN:(j:Int)<(N:Int):=by omega
    have HJ3:=Lib.hid hJ3
    clear c4 hJ3
    obtain⟨q2,hq2⟩: ∃q2,bC d x j=q2:=⟨_,rfl⟩
    have arO:q2<(j:Int):=by
     rcases kU d x j with h | ⟨_,h⟩<;>omega
    rw[hq2]at c5
    have HQ2:Hid (q2=bC d x j):=Lib.hid hq2.symm
    clear hq2
    gi_wp2
    go_roundw
    case rel=>exact⟨pre++[j],j,q2,rfl,HQ2,HLE,HJP.out,HJ3.out⟩
    case measure=>simp[intOf];omega
   ·have HX3:=Lib.hid hx3
    clear hx3
    gi_wp2
    go_end0
    exact⟨⟨_,rfl⟩,.inr HX3.out⟩
theorem cell_lt{w:World}{a:Addr}{v:Value}(h:w.cell? a=some v):a.block<w.heap.size:=by
 obtain⟨o,ho,_⟩:=cells_of_cell h
 exact(Array.getElem?_eq_some_iff.1 ho).1
theorem sG.below{w w':World}{A:Option Addr}{l:List Nat}(h:sG w A l)(hb:Below w.heap.size w w'):sG w' A l:=by
 intro i hi
 obtain⟨g,hA,hc⟩:=h i hi
 exact⟨g,hA,(hb.cell (p:=⟨g,i,none⟩) (cell_lt hc)).trans hc⟩
theorem XG(F:Fence)(n:Nat)(hfn:F.fn 221)(hro:F.round=none)(hn:1≤n)(A:Option Addr)(c:Nat)(l:List Nat)(b1 b2 h:Nat)(w:World)
  (hA:sG w A l) (hc:l.length≤c) (hl:l.length≤100000) (hs: ∀x∈l,x≤100000) (hx1:aI b1 w (.int .i64 (h:Nat))) (hx2:aI b2 w (.slice A l.length c)) (hh:h≤l.length):
  CS F n Tryz.prog 221 #[PF b1,PF b2] (l.take h).reverse w:=by
 intro ll J Jx W hJB hJD hXD hY h0
 have hb0:=hJB _ _ h0
 have HC:Hid (∀W,Below w.heap.size w W→W.cell? ⟨b1,0,none⟩=some (.int .i64 (h:Nat))∧W.cell? ⟨b2,0,none⟩=some (.slice A l.length c)∧sG W A l):=Lib.hid (fun W hb=>by
  have hl1:b1<w.heap.size:=by obtain⟨t,h⟩:=hx1;exact(Array.getElem?_eq_some_iff.1 h).1
  have hl2:b2<w.heap.size:=by obtain⟨t,h⟩:=hx2;exact(Array.getElem?_eq_some_iff.1 h).1
  exact⟨(hx1.keep (hb.block _ hl1)).cell,(hx2.keep (hb.block _ hl2)).cell,hA.below hb⟩)
 have HY:=Lib.hid hY
 have HJB:=Lib.hid hJB
 have HJD:=Lib.hid hJD
 have HS:=Lib.hid (fun(i:Nat) (hi:i<l.length)=>hs _ (List.getElem_mem hi))
 have hci:(l.length:Int)≤(c:Int):=by omega
 have Fb:(l.length:Int)≤100000:=by omega
 have hhi:(h:Int)≤(l.length:Int):=by omega
 obtain⟨c1,c2,_⟩:=HC.out W hb0
 have HX0:=Lib.hid h0
 clear hA hx1 hx2 hJB hJD hXD hY h0 hc hs
 refine callsIn_of_wp Tryz.func221 rfl hfn ?_ hro
 simp only[Tryz.ntmps221,List.size_toArray,List.length_cons,List.length_nil,Nat.reduceAdd,Nat.reduceSub,Array.replicate_succ,Array.replicate_zero,List.push_toArray,List.append_toArray,List.nil_append,List.cons_append]
 gi_wp2
 gi_loopw [4] (fun v wr=> ∃(pre:List Nat) (m:Nat),v= .int .i64 ((m:Int)-1)∧Hid ((l.take h).reverse=pre++(l.take m).reverse)∧m≤h∧J pre wr) (fun v _=>(intOf v+1).toNat)
 case atStart=>exact⟨[],h,rfl,rfl,Nat.le_refl _,HX0.out⟩
 case round=>
  obtain⟨pre,m,rfl,HL,hm,hJs⟩:=hrel
  clear c1 c2
  have HJS:=Lib.hid hJs
  cases m with
  | zero=>
   have HE:Hid (pre=(l.take h).reverse):=Lib.hid (by rw[HL.out];simp)
   clear hJs
   gi_wp2
   refine⟨(fun _ h=>nomatch h),?_⟩
   gi_wp2
   go_end0
   exact⟨⟨_,rfl⟩,.inl (by rw[←HE.out];exact HJS.out)⟩
  | succ j=>
   have hjl:j<l.length:=by omega
   have e1:(l.take (j+1)).reverse=l[j]::(l.take j).reverse:=by
    rw[List.take_add_one,List.getElem?_eq_getElem hjl];simp
   obtain⟨_,c2,c3⟩:=HC.out wr (HJB.out _ _ hJs)
   obtain⟨g,rfl,c4⟩:=c3 j hjl
   have hx:=HS.out j hjl
   obtain⟨x,hxe⟩: ∃x,l[j]=x:=⟨_,rfl⟩
   rw[hxe]at e1 hx c4
   obtain⟨fn,tmps,assign,body,hy,hR⟩:=HY.out pre x (l.take j).reverse wr (by rw[HL.out,e1]) hJs
   have HLE:Hid ((l.take h).reverse=(pre++[x])++(l.take j).reverse):=Lib.hid (by rw[HL.out,e1];simp)
   have hji:(j:Int)<(l.length:Int):=by omega
   have hxi:(x:Int)≤100000:=by omega
   have ej:((j+1:Nat):Int)-1=(j:Int):=by omega
   rw[ej]
   have HJH:Hid (j≤h):=Lib.hid (by omega)
   clear e1 c3 hJs hxe ej hm hjl hx
   gi_wp2
   refine hR.mono ?_
   rintro e W3 (⟨rfl,hJ3⟩ | ⟨rfl,hx3⟩)
   ·have HJ3:=Lib.hid hJ3
    clear hJ3
    gi_wp2
    go_roundw
    case rel=>exact⟨pre++[x],j,rfl,HLE,HJH.out,HJ3.out⟩
    case measure=>simp[intOf]
   ·have HX3:=Lib.hid hx3
    clear hx3
    gi_wp2
    go_end0
    exact⟨⟨_,rfl⟩,.inr HX3.out⟩
end
end Go.Proofs.YtgfpocdiojifoaaGreatDoor
