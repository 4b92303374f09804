import Derived.Test.YtgfpocdiojifoaaGreatDoorZ14
import Derived.Deep.RegionHeld3
import Derived.RangeFuncNested
import Derived.RangeFuncBound
import Derived.RangeFuncCalls
import Derived.RangeFuncLeaves
import Derived.RangeFuncKeeps
import Derived.Sort.BigQuietIn
import Derived.Test.YtgfpocdiojifoaaGreatDoorRows
import Derived.WideKeyArr
import Derived.WideKeyEntry
import Derived.Maps.OwnSet
namespace Go.Proofs.YtgfpocdiojifoaaGreatDoor
set_option maxRecDepth 100000
set_option maxHeartbeats 8000000
open Go.RowKit
abbrev jf:Type:=(Nat→Nat)×Rc.St
theorem not_false{b:Bool}(h:b=true): ¬b=false:=fun e=>Bool.noConfusion (h.symm.trans e)
theorem Kz(g at_:Nat)(v:Int): ∀(n m:Nat) (x:jf),Md.dF (aj g) at_ v n m x=Md.dF (aj 0) at_ v n m x
 | 0,_,_=>rfl
 | n+1,m,x=>Kz g at_ v n (2*m+((aj 0).au (at_+m) (Md.aG v n) x).1.toNat) ((aj 0).au (at_+m) (Md.aG v n) x).2
theorem Iw(g at_ n:Nat)(v:Int)(x:jf):Md.tree (aj g) at_ n v x=Md.tree (aj 0) at_ n v x:=
 congrArg (fun y:Nat×jf=>(y.1-2^n,y.2)) (Kz g at_ v n 1 x)
theorem QS(g at_:Nat)(v:Int): ∀(k i m a:Nat) (x:jf),Md.jo (aj g) at_ v k i m a x=Md.jo (aj 0) at_ v k i m a x
 | 0,_,_,_,_=>rfl
 | k+1,i,m,a,x=>QS g at_ v k (i+1) (2*m+((aj 0).au (at_+m) (Md.aG v i) x).1.toNat) (a+((aj 0).au (at_+m) (Md.aG v i) x).1.toNat*2^i) ((aj 0).au (at_+m) (Md.aG v i) x).2
theorem ads(g at_ n:Nat)(v:Int)(x:jf):Md.rev (aj g) at_ n v x=Md.rev (aj 0) at_ n v x:=QS g at_ v n 0 1 0 x
theorem Xx(g A p:Nat)(l:Int)(x:jf):Md.len (aj g) A p l x=Md.len (aj 0) A p l x:=by
 cases h1:((aj 0).au A (decide (8≤l-2)) x).1 with
 | false=>exact(show Md.len (aj g) A p l x=_ from if_pos h1).trans ((congrArg (fun y:Nat×jf=>(2+y.1,y.2)) (Iw g (A+2+8*p) 3 (l-2) _)).trans (show Md.len (aj 0) A p l x=_ from if_pos h1).symm)
 | true=>
  cases h2:((aj 0).au (A+1) (decide (16≤l-2)) ((aj 0).au A (decide (8≤l-2)) x).2).1 with
  | false=>exact(show Md.len (aj g) A p l x=_ from(if_neg (not_false h1)).trans (if_pos h2)).trans ((congrArg (fun y:Nat×jf=>(10+y.1,y.2)) (Iw g (A+130+8*p) 3 (l-2-8) _)).trans (show Md.len (aj 0) A p l x=_ from(if_neg (not_false h1)).trans (if_pos h2)).symm)
  | true=>exact(show Md.len (aj g) A p l x=_ from(if_neg (not_false h1)).trans (if_neg (not_false h2))).trans ((congrArg (fun y:Nat×jf=>(18+y.1,y.2)) (Iw g (A+258) 8 (l-2-16) _)).trans (show Md.len (aj 0) A p l x=_ from(if_neg (not_false h1)).trans (if_neg (not_false h2))).symm)
def cu(io:Io)(d:Nat)(y:Nat×io.S):Nat×io.S:=
 if y.1<4 then(y.1+1,y.2)
 else if y.1<14 then((2+y.1%2)*2^(y.1/2-1)+(Md.rev io (1716+32*y.1) (y.1/2-1) (d:Nat) y.2).1+1,(Md.rev io (1716+32*y.1) (y.1/2-1) (d:Nat) y.2).2)
 else((2+y.1%2)*2^(y.1/2-1)+(io.plain y.2.2 (d/16%2^(y.1/2-1-4)) (y.1/2-1-4)).1%2^(y.1/2-1-4)*16+(Md.rev io 2164 4 (d:Nat) (y.2.1,(io.plain y.2.2 (d/16%2^(y.1/2-1-4)) (y.1/2-1-4)).2)).1+1,(Md.rev io 2164 4 (d:Nat) (y.2.1,(io.plain y.2.2 (d/16%2^(y.1/2-1-4)) (y.1/2-1-4)).2)).2)
theorem Oa(g d:Nat)(y:Nat×jf):cu (aj g) d y=cu (aj 0) d y:=by
 by_cases h1:y.1<4
 ·exact(show cu (aj g) d y=_ from if_pos h1).trans (show cu (aj 0) d y=_ from if_pos h1).symm
 ·by_cases h2:y.1<14
  ·exact(show cu (aj g) d y=_ from(if_neg h1).trans (if_pos h2)).trans ((congrArg (fun z:Nat×jf=>((2+y.1%2)*2^(y.1/2-1)+z.1+1,z.2)) (ads g (1716+32*y.1) (y.1/2-1) (d:Nat) y.2)).trans (show cu (aj 0) d y=_ from(if_neg h1).trans (if_pos h2)).symm)
  ·exact(show cu (aj g) d y=_ from(if_neg h1).trans (if_neg h2)).trans ((congrArg (fun z:Nat×jf=>((2+y.1%2)*2^(y.1/2-1)+((aj 0).plain y.2.2 (d/16%2^(y.1/2-1-4)) (y.1/2-1-4)).1%2^(y.1/2-1-4)*16+z.1+1,z.2)) (ads g 2164 4 (d:Nat) (y.2.1,((aj 0).plain y.2.2 (d/16%2^(y.1/2-1-4)) (y.1/2-1-4)).2))).trans (show cu (aj 0) d y=_ from(if_neg h1).trans (if_neg h2)).symm)
theorem uK(io:Io)(l:Nat)(dd:Int)(x:io.S):Md.dist io l dd x=cu io ((dd-1)%4294967296).toNat (Md.tree io (1460+64*min (l-2) 3) 6 (jq ((dd-1)%4294967296).toNat:Nat) x):=rfl
theorem aeT(g l:Nat)(d:Int)(x:jf):Md.dist (aj g) l d x=Md.dist (aj 0) l d x:=
 (uK (aj g) l d x).trans ((Oa g _ _).trans ((congrArg (fun y=>cu (aj 0) ((d-1)%4294967296).toNat y) (Iw g _ 6 _ x)).trans (uK (aj 0) l d x).symm))
theorem QT(g T like:Nat)(v:Int): ∀(n m:Nat) (al:Bool) (x:jf),Md.jA (aj g) T like v n m al x=Md.jA (aj 0) T like v n m al x
 | 0,_,_,_=>rfl
 | n+1,_,_,_=>QT g T like v n _ _ _
theorem ahW(g lc lp st:Nat)(a:Int)(H:List UInt8)(v:Int)(x:jf):Md.lit (aj g) lc lp st a H v x=Md.lit (aj 0) lc lp st a H v x:=
 congrArg (fun y:Nat×jf=>(UInt8.ofNat y.1,y.2)) (QT g _ _ v 8 1 _ x)
def eu(io:Io)(st p:Nat)(l:Int)(w:Nat×io.S):(Nat×Nat)×io.S:=
 if w.1=0 then
  if(io.au (240+16*st+p) (l !=1) w.2).1=false then((0,1),(io.au (240+16*st+p) (l !=1) w.2).2)
  else((0,(Md.len io 946 p l (io.au (240+16*st+p) (l !=1) w.2).2).1),(Md.len io 946 p l (io.au (240+16*st+p) (l !=1) w.2).2).2)
 else((w.1,(Md.len io 946 p l w.2).1),(Md.len io 946 p l w.2).2)
theorem Ob(g st p:Nat)(l:Int)(w:Nat×jf):eu (aj g) st p l w=eu (aj 0) st p l w:=by
 by_cases h1:w.1=0
 ·cases h2:((aj 0).au (240+16*st+p) (l !=1) w.2).1 with
  | false=>exact(show eu (aj g) st p l w=_ from(if_pos h1).trans (if_pos h2)).trans (show eu (aj 0) st p l w=_ from(if_pos h1).trans (if_pos h2)).symm
  | true=>exact(show eu (aj g) st p l w=_ from(if_pos h1).trans (if_neg (not_false h2))).trans ((congrArg (fun z:Nat×jf=>((0,z.1),z.2)) (Xx g 946 p l ((aj 0).au (240+16*st+p) (l !=1) w.2).2)).trans (show eu (aj 0) st p l w=_ from(if_pos h1).trans (if_neg (not_false h2))).symm)
 ·exact(show eu (aj g) st p l w=_ from if_neg h1).trans ((congrArg (fun z:Nat×jf=>((w.1,z.1),z.2)) (Xx g 946 p l w.2)).trans (show eu (aj 0) st p l w=_ from if_neg h1).symm)
theorem aeU(g st p:Nat)(l q:Int)(x:jf):Md.ni (aj g) st p l q x=Md.ni (aj 0) st p l q x:=Ob g st p l (Md.which (aj 0) st q x)
theorem ahX(g lc lp pb st:Nat)(r:R4)(H:List UInt8)(k:Int)(b:UInt8)(l d q:Int)(x:jf):Md.sym (aj g) lc lp pb st r H k b l d q x=Md.sym (aj 0) lc lp pb st r H k b l d q x:=by
 cases h1:((aj 0).au (16*st+H.length%2^pb) (k !=0) x).1 with
 | false=>exact(show Md.sym (aj g) lc lp pb st r H k b l d q x=_ from if_pos h1).trans ((congrArg (fun z:UInt8×jf=>((⟨0,z.1,0,0,0⟩:Sy),bU st,r,z.2)) (ahW g lc lp st r.1 H (b.toNat:Nat) ((aj 0).au (16*st+H.length%2^pb) (k !=0) x).2)).trans (show Md.sym (aj 0) lc lp pb st r H k b l d q x=_ from if_pos h1).symm)
 | true=>
  cases h2:((aj 0).au (192+st) (k !=1) ((aj 0).au (16*st+H.length%2^pb) (k !=0) x).2).1 with
  | false=>
   refine(show Md.sym (aj g) lc lp pb st r H k b l d q x=_ from(if_neg (not_false h1)).trans (if_pos h2)).trans (Eq.trans ?_ (show Md.sym (aj 0) lc lp pb st r H k b l d q x=_ from(if_neg (not_false h1)).trans (if_pos h2)).symm)
   have e1:=Xx g 432 (H.length%2^pb) l ((aj 0).au (192+st) (k !=1) ((aj 0).au (16*st+H.length%2^pb) (k !=0) x).2).2
   have e2:=fun(n:Nat×jf)=>aeT g n.1 d n.2
   exact(congrArg (fun n:Nat×jf=>((⟨1,0,n.1,(Md.dist (aj g) n.1 d n.2).1,0⟩:Sy),(if st<7 then 7 else 10),aS r 3 ((Md.dist (aj g) n.1 d n.2).1:Nat),(Md.dist (aj g) n.1 d n.2).2)) e1).trans (congrArg (fun z:Nat×jf=>((⟨1,0,(Md.len (aj 0) 432 (H.length%2^pb) l ((aj 0).au (192+st) (k !=1) ((aj 0).au (16*st+H.length%2^pb) (k !=0) x).2).2).1,z.1,0⟩:Sy),(if st<7 then 7 else 10),aS r 3 (z.1:Nat),z.2)) (e2 _))
  | true=>
   refine(show Md.sym (aj g) lc lp pb st r H k b l d q x=_ from(if_neg (not_false h1)).trans (if_neg (not_false h2))).trans (Eq.trans ?_ (show Md.sym (aj 0) lc lp pb st r H k b l d q x=_ from(if_neg (not_false h1)).trans (if_neg (not_false h2))).symm)
   exact congrArg (fun z:(Nat×Nat)×jf=>((⟨2,0,z.1.2,0,z.1.1⟩:Sy),(if st<7 then(if z.1.2=1 then 9 else 8)else 11),aS r z.1.1 (r4 r.1 r.2.1 r.2.2.1 r.2.2.2 z.1.1),z.2)) (aeU g st (H.length%2^pb) l q ((aj 0).au (192+st) (k !=1) ((aj 0).au (16*st+H.length%2^pb) (k !=0) x).2).2)
section
def stateAfter(st k l:Int):Int:=
 if k=0 then(if st<4 then 0 else if st<10 then st-3 else st-6)
 else if k=1 then(if 7≤st then 10 else 7)
 else if 7≤st then 11 else if l=1 then 9 else 8
def jK(r:R4)(k d q:Int):R4:=
 if k=0 then r
 else if k=1 then(d,r.1,r.2.1,r.2.2.1)
 else if q=0 then r
 else if q=1 then(r.2.1,r.1,r.2.2.1,r.2.2.2)
 else if q=2 then(r.2.2.1,r.1,r.2.1,r.2.2.2)
 else(r.2.2.2,r.1,r.2.1,r.2.2.1)
section
variable{w w':World}{C base:Nat}{lc lp pb st:Int}{r:R4}{P P':List Nat}{vR vP vP':Value}
end
def abz(C base:Nat)(lc lp pb st:Int)(r:R4)(P:List Nat)(vP:Value)(w:World)(e:Ending)(w':World):Prop:= ∃vR',e= .returned (.tuple #[])∧qW w' C base lc lp pb st r P vR' vP∧w.grownBy w' (some C)
def KA(C base:Nat)(lc lp pb st:Int)(r:R4)(P:List Nat)(vR vP:Value)(w:World)(e:Ending)(w':World):Prop:= ∃vR',e= .returned (.tuple #[])∧qW w' C base lc lp pb st r P vR' vP∧w.grownBy w' (some C)∧(vR'=vR∨ ∀g,vR'.ownBlock=some g→w.heap.size≤g)
theorem KA.done{C base:Nat}{lc lp pb st:Int}{r:R4}{P:List Nat}{vR vP:Value}{w:World}{e:Ending}{w':World}(h:KA C base lc lp pb st r P vR vP w e w'):abz C base lc lp pb st r P vP w e w':=by
 obtain⟨v,h1,h2,h3,_⟩:=h
 exact⟨v,h1,h2,h3⟩
end
abbrev R4.at(r:R4):Nat→Int:=r4 r.1 r.2.1 r.2.2.1 r.2.2.2
theorem dB.weaken{t:TypeId}{base base':Nat}{w:World}{v:Value}{l:List Value}(h:dB t base w v l)(hb:base'≤base):dB t base' w v l:=by
 rcases h with⟨h1,h2 | ⟨g,cap,cur,h2,h3,h4⟩⟩
 ·exact⟨h1,.inl h2⟩
 ·exact⟨h1,.inr ⟨g,cap,cur,h2,Nat.le_trans hb h3,h4⟩⟩
theorem Own.weaken{base base':Nat}{w:World}{v:Value}{l:List UInt8}(h:Own base w v l)(hb:base'≤base):Own base' w v l:=by
 rcases h with⟨h1,h2 | ⟨g,cap,cur,h2,h3,h4⟩⟩
 ·exact⟨h1,.inl h2⟩
 ·exact⟨h1,.inr ⟨g,cap,cur,h2,Nat.le_trans hb h3,h4⟩⟩
def iO(h:List UInt8)(back:Nat):Nat→List UInt8
 | 0=>h
 | n+1=>iO h back n++[(iO h back n).getD ((iO h back n).length-back) 0]
theorem gZ(h:List UInt8)(back:Nat): ∀n,(iO h back n).length=h.length+n
 | 0=>rfl
 | n+1=>by
  unfold iO
  rw[List.length_append,gZ h back n];rfl
def growS(h:List UInt8)(k:Int)(b:UInt8)(l:Nat)(back:Nat):List UInt8:=if k=0 then h++[b]else iO h back l
theorem Gq(w:World):Own w.heap.size (w.alloc (.cells #[] 5)) (.slice (some ⟨w.heap.size,0,none⟩) 0 0) []:=Own.lit w [] (Nat.le_refl _) (by simp)
theorem Gs(w:World)(x:UInt8):Bytes (w.alloc (.cells #[.int .u8 (x.toNat:Nat)] 5)) (some ⟨w.heap.size,0,none⟩) [x]:=by
 refine .inr ⟨_,_,rfl,by simp,fun k hk=> ?_⟩
 obtain rfl:k=0:=by simpa using hk
 rw[Nat.zero_add,cell_of_row _ _ _ _ _ _ (heap_alloc_last _ _)];rfl
def aX(d:List UInt8):Nat→Nat→Nat→Nat
 | _,_,0=>0
 | p,q,L+1=>if d.getD p 0=d.getD q 0 then aX d (p+1) (q+1) L+1 else 0
structure zT(d:List UInt8)(p q L n:Nat):Prop where
 le:n≤L
 eq: ∀i,i<n→d.getD (p+i) 0=d.getD (q+i) 0
 stop:n=L∨d.getD (p+n) 0≠d.getD (q+n) 0
theorem zT.unique{d:List UInt8}{p q L n m:Nat}(h:zT d p q L n)(k:zT d p q L m):n=m:=by
 rcases Nat.lt_trichotomy n m with hlt | e | hlt
 ·rcases h.stop with e | e
  ·have:=k.le;omega
  ·exact absurd (k.eq n hlt) e
 ·exact e
 ·rcases k.stop with e | e
  ·have:=h.le;omega
  ·exact absurd (h.eq m hlt) e
theorem fK(d:List UInt8): ∀(L p q:Nat),zT d p q L (aX d p q L)
 | 0,p,q=>⟨Nat.le_refl _,(fun i h=>absurd h (Nat.not_lt_zero i)),.inl rfl⟩
 | L+1,p,q=>by
  unfold aX
  by_cases h:d.getD p 0=d.getD q 0
  ·rw[if_pos h]
   have ih:=fK d L (p+1) (q+1)
   refine⟨by have:=ih.le;omega,fun i hi=> ?_,?_⟩
   ·cases i with
    | zero=>exact h
    | succ i=>
     have:=ih.eq i (by omega)
     rw[show p+1+i=p+(i+1) by omega,show q+1+i=q+(i+1) by omega]at this
     exact this
   ·rcases ih.stop with e | e
    ·exact .inl (by omega)
    ·rw[show p+1+aX d (p+1) (q+1) L=p+(aX d (p+1) (q+1) L+1) by omega,show q+1+aX d (p+1) (q+1) L=q+(aX d (p+1) (q+1) L+1) by omega]at e
     exact .inr e
  ·rw[if_neg h]
   exact⟨Nat.zero_le _,(fun i hi=>absurd hi (Nat.not_lt_zero i)),.inr h⟩
theorem zT.is{d:List UInt8}{p q L n:Nat}(h:zT d p q L n):n=aX d p q L:=h.unique (fK d L p q)
def lim(d:List UInt8)(p:Nat)(most:Int):Nat:=(min most ((d.length:Int)-(p:Int))).toNat
def eY(f:Nat→Nat):Nat→Nat×Nat
 | 0=>(0,0)
 | D+1=>if(eY f D).1<f (D+1)then(f (D+1),D+1)else eY f D
def CP(l:List UInt8)(dict nice:Int)(p:Nat)(most:Int):Nat×Nat:=
 if(eY (fun k=>aX l p (p-k) (lim l p (min nice most))) (min (p:Int) dict).toNat).1<2 then(0,0)else eY (fun k=>aX l p (p-k) (lim l p (min nice most))) (min (p:Int) dict).toNat
structure CQ(f:Nat→Nat)(D n k:Nat):Prop where
 le: ∀j,1≤j→j≤D→f j≤n
 lt: ∀j,1≤j→j<k→f j<n
 at_:(n=0∧k=0)∨(1≤k∧k≤D∧f k=n∧0<n)
theorem mG(f:Nat→Nat): ∀D,CQ f D (eY f D).1 (eY f D).2
 | 0=>⟨fun j h1 h2=>by omega,fun j h1 h2=>by simp[eY]at h2,.inl ⟨rfl,rfl⟩⟩
 | D+1=>by
  have ih:=mG f D
  unfold eY
  by_cases h:(eY f D).1<f (D+1)
  ·rw[if_pos h]
   refine⟨fun j h1 h2=> ?_,fun j h1 h2=> ?_,.inr ⟨by simp,by simp,rfl,by show 0<f (D+1);omega⟩⟩
   ·show f j≤f (D+1)
    rcases Nat.lt_or_ge j (D+1)with h3 | h3
    ·have:=ih.le j h1 (by omega);omega
    ·obtain rfl:j=D+1:=by omega
     exact Nat.le_refl _
   ·have h2:j<D+1:=h2
    show f j<f (D+1)
    have:=ih.le j h1 (by omega);omega
  ·rw[if_neg h]
   refine⟨fun j h1 h2=> ?_,ih.lt,?_⟩
   ·rcases Nat.lt_or_ge j (D+1)with h3 | h3
    ·exact ih.le j h1 (by omega)
    ·obtain rfl:j=D+1:=by omega
     omega
   ·rcases ih.at_ with e | ⟨e1,e2,e3⟩
    ·exact .inl e
    ·exact .inr ⟨e1,by omega,e3⟩
theorem CQ.unique{f:Nat→Nat}{D n k n' k':Nat}(h:CQ f D n k)(h':CQ f D n' k'):n=n'∧k=k':=by
 have hn:n=n':=by
  rcases h.at_ with⟨e1,e2⟩ | ⟨e1,e2,e3,e4⟩
  ·rcases h'.at_ with⟨e1',_⟩ | ⟨a1,a2,a3,a4⟩
   ·omega
   ·have:=h.le k' a1 a2;omega
  ·rcases h'.at_ with⟨a1,_⟩ | ⟨a1,a2,a3,a4⟩
   ·have:=h'.le k e1 e2;omega
   ·have b1:=h.le k' a1 a2
    have b2:=h'.le k e1 e2
    omega
 refine⟨hn,?_⟩
 subst hn
 rcases h.at_ with⟨e1,e2⟩ | ⟨e1,e2,e3,e4⟩
 ·rcases h'.at_ with⟨_,a2⟩ | ⟨a1,a2,a3,a4⟩
  ·omega
  ·omega
 ·rcases h'.at_ with⟨a1,_⟩ | ⟨a1,a2,a3,a4⟩
  ·omega
  ·rcases Nat.lt_trichotomy k k' with hlt | e | hlt
   ·have:=h'.lt k e1 hlt;omega
   ·exact e
   ·have:=h.lt k' a1 hlt;omega
structure dY(S:Nat→Prop)(f:Nat→Nat)(n k:Nat):Prop where
 le: ∀j,S j→f j≤n
 lt: ∀j,S j→j<k→f j<n
 at_:(n=0∧k=0)∨(S k∧f k=n∧0<n)
theorem dY.none(f:Nat→Nat):dY (fun _=>False) f 0 0:=⟨fun _ h=>h.elim,fun _ h=>h.elim,.inl ⟨rfl,rfl⟩⟩
theorem dY.iff{S T:Nat→Prop}{f:Nat→Nat}{n k:Nat}(h:dY S f n k)(e: ∀j,T j↔S j):dY T f n k:=
 ⟨fun j hj=>h.le j ((e j).1 hj),fun j hj=>h.lt j ((e j).1 hj),h.at_.imp id fun⟨a,b⟩=>⟨(e k).2 a,b⟩⟩
theorem dY.skip{S:Nat→Prop}{f:Nat→Nat}{n k j:Nat}(h:dY S f n k)(hj: ∀s,S s→s<j)(hf:f j≤n):dY (fun x=>S x∨x=j) f n k:=by
 refine⟨?_,?_,?_⟩
 ·rintro x (hx | rfl)
  ·exact h.le x hx
  ·exact hf
 ·rintro x (hx | rfl) hlt
  ·exact h.lt x hx hlt
  ·rcases h.at_ with⟨_,e⟩ | ⟨e,_⟩
   ·omega
   ·have:=hj k e;omega
 ·rcases h.at_ with e | ⟨e,e2⟩
  ·exact .inl e
  ·exact .inr ⟨.inl e,e2⟩
theorem dY.take{S:Nat→Prop}{f:Nat→Nat}{n k j:Nat}(h:dY S f n k)(hj: ∀s,S s→s<j)(hf:n<f j):dY (fun x=>S x∨x=j) f (f j) j:=by
 refine⟨?_,?_,.inr ⟨.inr rfl,rfl,by omega⟩⟩
 ·rintro x (hx | rfl)
  ·have:=h.le x hx;omega
  ·exact Nat.le_refl _
 ·rintro x (hx | rfl) hlt
  ·have:=h.le x hx;omega
  ·omega
theorem kZ(d:List UInt8)(p q L:Nat):aX d p q L≤L:=(fK d L p q).le
theorem SG{d:List UInt8}{p q L n:Nat}(h:d.getD (q+n) 0≠d.getD (p+n) 0):aX d p q L≤n:=by
 rcases Nat.lt_or_ge n (aX d p q L)with hl | hl
 ·exact absurd ((fK d L p q).eq n hl).symm h
 ·exact hl
theorem dY.all{S:Nat→Prop}{f:Nat→Nat}{n k D m:Nat}(h:dY S f n k)(hS: ∀j,S j→1≤j∧j≤D)(hm: ∀j,1≤j→j≤D→m≤f j→S j)(hn:m≤n)(h0:0<m):CQ f D n k:=by
 refine⟨fun j h1 h2=> ?_,fun j h1 h2=> ?_,?_⟩
 ·rcases Nat.lt_or_ge (f j) m with h3 | h3
  ·omega
  ·exact h.le j (hm j h1 h2 h3)
 ·rcases h.at_ with⟨e,_⟩ | ⟨e,_⟩
  ·omega
  ·have hk:=(hS k e).2
   rcases Nat.lt_or_ge (f j) m with h3 | h3
   ·omega
   ·exact h.lt j (hm j h1 (by omega) h3) h2
 ·rcases h.at_ with e | ⟨e,e2,e3⟩
  ·omega
  ·exact .inr ⟨(hS k e).1,(hS k e).2,e2,e3⟩
theorem KC{d:List UInt8}{p q L M:Nat}(hM:M≤L):aX d p q M=min (aX d p q L) M:=by
 have h:=fK d L p q
 refine(zT.is (n:=min (aX d p q L) M) ⟨Nat.min_le_right _ _,fun i hi=>h.eq i (by omega),?_⟩).symm
 rcases Nat.lt_or_ge (aX d p q L) M with hl | hl
 ·rw[Nat.min_eq_left (by omega)]
  rcases h.stop with e | e
  ·omega
  ·exact .inr e
 ·exact .inl (by omega)
section
open Go Go.RowKit
variable{F:Fence}{n:Nat}{P:Program}
def CS(F:Fence)(n:Nat)(P:Program)(g:Nat)(lb:Array Value)(L:List Nat)(w:World):Prop:=
 ∀(l:Nat) (J:List Nat→World→Prop) (Jx:World→Prop) (W:World),(∀s W,J s W→Below w.heap.size w W)→(∀s W m,J s W→J s (W.drewN m))→(∀W m,Jx W→Jx (W.drewN m))→
  (∀pre x t W1,L=pre++x::t→J pre W1→YieldAt F (n-1) P l #[.int .i64 (x:Nat)] W1 fun e W'=>
   (e= .returned (.bool true)∧J (pre++[x]) W')∨(e= .returned (.bool false)∧Jx W'))→
  J [] W→
  CallsIn F n P g (#[.func (.yield l) #[] #[]]++lb) W fun e W'=>(∃v,e= .returned v)∧(J L W'∨Jx W')
theorem CS.below{g:Nat}{lb:Array Value}{L:List Nat}{w w':World}(h:CS F n P g lb L w)(hb:Below w.heap.size w w'):CS F n P g lb L w':=
 fun l J Jx W hB hJ hJx hY h0=>h l J Jx W (fun s W hs=>hb.trans ((hB s W hs).mono hb.size)) hJ hJx hY h0
def Xy(I:List Nat→World→Prop)(Ix:Code→World→Prop)(xs:List Nat)(W:World):Exit→Act→World→Prop
 | .normal,_,W'=>KeepsOthers W W'∧I xs W'
 | .exit id,_,W'=>KeepsOthers W W'∧Ix (.exit id) W'
 | _,_,_=>False
theorem FM{g:Operand}{ps:Array Tmp}{assign body:Code}{Q:Exit→Act→World→Prop}{a:Act}{w:World}
  (hro:F.round=none) (h1:1≤n) {gf:Nat} {lb:Array Value} (hg:a.eval g= .func (.func gf) #[] lb) (hFg:F.fn gf) (eg: ∀args w,(callFunc gf args).run P w= .ok (.enter gf args) w)
  {L:List Nat} {w0:World} (hseq:CS F (n-1) P gf lb L w0) (hps:ps.size=1)
  (I:List Nat→World→Prop) (Ix:Code→World→Prop)
  (hIa: ∀s W o,I s W→I s (W.alloc o)) (Oc: ∀s W l o o',I s W→w.heap.size≤l→W.heap[l]? =some o→o.isCells=false→I s (W.putObj l o')) (hIb: ∀s W,I s W→Below w0.heap.size w0 W) (hId: ∀s W m,I s W→I s (W.drewN m))
  (hXp: ∀c W l o o',Ix c W→w.heap.size≤l→W.heap[l]? =some o→o.isCells=false→Ix c (W.putObj l o')) (hXd: ∀c W m,Ix c W→Ix c (W.drewN m)) (h0:I [] w) (a₁:Nat→Act)
  (hassign: ∀(l:Nat) (x:Nat) (W:World) (K:Act→World→Prop),K (a₁ x) W→
   assign.wpIn (F.inRound l) (n-1-1) P (Exit.then K (fun _ _ _=>False)) {tmps:=(ps.zip #[.int .i64 (x:Nat)]).foldl (fun t (p,v)=>t.setIfInBounds p v) a.tmps,defers:=[]} W)
  (hbody: ∀(l:Nat) (pre:List Nat) (x:Nat) (t:List Nat) (W:World),L=pre++x::t→I pre W→body.wpIn (F.inRound l) (n-1-1) P (Xy I Ix (pre++[x]) W) (a₁ x) W)
  (hdone: ∀(D:Nat) (W:World),w.heap.size≤D→I L W→W.heap[D]? =some (.deferred (some []))→Q .normal {a with defers:={target:= .collected D,args:= #[]}::a.defers} W)
  (hstop: ∀(D:Nat) (c:Code) (W:World),w.heap.size≤D→Ix c W→W.heap[D]? =some (.deferred (some []))→c.wpIn F n P Q {a with defers:={target:= .collected D,args:= #[]}::a.defers} W):
  (Code.rangeFunc g ps assign body).wpIn F n P Q a w:=by
 refine wpIn_rangeFunc fun fn hfn=> ?_
 rw[hro]
 obtain⟨rec,hrec⟩: ∃rec:LoopState→Option Code→Loop,rec=fun st pe=>{state:=st,pending:=pe,fn,tmps:=a.tmps,params:=ps,assign,body,defers:=w.heap.size}:=⟨_,rfl⟩
 obtain⟨W1,hW1⟩: ∃W1,(w.alloc (.deferred (some []))).alloc (.loop (rec .ready none))=W1:=⟨_,rfl⟩
 have hL1:W1.heap[w.heap.size+1]? =some (.loop (rec .ready none)):=by
  rw[←hW1];have:=World.alloc_heap_new (w.alloc (.deferred (some []))) (.loop (rec .ready none));rwa [World.size_alloc]at this
 have hK1:W1.heap[w.heap.size]? =some (.deferred (some [])):=by
  rw[←hW1];exact(Below.heap_alloc _ _ _ (by simp)).trans (World.alloc_heap_new w _)
 have hI1:I [] W1:=by rw[←hW1];exact hIa _ _ _ (hIa _ _ _ h0)
 refine⟨w.heap.size+1,[{target:= .collected w.heap.size,args:= #[]}],W1,{target:= .fn (.func gf) lb,args:= #[.func (.yield (w.heap.size+1)) #[] #[]]},W1,gf,
  #[.func (.yield (w.heap.size + 1)) #[] #[]] ++ lb, W1, ?_, ?_, ?_, ?_, fun _ => h1, ?_⟩
 ·rw[←hW1,hrec];exact run_enterLoop_outer _ _ _ _ _
 ·simp only[resolve,hg]
  simp[go_sem]
 ·intro f' hf';simp[Target.leads]at hf';subst hf';exact hFg
 ·simp[invoke,go_sem,eg]
 ·refine(hseq (w.heap.size+1)
   (fun pre W=>I pre W∧W.heap[w.heap.size+1]? =some (.loop (rec .ready none))∧W.heap[w.heap.size]? =some (.deferred (some [])))
   (fun W=> ∃c,Ix c W∧W.heap[w.heap.size+1]? =some (.loop (rec .done (some c)))∧W.heap[w.heap.size]? =some (.deferred (some [])))
   W1 (fun s W hs=>hIb s W hs.1) (fun s W m hs=>⟨hId s W m hs.1,hs.2.1,hs.2.2⟩) (fun W m hs=>by obtain⟨c,h⟩:=hs;exact⟨c,hXd c W m h.1,h.2.1,h.2.2⟩) ?_ ⟨hI1,hL1,hK1⟩).mono ?_
  ·rintro pre x t W hsplit ⟨hi,hl,hk⟩
   have hlt:w.heap.size+1<W.heap.size:=(Array.getElem?_eq_some_iff.1 hl).1
   have hy:=run_yield (P:=P) (args:= #[.int .i64 (x:Nat)]) hl (by rw[hrec];simp[hps])
   rw[hrec]at hy
   refine⟨fn,_,assign,body,hy,roundIn_of_wpIn hfn (hassign _ x W _ ⟨_,run_beginRound hl (by rw[hrec]),?_⟩)⟩
   have hl2:(W.putObj (w.heap.size+1) (.loop {rec .ready none with state:= .busy})).heap[w.heap.size+1]? =some (.loop {rec .ready none with state:= .busy}):=World.putObj_heap_same hlt
   have hk2:(W.putObj (w.heap.size+1) (.loop {rec .ready none with state:= .busy})).heap[w.heap.size]? =some (.deferred (some [])):=(World.putObj_heap_other (by omega)).trans hk
   refine wpIn_mono (hbody _ pre x t _ hsplit (Oc _ _ _ _ _ hi (by omega) hl rfl)) ?_
   have fin: ∀(jump:Option Code) (W3:World),KeepsOthers (W.putObj (w.heap.size+1) (.loop {rec .ready none with state:= .busy})) W3→
     (Instr.endRound (w.heap.size+1) jump).run P W3= .ok (.bool jump.isNone) (W3.putObj (w.heap.size+1) (.loop (rec (if jump.isNone then .ready else .done) jump)))∧
     W3.heap[w.heap.size+1]? =some (.loop {rec .ready none with state:= .busy})∧
     (W3.putObj (w.heap.size+1) (.loop (rec (if jump.isNone then .ready else .done) jump))).heap[w.heap.size+1]? =some (.loop (rec (if jump.isNone then .ready else .done) jump))∧
     (W3.putObj (w.heap.size+1) (.loop (rec (if jump.isNone then .ready else .done) jump))).heap[w.heap.size]? =some (.deferred (some [])):=fun jump W3 hk3=>by
    have hl3:=hk3.same _ _ hl2 rfl
    have:=run_endRound (P:=P) jump hl3
    rw[hrec]at this ⊢
    exact⟨this,by rw[hrec]at hl3;exact hl3,World.putObj_heap_same (Array.getElem?_eq_some_iff.1 hl3).1,(World.putObj_heap_other (by omega)).trans (hk3.same _ _ hk2 rfl)⟩
   rintro e a3 W3 hp
   cases e with
   | normal=>
    obtain⟨hk3,hi3⟩:=hp
    obtain⟨hr,hl3,hl4,hk4⟩:=fin none W3 hk3
    exact⟨_,_,hr,.inl ⟨rfl,Oc _ _ _ _ _ hi3 (by omega) hl3 rfl,hl4,hk4⟩⟩
   | exit id=>
    obtain⟨hk3,hi3⟩:=hp
    obtain⟨hr,hl3,hl4,hk4⟩:=fin (some (.exit id)) W3 hk3
    exact⟨_,_,hr,.inr ⟨rfl,.exit id,hXp _ _ _ _ _ hi3 (by omega) hl3 rfl,hl4,hk4⟩⟩
   | ret=>exact hp.elim
   | goto t=>exact hp.elim
   | panic ch=>exact hp.elim
   | outgrown=>exact hp.elim
  ·rintro e W2 ⟨⟨v,rfl⟩,⟨hi,hl,hk⟩ | ⟨c,hi,hl,hk⟩⟩
   ·exact⟨none,_,by have:=run_endLoop (P:=P) hl (by rw[hrec];simp);rw[hrec]at this;exact this,hdone _ _ (Nat.le_refl _) (Oc _ _ _ _ _ hi (by omega) hl rfl) ((World.putObj_heap_other (by omega)).trans hk)⟩
   ·exact⟨some c,_,by have:=run_endLoop (P:=P) hl (by rw[hrec];simp);rw[hrec]at this;exact this,hstop _ c _ (Nat.le_refl _) (hXp _ _ _ _ _ hi (by omega) hl rfl) ((World.putObj_heap_other (by omega)).trans hk)⟩
def xH:List Oper→Bool
 | []=>true
 | o::l=>(match o.op with | .defer _=>false | _=>true)&&xH l
theorem zU: ∀{l:List Oper},xH l=true→ ∀o∈l,∀c,o.op≠ .defer c
 | [],_,o,ho=>by cases ho
 | o'::l,h,o,ho=>by
  rw[xH,Bool.and_eq_true]at h
  intro c e
  rcases List.mem_cons.1 ho with rfl | ho
  ·have:=h.1;rw[e]at this;cases this
  ·exact zU h.2 o ho c e
theorem FN{md:Region.Mode}{l:List Oper}{Q:Exit→Act→World→Prop}{r:Nat}(hro:F.round=none)(hd:xH l=true): ∀(fuel:Nat) (listed:Array Bool) (a:Act) (w:World),wpAnyIn F n P md l.toArray Q fuel listed a w→wpAnyIn (F.inRound r) n P md l.toArray Q fuel listed a w:=by
 intro fuel
 induction fuel with
 | zero=>exact fun listed a w h=>h
 | succ fuel ih=>
  intro listed a w h
  refine⟨h.1,fun i hi=> ?_⟩
  have hs:=h.2 i hi
  unfold wpOpIn at hs ⊢
  split
  ·rename_i ho;simp only[ho]at hs;exact ih _ _ _ hs
  ·rename_i o ho
   simp only[ho]at hs
   have hm:o∈l:=by
    have:l[i]? =some o:=by simpa using ho
    exact List.mem_of_getElem? this
   split
   ·rename_i hw
    simp only[hw,if_true]at hs
    refine Oper.wpIn_mono (K:=wpAnyIn F n P md l.toArray Q fuel (listed.setIfInBounds i true)) (fun a w h=>ih _ _ _ h) ?_
    unfold Oper.wpIn at hs ⊢
    rw[hro,Oper.semAt_none]at hs
    rw[Fence.inRound_round,Oper.semAt_some _ _ _ (zU hd o hm)]
    exact hs
   ·rename_i hw
    rw[if_neg hw]at hs
    exact⟨hs.1,ih _ _ _ hs.2⟩
theorem eX{id r:Nat}{Q:Exit→Act→World→Prop}{a:Act}{w:World}{l:List Oper}(hro:F.round=none)(hm:P.follows .mixedOrders=true)(hB:Region.lexB .any l.toArray=true)(hd:xH l=true)
  (h:wpQuietIn F n P l.toArray (fun w'=> ∃n,w'=w.drewN n) (fun a'=> ∀w',(∃n,w'=w.drewN n)→Q .normal a' w') l a):(Code.region id l.toArray true).wpIn (F.inRound r) n P Q a w:=by
 have hB2:=hB
 simp only[Region.lexB,Bool.and_eq_true]at hB2
 refine wpIn_region_any hm (FN hro hd _ _ _ _ (wpAnyIn_of_quiet (C:=fun w'=> ∃n,w'=w.drewN n) (Q:=fun a'=> ∀w',(∃n,w'=w.drewN n)→Q .normal a' w') hro (fun _ w' hw' h=>h w' hw') _ _ _ _ ⟨1,rfl⟩ ?_))
 have:=wpAnyQIn_lex (F:=F) (n:=n) (C:=fun w'=> ∃n,w'=w.drewN n) (md:= .any) hB2.1 l 0 (Array.replicate l.toArray.size false) a (by simp) (by simpa using hB2.2) h
 simpa using this
end
section
open Go.Maps Go.WideMaps
theorem abA:ArrKey Tryz.prog 189 5 2:=⟨Tryz.underlying189,by kernel_rfl,Bz,by kernel_rfl⟩
theorem ahZ:ArrKey Tryz.prog 191 5 4:=⟨Tryz.underlying191,by kernel_rfl,Bz,by kernel_rfl⟩
theorem Oe:Keyed Tryz.prog 189:=Keyed.of_law abA.law
theorem Iy:Keyed Tryz.prog 191:=Keyed.of_law ahZ.law
def qX(a b:UInt8):Value:= .agg #[.int .u8 (a.toNat:Nat),.int .u8 (b.toNat:Nat)]
def vF(a b c d:UInt8):Value:= .agg #[.int .u8 (a.toNat:Nat),.int .u8 (b.toNat:Nat),.int .u8 (c.toNat:Nat),.int .u8 (d.toNat:Nat)]
theorem SH{a b a' b':UInt8}(h:qX a b=qX a' b'):a=a'∧b=b':=by
 unfold qX at h
 simp at h
 exact⟨UInt8.toNat_inj.1 (by omega),UInt8.toNat_inj.1 (by omega)⟩
theorem SI{a b c d a' b' c' d':UInt8}(h:vF a b c d=vF a' b' c' d'):a=a'∧b=b'∧c=c'∧d=d':=by
 unfold vF at h
 simp at h
 exact⟨UInt8.toNat_inj.1 (by omega),UInt8.toNat_inj.1 (by omega),UInt8.toNat_inj.1 (by omega),UInt8.toNat_inj.1 (by omega)⟩
theorem Xz(a:UInt8):(Lit.int .u8 (a.toNat:Nat)).wf=true:=by
 have h:=a.toNat_lt
 have e1:IntKind.u8.min=0:=rfl
 have e2:IntKind.u8.max=255:=rfl
 simp[Lit.wf,e1,e2];omega
theorem kt2:Tryz.prog.keyType 189=true:=by kernel_rfl
theorem kt4:Tryz.prog.keyType 191=true:=by kernel_rfl
theorem adu: ∃m,Tryz.prog.types.size=m+1:=⟨Tryz.prog.types.size-1,by kernel_rfl⟩
theorem key2(a b:UInt8): ∃l,keyOf Tryz.prog 189 (qX a b)=some l:=by
 obtain⟨m,hm⟩:=adu
 unfold keyOf qX
 rw[Tryz.underlying189,hm]
 simp[kt2,Value.formed,Tryz.underlying189,abA.size,Program.keyLits,Tryz.underlying5,Bz,Value.cells,Xz,List.range_succ,List.mapM_cons]
theorem ah0(a b c d:UInt8): ∃l,keyOf Tryz.prog 191 (vF a b c d)=some l:=by
 obtain⟨m,hm⟩:=adu
 unfold keyOf vF
 rw[Tryz.underlying191,hm]
 simp[kt4,Value.formed,Tryz.underlying191,ahZ.size,Program.keyLits,Tryz.underlying5,Bz,Value.cells,Xz,List.range_succ,List.mapM_cons]
noncomputable def SK(a b:UInt8):Lit:=Classical.choose (key2 a b)
theorem mJ(a b:UInt8):keyOf Tryz.prog 189 (qX a b)=some (SK a b):=Classical.choose_spec (key2 a b)
theorem XA{a b a' b':UInt8}(h:SK a b=SK a' b'):a=a'∧b=b':=SH (Oe.inj (mJ a b) (h▸mJ a' b'))
noncomputable def Og(a b c d:UInt8):Lit:=Classical.choose (ah0 a b c d)
theorem pJ(a b c d:UInt8):keyOf Tryz.prog 191 (vF a b c d)=some (Og a b c d):=Classical.choose_spec (ah0 a b c d)
theorem XB{a b c d a' b' c' d':UInt8}(h:Og a b c d=Og a' b' c' d'):a=a'∧b=b'∧c=c'∧d=d':=SI (Iy.inj (pJ a b c d) (h▸pJ a' b' c' d'))
end
end Go.Proofs.YtgfpocdiojifoaaGreatDoor
