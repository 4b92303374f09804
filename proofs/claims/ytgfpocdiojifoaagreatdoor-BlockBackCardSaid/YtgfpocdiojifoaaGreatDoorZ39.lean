import Derived.Test.YtgfpocdiojifoaaGreatDoorZ38
import Derived.Laws.BitsAllLaws
namespace Go.Proofs.YtgfpocdiojifoaaGreatDoor
set_option maxRecDepth 100000
set_option maxHeartbeats 8000000
open Go.RowKit
theorem Mc(gd o cap:Nat)(L:List UInt8)(at_:Nat)(v:Int): ∀(n m:Nat) (x:PD),Md.dF (ak gd o cap L) at_ v n m x=Md.dF (ak 0 0 0 L) at_ v n m x
 | 0,_,_=>rfl
 | n+1,m,x=>Mc gd o cap L at_ v n (2*m+((ak 0 0 0 L).au (at_+m) (Md.aG v n) x).1.toNat) ((ak 0 0 0 L).au (at_+m) (Md.aG v n) x).2
theorem Jk(gd o cap:Nat)(L:List UInt8)(at_ n:Nat)(v:Int)(x:PD):Md.tree (ak gd o cap L) at_ n v x=Md.tree (ak 0 0 0 L) at_ n v x:=
 congrArg (fun y:Nat×PD=>(y.1-2^n,y.2)) (Mc gd o cap L at_ v n 1 x)
theorem Rh(gd o cap:Nat)(L:List UInt8)(at_:Nat)(v:Int): ∀(k i m a:Nat) (x:PD),Md.jo (ak gd o cap L) at_ v k i m a x=Md.jo (ak 0 0 0 L) at_ v k i m a x
 | 0,_,_,_,_=>rfl
 | k+1,i,m,a,x=>Rh gd o cap L at_ v k (i+1) (2*m+((ak 0 0 0 L).au (at_+m) (Md.aG v i) x).1.toNat) (a+((ak 0 0 0 L).au (at_+m) (Md.aG v i) x).1.toNat*2^i) ((ak 0 0 0 L).au (at_+m) (Md.aG v i) x).2
theorem adX(gd o cap:Nat)(L:List UInt8)(at_ n:Nat)(v:Int)(x:PD):Md.rev (ak gd o cap L) at_ n v x=Md.rev (ak 0 0 0 L) at_ n v x:=Rh gd o cap L at_ v n 0 1 0 x
theorem ZE(gd o cap:Nat)(L:List UInt8)(A p:Nat)(l:Int)(x:PD):Md.len (ak gd o cap L) A p l x=Md.len (ak 0 0 0 L) A p l x:=by
 cases h1:((ak 0 0 0 L).au A (decide (8≤l-2)) x).1 with
 | false=>exact(show Md.len (ak gd o cap L) A p l x=_ from if_pos h1).trans ((congrArg (fun y:Nat×PD=>(2+y.1,y.2)) (Jk gd o cap L (A+2+8*p) 3 (l-2) _)).trans (show Md.len (ak 0 0 0 L) A p l x=_ from if_pos h1).symm)
 | true=>
  cases h2:((ak 0 0 0 L).au (A+1) (decide (16≤l-2)) ((ak 0 0 0 L).au A (decide (8≤l-2)) x).2).1 with
  | false=>exact(show Md.len (ak gd o cap L) A p l x=_ from(if_neg (not_false h1)).trans (if_pos h2)).trans ((congrArg (fun y:Nat×PD=>(10+y.1,y.2)) (Jk gd o cap L (A+130+8*p) 3 (l-2-8) _)).trans (show Md.len (ak 0 0 0 L) A p l x=_ from(if_neg (not_false h1)).trans (if_pos h2)).symm)
  | true=>exact(show Md.len (ak gd o cap L) A p l x=_ from(if_neg (not_false h1)).trans (if_neg (not_false h2))).trans ((congrArg (fun y:Nat×PD=>(18+y.1,y.2)) (Jk gd o cap L (A+258) 8 (l-2-16) _)).trans (show Md.len (ak 0 0 0 L) A p l x=_ from(if_neg (not_false h1)).trans (if_neg (not_false h2))).symm)
theorem PU(gd o cap:Nat)(L:List UInt8)(d:Nat)(y:Nat×PD):cu (ak gd o cap L) d y=cu (ak 0 0 0 L) d y:=by
 by_cases h1:y.1<4
 ·exact(show cu (ak gd o cap L) d y=_ from if_pos h1).trans (show cu (ak 0 0 0 L) d y=_ from if_pos h1).symm
 ·by_cases h2:y.1<14
  ·exact(show cu (ak gd o cap L) d y=_ from(if_neg h1).trans (if_pos h2)).trans ((congrArg (fun z:Nat×PD=>((2+y.1%2)*2^(y.1/2-1)+z.1+1,z.2)) (adX gd o cap L (1716+32*y.1) (y.1/2-1) (d:Nat) y.2)).trans (show cu (ak 0 0 0 L) d y=_ from(if_neg h1).trans (if_pos h2)).symm)
  ·exact(show cu (ak gd o cap L) d y=_ from(if_neg h1).trans (if_neg h2)).trans ((congrArg (fun z:Nat×PD=>((2+y.1%2)*2^(y.1/2-1)+((ak 0 0 0 L).plain y.2.2 (d/16%2^(y.1/2-1-4)) (y.1/2-1-4)).1%2^(y.1/2-1-4)*16+z.1+1,z.2)) (adX gd o cap L 2164 4 (d:Nat) (y.2.1,((ak 0 0 0 L).plain y.2.2 (d/16%2^(y.1/2-1-4)) (y.1/2-1-4)).2))).trans (show cu (ak 0 0 0 L) d y=_ from(if_neg h1).trans (if_neg h2)).symm)
theorem afS(gd o cap:Nat)(L:List UInt8)(l:Nat)(d:Int)(x:PD):Md.dist (ak gd o cap L) l d x=Md.dist (ak 0 0 0 L) l d x:=
 (uK (ak gd o cap L) l d x).trans ((PU gd o cap L _ _).trans ((congrArg (fun y=>cu (ak 0 0 0 L) ((d-1)%4294967296).toNat y) (Jk gd o cap L _ 6 _ x)).trans (uK (ak 0 0 0 L) l d x).symm))
theorem Ri(gd o cap:Nat)(L:List UInt8)(T like:Nat)(v:Int): ∀(n m:Nat) (al:Bool) (x:PD),Md.jA (ak gd o cap L) T like v n m al x=Md.jA (ak 0 0 0 L) T like v n m al x
 | 0,_,_,_=>rfl
 | n+1,_,_,_=>Ri gd o cap L T like v n _ _ _
theorem ajg(gd o cap:Nat)(L:List UInt8)(lc lp st:Nat)(a:Int)(H:List UInt8)(v:Int)(x:PD):Md.lit (ak gd o cap L) lc lp st a H v x=Md.lit (ak 0 0 0 L) lc lp st a H v x:=
 congrArg (fun y:Nat×PD=>(UInt8.ofNat y.1,y.2)) (Ri gd o cap L _ _ v 8 1 _ x)
theorem PV(gd o cap:Nat)(L:List UInt8)(st p:Nat)(l:Int)(w:Nat×PD):eu (ak gd o cap L) st p l w=eu (ak 0 0 0 L) st p l w:=by
 by_cases h1:w.1=0
 ·cases h2:((ak 0 0 0 L).au (240+16*st+p) (l !=1) w.2).1 with
  | false=>exact(show eu (ak gd o cap L) st p l w=_ from(if_pos h1).trans (if_pos h2)).trans (show eu (ak 0 0 0 L) st p l w=_ from(if_pos h1).trans (if_pos h2)).symm
  | true=>exact(show eu (ak gd o cap L) st p l w=_ from(if_pos h1).trans (if_neg (not_false h2))).trans ((congrArg (fun z:Nat×PD=>((0,z.1),z.2)) (ZE gd o cap L 946 p l ((ak 0 0 0 L).au (240+16*st+p) (l !=1) w.2).2)).trans (show eu (ak 0 0 0 L) st p l w=_ from(if_pos h1).trans (if_neg (not_false h2))).symm)
 ·exact(show eu (ak gd o cap L) st p l w=_ from if_neg h1).trans ((congrArg (fun z:Nat×PD=>((w.1,z.1),z.2)) (ZE gd o cap L 946 p l w.2)).trans (show eu (ak 0 0 0 L) st p l w=_ from if_neg h1).symm)
theorem afT(gd o cap:Nat)(L:List UInt8)(st p:Nat)(l q:Int)(x:PD):Md.ni (ak gd o cap L) st p l q x=Md.ni (ak 0 0 0 L) st p l q x:=PV gd o cap L st p l (Md.which (ak 0 0 0 L) st q x)
theorem ajh(gd o cap:Nat)(L:List UInt8)(lc lp pb st:Nat)(r:R4)(H:List UInt8)(k:Int)(b:UInt8)(l d q:Int)(x:PD):Md.sym (ak gd o cap L) lc lp pb st r H k b l d q x=Md.sym (ak 0 0 0 L) lc lp pb st r H k b l d q x:=by
 cases h1:((ak 0 0 0 L).au (16*st+H.length%2^pb) (k !=0) x).1 with
 | false=>exact(show Md.sym (ak gd o cap L) lc lp pb st r H k b l d q x=_ from if_pos h1).trans ((congrArg (fun z:UInt8×PD=>((⟨0,z.1,0,0,0⟩:Sy),bU st,r,z.2)) (ajg gd o cap L lc lp st r.1 H (b.toNat:Nat) ((ak 0 0 0 L).au (16*st+H.length%2^pb) (k !=0) x).2)).trans (show Md.sym (ak 0 0 0 L) lc lp pb st r H k b l d q x=_ from if_pos h1).symm)
 | true=>
  cases h2:((ak 0 0 0 L).au (192+st) (k !=1) ((ak 0 0 0 L).au (16*st+H.length%2^pb) (k !=0) x).2).1 with
  | false=>
   refine(show Md.sym (ak gd o cap L) lc lp pb st r H k b l d q x=_ from(if_neg (not_false h1)).trans (if_pos h2)).trans (Eq.trans ?_ (show Md.sym (ak 0 0 0 L) lc lp pb st r H k b l d q x=_ from(if_neg (not_false h1)).trans (if_pos h2)).symm)
   have e1:=ZE gd o cap L 432 (H.length%2^pb) l ((ak 0 0 0 L).au (192+st) (k !=1) ((ak 0 0 0 L).au (16*st+H.length%2^pb) (k !=0) x).2).2
   have e2:=fun(n:Nat×PD)=>afS gd o cap L n.1 d n.2
   exact(congrArg (fun n:Nat×PD=>((⟨1,0,n.1,(Md.dist (ak gd o cap L) n.1 d n.2).1,0⟩:Sy),(if st<7 then 7 else 10),aS r 3 ((Md.dist (ak gd o cap L) n.1 d n.2).1:Nat),(Md.dist (ak gd o cap L) n.1 d n.2).2)) e1).trans (congrArg (fun z:Nat×PD=>((⟨1,0,(Md.len (ak 0 0 0 L) 432 (H.length%2^pb) l ((ak 0 0 0 L).au (192+st) (k !=1) ((ak 0 0 0 L).au (16*st+H.length%2^pb) (k !=0) x).2).2).1,z.1,0⟩:Sy),(if st<7 then 7 else 10),aS r 3 (z.1:Nat),z.2)) (e2 _))
  | true=>
   refine(show Md.sym (ak gd o cap L) lc lp pb st r H k b l d q x=_ from(if_neg (not_false h1)).trans (if_neg (not_false h2))).trans (Eq.trans ?_ (show Md.sym (ak 0 0 0 L) lc lp pb st r H k b l d q x=_ from(if_neg (not_false h1)).trans (if_neg (not_false h2))).symm)
   exact congrArg (fun z:(Nat×Nat)×PD=>((⟨2,0,z.1.2,0,z.1.1⟩:Sy),(if st<7 then(if z.1.2=1 then 9 else 8)else 11),aS r z.1.1 (r4 r.1 r.2.1 r.2.2.1 r.2.2.2 z.1.1),z.2)) (afT gd o cap L st (H.length%2^pb) l q ((ak 0 0 0 L).au (192+st) (k !=1) ((ak 0 0 0 L).au (16*st+H.length%2^pb) (k !=0) x).2).2)
theorem ZF(x:Nat)(hx:x<2^64):x &&& (18446744073709551615-15)=x/16*16:=by
 have e1:(18446744073709551615-15:Nat)=(2^60-1)*2^4:=by decide
 rw[e1]
 apply Nat.eq_of_testBit_eq
 intro i
 have e2:x/16*16=x/2^4*2^4:=rfl
 rw[e2,Nat.testBit_and,Nat.testBit_mul_two_pow,Nat.testBit_mul_two_pow,Nat.testBit_two_pow_sub_one,Nat.testBit_div_two_pow]
 by_cases h4:4≤i
 ·have e3:i-4+4=i:=by omega
  rw[e3]
  by_cases h60:i-4<60
  ·simp[h4,h60]
  ·have hb:x.testBit i=false:=Nat.testBit_lt_two_pow (Nat.lt_of_lt_of_le hx (Nat.pow_le_pow_right (by decide) (by omega)))
   simp[hb]
 ·simp[h4]
theorem ZG(n:Nat)(hn:n<9223372036854775808):bits .andNot .i64 (n:Int) 15=((n/16*16:Nat):Int):=by
 show IntKind.i64.wrap ((BitVec.ofInt 64 (n:Int) &&& ~~~BitVec.ofInt 64 15).toNat:Int)=_
 have h1:(BitVec.ofInt 64 (n:Int)).toNat=n:=by
  rw[BitVec.toNat_ofInt];omega
 have h2:(BitVec.ofInt 64 (15:Int)).toNat=15:=by decide
 rw[BitVec.toNat_and,BitVec.toNat_not,h1,h2]
 have e:2^64-1-15=18446744073709551615-15:=by decide
 rw[e,ZF n (by omega)]
 have hle:n/16*16≤n:=Nat.div_mul_le_self n 16
 generalize n/16*16=q at*
 unfold IntKind.wrap
 simp[IntKind.bits,IntKind.signed]
 omega
def iY(n:Nat)(back:Int):Nat:=(max ((n:Int)-back) 0).toNat/16*16
theorem Ey(n:Nat){back:Int}(h:0≤back):iY n back≤n:=by
 unfold iY
 have:=Nat.div_mul_le_self (max ((n:Int)-back) 0).toNat 16
 omega
theorem Me(A:Option Addr)(H:List UInt8)(c:Nat)(back:Int)(w:World)(hc:H.length≤c)(hH:H.length≤1000000000)(h1:1≤back)(h2:back≤9223372036854775807):
  Calls Tryz.prog 230 #[.slice A H.length c,.int .i64 back] w fun e w'=>e= .returned (.slice (if c=iY H.length back then A else A.map (·.add (iY H.length back))) (H.length-iY H.length back) (c-iY H.length back))∧w=w':=by
 obtain⟨n,hn⟩: ∃n,H.length=n:=⟨_,rfl⟩
 rw[hn]at hc hH ⊢
 obtain⟨m,hm⟩: ∃m:Nat,(max ((n:Int)-back) 0).toNat=m:=⟨_,rfl⟩
 have Nj:max ((n:Int)-back) 0=(m:Int):=by omega
 have hmn:m≤n:=by omega
 have hcut:iY n back=m/16*16:=by unfold iY;rw[hm]
 have hb:=ZG m (by omega)
 have hle:m/16*16≤m:=Nat.div_mul_le_self m 16
 rw[hcut]
 generalize m/16*16=q at*
 have hni:(n:Int)≤1000000000:=by omega
 have hqn:(q:Int)≤(n:Int):=by omega
 have hci:(n:Int)≤(c:Int):=by omega
 have hsb:wrap64 ((n:Int)-back)=(n:Int)-back:=by unfold wrap64;omega
 obtain⟨AT,hAT⟩: ∃AT,(if c=q then A else A.map (·.add q))=AT:=⟨_,rfl⟩
 rw[hAT]
 have HAT:=Lib.hid hAT
 clear hn hm hcut hAT
 go_enter Tryz.func230,Tryz.ntmps230
 go_wp2_with fail
 ·go_ret
  refine⟨?_,rfl⟩
  rw[←HAT.out,if_pos (by first | assumption | omega)];rfl
 ·go_ret
  refine⟨?_,rfl⟩
  rw[←HAT.out,if_neg (by assumption)];rfl
structure jy where
 out:List UInt8
 start:Nat
 clear:Bool
 asked:Bool
 lc:Nat
 lp:Nat
 pb:Nat
 st:Nat
 r:R4
 P:Nat→Nat
inductive yN where
 | bad (n:Nat)
 | go (pos:Nat) (s:jy)
def Rj:jy:=⟨[],0,false,false,0,0,0,0,(1,1,1,1),fun _=>1024⟩
def dI(B:List UInt8)(i:Nat):Nat:=256*(B.getD i 0).toNat+(B.getD (i+1) 0).toNat
theorem nN(B:List UInt8)(i:Nat):dI B i<65536:=by
 unfold dI
 have h1:=(B.getD i 0).toNat_lt
 have h2:=(B.getD (i+1) 0).toNat_lt
 omega
theorem UQ(B:List UInt8){k n i:Nat}(h:i+2≤n):dI ((B.drop k).take n) i=dI B (k+i):=by
 unfold dI
 have e: ∀j,j<n→((B.drop k).take n).getD j 0=B.getD (k+j) 0:=fun j hj=>by
  simp only[List.getD_eq_getElem?_getD,List.getElem?_take,List.getElem?_drop,hj,if_true]
 rw[e i (by omega),e (i+1) (by omega)];rfl
def iP(B:List UInt8)(pos:Nat)(s:jy):yN:=
 if B.length<pos+2 then .bad 2
 else if B.length<pos+2+(dI B pos+1)then .bad 2
 else .go (pos+2+(dI B pos+1)) {s with out:=s.out++(B.drop (pos+2)).take (dI B pos+1)}
def qO(L:List UInt8)(h:Nat)(pos:Nat)(s:jy):Option (List UInt8×Nat×R4×PD)→yN
 | none=> .bad 6
 | some (T,st,r,y)=>if y.2.done L=true then .go pos {s with out:=s.out++T.drop h,st:=st,r:=r,P:=y.1}else .bad 6
def fC(L:List UInt8)(size:Nat)(dict:Int)(pos:Nat)(s:jy):yN:=
 if L.length<5 then .bad 6
 else if L.getD 0 0≠0 then .bad 6
 else qO L (s.out.drop s.start).length pos s (bW 0 0 0 L s.lc s.lp s.pb dict ((s.out.drop s.start).length+size) size (s.out.drop s.start) s.st s.r (s.P,Rd.start L))
def fG(c:Nat)(B:List UInt8)(pos:Nat)(s:jy):yN:=
 if c<192 then .go pos s
 else if B.length<pos+1 then .bad 2
 else .go (pos+1) {s with lc:=(B.getD pos 0).toNat%9,lp:=(B.getD pos 0).toNat/9%5,pb:=(B.getD pos 0).toNat/45,asked:=false}
def aP(s:jy):jy:={s with st:=0,r:=(1,1,1,1),P:=fun _=>1024}
def gV(c:Nat)(pos:Nat)(s:jy):yN:=
 if c<160 then .go pos s
 else if lS (s.lc:Nat) (s.lp:Nat) (s.pb:Nat)=false then .bad 6
 else .go pos (aP s)
def dA(B:List UInt8)(many size:Nat)(dict:Int)(pos:Nat)(s:jy):yN:=
 if B.length<pos+many then .bad 2 else fC ((B.drop pos).take many) size dict (pos+many) s
def yN.then(x:yN)(f:Nat→jy→yN):yN:=
 match x with
 | .bad n=> .bad n
 | .go pos s=>f pos s
def jE(B:List UInt8)(dict:Int)(c pos:Nat)(s:jy):yN:=
 if B.length<pos+4 then .bad 2
 else((fG c B (pos+4) s).then (gV c)).then (dA B (dI B (pos+2)+1) (65536*(c%32)+dI B pos+1) dict)
def unclear(c:Nat)(s:jy):jy:=if c=1∨224≤c then{s with start:=s.out.length,clear:=true,asked:=true}else s
def aW(B:List UInt8)(dict:Int)(c pos:Nat)(s:jy):yN:=
 if s.clear=false∨(2<c∧c<128)then .bad 6
 else if c≤2 then iP B pos s
 else if c<192∧s.asked=true then .bad 6
 else jE B dict c pos s
def bI(B:List UInt8)(dict:Int)(c pos:Nat)(s:jy):yN:=aW B dict c pos (unclear c s)
def bF(B:List UInt8)(dict:Int):Nat→Nat→jy→List UInt8×Nat×Nat
 | 0,_,_=>([],0,2)
 | f+1,pos,s=>
  if B.length<pos+1 then([],0,2)
  else if(B.getD pos 0).toNat=0 then(s.out,pos+1,0)
  else match bI B dict (B.getD pos 0).toNat (pos+1) s with
   | .bad n=>([],0,n)
   | .go p t=>bF B dict f p t
def jl(B:List UInt8)(dict:Int):Nat→Nat→jy→Prop
 | 0,_,s=>s.out.length≤400000000
 | f+1,pos,s=>s.out.length≤400000000∧(pos<B.length→(B.getD pos 0).toNat≠0→
  match bI B dict (B.getD pos 0).toNat (pos+1) s with
  | .bad _=>True
  | .go p t=>jl B dict f p t)
theorem PW{gd o cap:Nat}{L:List UInt8}{lc lp pb:Nat}{dict:Int}{fin:Nat}: ∀(f:Nat) (T:List UInt8) (st:Nat) (r:R4) (y:PD),bW gd o cap L lc lp pb dict fin f T st r y=bW 0 0 0 L lc lp pb dict fin f T st r y:=by
 intro f
 induction f with
 | zero=>intro T st r y;rfl
 | succ f ih=>
  intro T st r y
  obtain⟨⟨s,st',r',y'⟩,ht⟩: ∃t,Md.sym (ak gd o cap L) lc lp pb st r T 0 0 0 0 0 y=t:=⟨_,rfl⟩
  have ht0:Md.sym (ak 0 0 0 L) lc lp pb st r T 0 0 0 0 0 y=(s,st',r',y'):=(ajh gd o cap L lc lp pb st r T 0 0 0 0 0 y).symm.trans ht
  by_cases h:fin≤T.length
  ·rw[mP h,mP h]
  ·have h1:T.length<fin:=by omega
   by_cases ho:y'.2.out=true
   ·rw[pX h1 ht ho,pX h1 ht0 ho]
   ·have ho':y'.2.out=false:=by simpa using ho
    by_cases hk:s.k=0
    ·rw[mQ h1 ht ho' hk,mQ h1 ht0 ho' hk];exact ih _ _ _ _
    ·by_cases hb:min (T.length:Int) dict<r'.1∨fin-T.length<s.l
     ·rw[pY h1 ht hk hb,pY h1 ht0 hk hb]
     ·rw[mV h1 ht ho' hk hb,mV h1 ht0 ho' hk hb];exact ih _ _ _ _
theorem PX{gd o cap:Nat}{L:List UInt8}{lc lp pb:Nat}{dict:Int}(hlp:lp≤4)(hpb:pb≤4)(H:List UInt8)(many:Nat)(st:Nat)(r:R4)(y:PD)(hr:Ew r):
  bW gd o cap L lc lp pb dict (H.length-iY H.length (max dict r.1)+many) many (H.drop (iY H.length (max dict r.1))) st r y=(bW gd o cap L lc lp pb dict (H.length+many) many H st r y).map fun q=>(q.1.drop (iY H.length (max dict r.1)),q.2):=by
 have hr1:1≤r.1:=hr.1
 have hle:=Ey H.length (show 0≤max dict r.1 by omega)
 have hu:=PO (gd:=gd) (o:=o) (cap:=cap) (L:=L) (lc:=lc) (lp:=lp) (pb:=pb) (cut:=iY H.length (max dict r.1)) (dict:=dict) (fin:=H.length-iY H.length (max dict r.1)+many) hlp hpb many H st r y hr (by
  unfold iY
  generalize hx:(max ((H.length:Int)-max dict r.1) 0).toNat=x
  by_cases h0:x/16*16=0
  ·exact .inl h0
  ·refine .inr ⟨by omega,?_,?_,?_⟩
   ·omega
   ·omega
   ·omega)
 rw[hu,show H.length-iY H.length (max dict r.1)+many+iY H.length (max dict r.1)=H.length+many by omega]
theorem wP{gd o cap:Nat}{L:List UInt8}{lc lp pb:Nat}{dict:Int}{fin:Nat}: ∀(f:Nat) (T:List UInt8) (st:Nat) (r:R4) (y:PD) {q:List UInt8×Nat×R4×PD},bW gd o cap L lc lp pb dict fin f T st r y=some q→T.length≤q.1.length∧(T.length≤fin→q.1.length≤fin)
 | 0,T,st,r,y,q,h=>by
  unfold bW at h
  split at h
  ·injection h with h;rw[←h];exact⟨Nat.le_refl _,fun h=>h⟩
  ·cases h
 | f+1,T,st,r,y,q,h=>by
  unfold bW at h
  split at h
  ·injection h with h;rw[←h];exact⟨Nat.le_refl _,fun h=>h⟩
  ·split at h
   ·cases h
   ·split at h
    ·have:=wP f _ _ _ _ h
     rw[List.length_append,List.length_singleton]at this
     omega
    ·split at h
     ·cases h
     ·have:=wP f _ _ _ _ h
      rw[gZ]at this
      omega
section
section
variable{g lc lp pb:Nat}{ss:List Sy}{M:Nat→KU}{L:List UInt8}{gd o cap:Nat}{H0:List UInt8}{dict:Int}
theorem Chain.mono(h:Chain g lc lp pb ss M){i j:Nat}(hij:i≤j)(hj:j≤ss.length):(M i).H.length+(j-i)≤(M j).H.length:=by
 have:=h.longer (j-i) i (by omega)
 rw[show i+(j-i)=j by omega]at this
 exact this
end
end
theorem Chain.cons{g lc lp pb:Nat}{ss:List Sy}{M:Nat→KU}{s:Sy}{a:KU}(h:Chain g lc lp pb ss M)(hl:Link g lc lp pb a s (M 0)):Chain g lc lp pb (s::ss) (fun t=>match t with | 0=>a | t+1=>M t):=by
 intro t ht
 cases t with
 | zero=>exact hl
 | succ t=>exact h t (by simpa using ht)
theorem val_inj{s t:Sy}(h:s.val=t.val):s=t:=by
 obtain⟨k,b,l,d,r⟩:=s
 obtain⟨k',b',l',d',r'⟩:=t
 simp[Sy.val]at h
 obtain⟨h1,h2,h3,h4,h5⟩:=h
 have hb:b=b':=UInt8.toNat_inj.1 (by omega)
 have e1:k=k':=by omega
 have e3:l=l':=by omega
 have e4:d=d':=by omega
 have e5:r=r':=by omega
 rw[hb,e1,e3,e4,e5]
theorem UR{r:R4}{n k l d q:Int}(h:eP r)(hf:kC r n k l d q=true):eP (jK r k d q):=by
 obtain⟨⟨a1,a2,a3,a4⟩,b1,b2,b3,b4⟩:=h
 rcases sD hf with rfl | ⟨rfl,_,_,h1,_,h2⟩ | ⟨rfl,h0,h3,_⟩
 ·exact⟨⟨a1,a2,a3,a4⟩,b1,b2,b3,b4⟩
 ·exact⟨⟨h1,a1,a2,a3⟩,by show d≤4294967296;omega,b1,b2,b3⟩
 ·rcases(by omega:q=0∨q=1∨q=2∨q=3)with rfl | rfl | rfl | rfl
  ·exact⟨⟨a1,a2,a3,a4⟩,b1,b2,b3,b4⟩
  ·exact⟨⟨a2,a1,a3,a4⟩,b2,b1,b3,b4⟩
  ·exact⟨⟨a3,a1,a2,a4⟩,b3,b1,b2,b4⟩
  ·exact⟨⟨a4,a1,a2,a3⟩,b4,b1,b2,b3⟩
theorem Ez{lc lp pb:Nat}{D:List UInt8}{dict nice:Int}{b:Nat}(hb:b≤D.length)(hD:D.length≤100000)(vG:1≤dict)(hn:nice≤273): ∀(f p st:Nat) (r:R4) (x:jf) (c:Nat),p≤b→b-p≤f→st<12→eP r→Fair x.1→(aj 0).ok x.2 (54*(b-p)+c)→
  ∃M:Nat→KU,Chain 0 lc lp pb (aO D dict nice b f p r).1 M∧M 0=⟨D.take p,st,r,x⟩∧
   (∀i (hi:i<(aO D dict nice b f p r).1.length),(aO D dict nice b f p r).1[i].k≠0→jU (M i).r ((aO D dict nice b f p r).1[i].k:Nat) ((aO D dict nice b f p r).1[i].d:Nat) ((aO D dict nice b f p r).1[i].r:Nat)≤dict)∧
   ∃st' r' x',lJ lc lp pb D (aO D dict nice b f p r).1 p (st,r,x)=(st',r',x')∧M (aO D dict nice b f p r).1.length=⟨D.take b,st',r',x'⟩∧st'<12∧eP r'∧Fair x'.1∧(aj 0).ok x'.2 c
 | 0,p,st,r,x,c,hp,hf,h12,hr,hfa,hok=>by
  have e:p=b:=by omega
  subst e
  refine⟨fun _=>⟨D.take p,st,r,x⟩,fun t ht=>absurd ht (Nat.not_lt_zero _),rfl,fun i hi=>absurd hi (Nat.not_lt_zero _),st,r,x,rfl,rfl,h12,hr,hfa,(aj 0).le hok (by omega)⟩
 | f+1,p,st,r,x,c,hp,hf,h12,hr,hfa,hok=>by
  by_cases hpb:p<b
  ·obtain⟨S,hS⟩: ∃S,jM D dict nice b p r=S:=⟨_,rfl⟩
   have hst:=sO (D:=D) (dict:=dict) (nice:=nice) (r:=r) hpb hb hD vG hn
   have hto:=QW (D:=D) (dict:=dict) (nice:=nice) (r:=r) hpb
   have hss:(aO D dict nice b (f+1) p r).1=S::(aO D dict nice b f (p+max S.l 1) (fP S r)).1:=by
    conv=>lhs;unfold aO
    rw[if_pos hpb,hS]
   rw[hS]at hst hto
   have hTl:(D.take p).length=p:=by rw[List.length_take];omega
   have hfit:kC r ((D.take p).length:Int) (S.k:Nat) (S.l:Nat) (S.d:Nat) (S.r:Nat)=true:=by rw[hTl];exact hst.fits
   obtain⟨s',st',r',z,TF,hr',hst',hval,aji⟩:=GN (g:=0) (lc:=lc) (lp:=lp) (pb:=pb) (a:=⟨D.take p,st,r,x⟩) (k:=(S.k:Nat)) (b:=S.b) (l:=(S.l:Nat)) (d:=(S.d:Nat)) (q:=(S.r:Nat)) hr hfit
   have hs':s'=S:=val_inj (hval.trans hst.plain)
   subst hs'
   have anA:(aj 0).ok x.2 (54*(b-(p+max s'.l 1))+c+54):=(aj 0).le hok (by omega)
   obtain⟨hfz,hoz⟩:=acR hfa anA TF
   have hrz:r'=fP s' r:=hr'.trans (qZ s' hst.k r)
   have hgr:eP r':=by rw[hr'];exact UR hr hfit
   obtain⟨M,hM,hM0,hMd,st2,r2,x2,hp2,SV,q12,qr,qf,qo⟩:=Ez hb hD vG hn f (p+max s'.l 1) st' r' z c hto (by omega) (FW h12 hst') hgr hfz hoz
   rw[hrz]at hM hMd SV hp2 hM0
   obtain⟨bk,hbk,_,hgrow⟩:=hst.back
   have hl:=aji bk hbk hoz.1
   have hl2:Link 0 lc lp pb ⟨D.take p,st,r,x⟩ s' (M 0):=by
    rw[hM0,←hrz]
    have e:growS (D.take p) (s'.k:Nat) s'.b ((s'.l:Nat):Int).toNat bk=D.take (p+max s'.l 1):=by rw[Int.toNat_natCast];exact hgrow
    rw[←e]
    exact hl
   refine⟨fun t=>match t with | 0=>⟨D.take p,st,r,x⟩ | t+1=>M t,?_,rfl,?_,st2,r2,x2,?_,?_,q12,qr,qf,qo⟩
   ·rw[hss];exact hM.cons hl2
   ·rw[hss]
    intro i hi
    cases i with
    | zero=>intro _;exact hst.near
    | succ i=>exact hMd i (by simpa using hi)
   ·rw[hss,←hp2,←hrz]
    exact Af TF
   ·rw[hss];exact SV
  ·have e:p=b:=by omega
   subst e
   have hss:aO D dict nice p (f+1) p r=([],r):=by unfold aO;rw[if_neg hpb]
   rw[hss]
   refine⟨fun _=>⟨D.take p,st,r,x⟩,fun t ht=>absurd ht (Nat.not_lt_zero _),rfl,fun i hi=>absurd hi (Nat.not_lt_zero _),st,r,x,rfl,rfl,h12,hr,hfa,(aj 0).le hok (by omega)⟩
structure MB(s:Nat×R4×(Nat→Nat)):Prop where
 st:s.1<12
 r:eP s.2.1
 fair:Fair s.2.2
theorem UU{k:jv}{a b:Nat}{s:Nat×R4×(Nat→Nat)}{dict:Int}(hab:a<b)(hb:b≤k.D.length)(hD:k.D.length≤100000)(hk:1≤k.dict)(hn:k.nice≤273)(hd:(k.dict:Int)≤dict)(hs:MB s):
  5≤(codeOf k a b s).1.length∧(codeOf k a b s).1.getD 0 0=0∧MB (codeOf k a b s).2∧ ∃y:PD,y.1=(codeOf k a b s).2.2.2∧y.2.done (codeOf k a b s).1=true∧
   bW 0 0 0 (codeOf k a b s).1 k.lc k.lp k.pb dict ((k.D.take a).length+(b-a)) (b-a) (k.D.take a) s.1 s.2.1 (s.2.2,Rd.start (codeOf k a b s).1)=some (k.D.take b,(codeOf k a b s).2.1,(codeOf k a b s).2.2.1,y):=by
 have h0:(aj 0).ok st0 (54*(b-a)+0):=⟨VR,by show 1+0+2*(54*(b-a)+0)≤_;omega⟩
 obtain⟨M,hC,hM0,hMd,st',r',x',hput,SV,q12,qr,qf,qo⟩:=Ez (lc:=k.lc) (lp:=k.lp) (pb:=k.pb) (D:=k.D) (dict:=(k.dict:Nat)) (nice:=k.nice) (b:=b) hb hD (by omega) hn (b-a) a s.1 s.2.1 (s.2.2,st0) 0 (by omega) (Nat.le_refl _) hs.st hs.r hs.fair h0
 obtain⟨ss,hss⟩: ∃ss,(aO k.D (k.dict:Nat) k.nice b (b-a) a s.2.1).1=ss:=⟨_,rfl⟩
 have hcode:codeOf k a b s=(Rc.be (5+x'.2.k) x'.2.v,(st',r',x'.1)):=by
  unfold codeOf xM
  rw[hput]
 rw[hss]at hC hMd SV
 rw[hcode]
 obtain⟨L,hL⟩: ∃L,Rc.be (5+x'.2.k) x'.2.v=L:=⟨_,rfl⟩
 have hLl:5≤L.length:=by rw[←hL,Rc.dJ];omega
 have hLx:L=Rc.be (5+(M ss.length).x.2.k) (M ss.length).x.2.v:=by rw[SV];exact hL.symm
 have anB:(M ss.length).x.2.ok:=by rw[SV];exact qo.1
 have hA:Agree x'.2 L:=by rw[←hL];exact Dx _
 have hs0:Yb (M ss.length).x.2 L (M 0).x (s.2.2,Rd.start L):=by
  rw[SV,hM0]
  exact⟨rfl,IJ hA qo.1 hLl⟩
 have hf0:Fair (M 0).x.1:=by rw[hM0];exact hs.fair
 have hlast:(M ss.length).H=k.D.take b:=by rw[SV]
 have hpos0:=hC.longer ss.length 0 (by omega)
 rw[Nat.zero_add]at hpos0
 have hlong:=hC.mono (Nat.zero_le _) (Nat.le_refl _)
 have h0l:(M 0).H.length=a:=by rw[hM0];show(k.D.take a).length=a;rw[List.length_take];omega
 have hbl:(M ss.length).H.length=b:=by rw[hlast,List.length_take];omega
 obtain⟨y',afU,hu⟩:=hC.reads (gd:=0) (o:=0) (cap:=0) (dict:=dict) (fin:=b) hf0 anB hLx hs0 ss.length (Nat.le_refl _) (fun i hi=>⟨by have:=hC.mono (show i+1≤ss.length from hi) (Nat.le_refl _);omega,fun hki=>Int.le_trans (hMd i hi hki) hd⟩)
 refine⟨by rw[hL];exact hLl,by rw[hL];show L.getD 0 0=0;exact OD hA qo.1 (by omega),⟨q12,qr,qf⟩,y',?_,?_,?_⟩
 ·have:=afU.1
  rw[SV]at this
  exact this
 ·rw[hL]
  rw[SV]at afU
  exact Yi (S:=x'.2) (P:=x'.1) hL.symm afU
 ·have hu2:=hu (b-a-ss.length)
  rw[show b-a-ss.length+ss.length=b-a by omega,mP (T:=(M ss.length).H) (by omega),hM0,SV]at hu2
  rw[hL,show(k.D.take a).length+(b-a)=b by rw[List.length_take];omega]
  exact hu2
section
structure Sep(Wr:Nat→Prop)(lo n:Nat)(p:Nat→List Nat):Prop where
 dis: ∀a b,Wr a→a≠b→ ∀i∈p a,i ∉ p b
 lt: ∀a,∀i∈p a,i<n
 lo: ∀a,a=0∨a=1∨a=3→ ∀i∈p a,lo≤i
def PY(p:Nat→List Nat)(k:Nat)(Y:List Nat):Nat→List Nat:=fun a=>if a=k then Y else p a
theorem mW(p:Nat→List Nat)(k:Nat)(Y:List Nat):PY p k Y k=Y:=if_pos rfl
theorem qP{p:Nat→List Nat}{k a:Nat}(Y:List Nat)(h:a≠k):PY p k Y a=p a:=if_neg h
theorem Sep.step{Wr:Nat→Prop}{lo n n':Nat}{p:Nat→List Nat}(h:Sep Wr lo n p)(k:Nat){Y:List Nat}(hn:n≤n')(hlo:lo≤n)(hY: ∀i∈Y,(i∈p k∨n≤i)∧i<n'):Sep Wr lo n' (PY p k Y):=by
 refine⟨fun a b hw hab i hi=> ?_,fun a i hi=> ?_,fun a ha i hi=> ?_⟩
 ·by_cases hak:a=k
  ·subst hak
   rw[mW]at hi
   rw[qP Y (fun e=>hab e.symm)]
   intro hb
   rcases(hY i hi).1 with h1 | h1
   ·exact h.dis a b hw hab i h1 hb
   ·have:=h.lt b i hb;omega
  ·rw[qP Y hak]at hi
   by_cases hbk:b=k
   ·subst hbk
    rw[mW]
    intro hb
    rcases(hY i hb).1 with h1 | h1
    ·exact h.dis a b hw hab i hi h1
    ·have:=h.lt a i hi;omega
   ·rw[qP Y hbk]
    exact h.dis a b hw hab i hi
 ·by_cases hak:a=k
  ·subst hak
   rw[mW]at hi
   exact(hY i hi).2
  ·rw[qP Y hak]at hi
   exact Nat.lt_of_lt_of_le (h.lt a i hi) hn
 ·by_cases hak:a=k
  ·subst hak
   rw[mW]at hi
   rcases(hY i hi).1 with h1 | h1
   ·exact h.lo a ha i h1
   ·omega
  ·rw[qP Y hak]at hi
   exact h.lo a ha i hi
theorem Sep.more{Wr:Nat→Prop}{lo n n':Nat}{p:Nat→List Nat}(h:Sep Wr lo n p)(hn:n≤n'):Sep Wr lo n' p:=⟨h.dis,fun a i hi=>Nat.lt_of_lt_of_le (h.lt a i hi) hn,h.lo⟩
def zJ(w:World)(v:Value)(H:List UInt8)(Y:List Nat):Prop:= ∃A c,v= .slice A H.length c∧H.length≤c∧c≤9223372036854775807∧Bytes w A H∧ ∀a,A=some a→a.block∈Y
theorem zJ.keep{w w':World}{v:Value}{H:List UInt8}{Y:List Nat}(h:zJ w v H Y)(hs:w.heap.size≤w'.heap.size)(hY: ∀i∈Y,w'.heap[i]? =w.heap[i]?):zJ w' v H Y:=by
 obtain⟨A,c,rfl,hc,hm,hB,hA⟩:=h
 refine⟨A,c,rfl,hc,hm,hB.keep hs (fun p hp hl=> ?_),hA⟩
 cases A with
 | none=>cases hp
 | some a=>
  have e:a.block=p.block:=by simpa using hp
  unfold World.cell?
  rw[←e,hY _ (hA a rfl)]
theorem MS.Bq{io:Io}{w w':World}{C L lc lp pb st:Nat}{r:R4}{x:io.S}{X:List Nat}(h:MS io w C L lc lp pb st r x X)(hs:w.heap.size≤w'.heap.size)(hk: ∀i∈C::L::X,w'.heap[i]? =w.heap[i]?):MS io w' C L lc lp pb st r x X:=
 ⟨h.mod.keep (hk C (by simp)) (hk L (by simp)),io.keep h.io hs (fun i hi=>hk i (by simp[hi])),h.vU,h.yR⟩
structure Lp(w0 w:World)(io:Io)(C L lc lp pb st:Nat)(r:R4)(x:io.S)(X:List Nat)(C2 base:Nat)(st2:Nat)(r2:R4)(hv:Value)(H:List UInt8)(pv:Value)(ss:List Sy)(R:World→Prop)(Wr:Nat→Prop)(p:Nat→List Nat):Prop where
 ms:MS io w C L lc lp pb st r x X
 p0:p 0=C::L::X
 VB: ∃Pl vR vP,qW w C2 base (lc:Nat) (lp:Nat) (pb:Nat) (st2:Nat) r2 Pl vR vP∧C2∈p 1∧(∀g,vR.ownBlock=some g→g∈p 1)∧ ∀g,vP.ownBlock=some g→g∈p 1
 base:base≤w.heap.size
 hist:zJ w hv H (p 2)
 puts:iR w0.heap.size w pv ss∧ ∀g,pv.ownBlock=some g→g∈p 3
 rest:R w
 frame: ∀w1 w2,R w1→w1.heap.size≤w2.heap.size→(∀i∈p 4,w2.heap[i]? =w1.heap[i]?)→R w2
 sep:Sep Wr w0.heap.size w.heap.size p
 wr:Wr 0∧Wr 1∧Wr 3
 below:Below w0.heap.size w0 w
section
variable{w0 w w':World}{io:Io}{C L lc lp pb st:Nat}{r:R4}{x:io.S}{X:List Nat}{C2 base st2:Nat}{r2:R4}{hv:Value}{H:List UInt8}{pv:Value}{ss:List Sy}{R:World→Prop}{Wr:Nat→Prop}{p:Nat→List Nat}
theorem Lp.Jl(t:Lp w0 w io C L lc lp pb st r x X C2 base st2 r2 hv H pv ss R Wr p)(hk: ∀i∈p 1,w'.heap[i]? =w.heap[i]?): ∃Pl vR vP,qW w' C2 base (lc:Nat) (lp:Nat) (pb:Nat) (st2:Nat) r2 Pl vR vP∧C2∈p 1∧(∀g,vR.ownBlock=some g→g∈p 1)∧ ∀g,vP.ownBlock=some g→g∈p 1:=by
 obtain⟨Pl,vR,vP,hC,h1,h2,h3⟩:=t.VB
 exact⟨Pl,vR,vP,⟨(hk C2 h1).trans hC.box,hC.rZ.keep fun g hg=>hk g (h2 g hg),hC.ps.keep fun g hg=>hk g (h3 g hg)⟩,h1,h2,h3⟩
theorem Lp.next(t:Lp w0 w io C L lc lp pb st r x X C2 base st2 r2 hv H pv ss R Wr p)(hb:Below w.heap.size w w'):Lp w0 w' io C L lc lp pb st r x X C2 base st2 r2 hv H pv ss R Wr p:=by
 have hk: ∀a,∀i∈p a,w'.heap[i]? =w.heap[i]? :=fun a i hi=>hb.block i (t.sep.lt a i hi)
 exact⟨t.ms.below hb,t.p0,t.Jl (hk 1),Nat.le_trans t.base hb.size,t.hist.keep hb.size (hk 2),⟨t.puts.1.below hb,t.puts.2⟩,t.frame _ _ t.rest hb.size (hk 4),t.frame,t.sep.more hb.size,t.wr,t.below.trans (hb.mono t.below.size)⟩
theorem Lp.code{st':Nat}{r':R4}{x':io.S}(t:Lp w0 w io C L lc lp pb st r x X C2 base st2 r2 hv H pv ss R Wr p)(hw:jd io C L lc lp pb st' r' x' X w w'):
  ∃X' p',Lp w0 w' io C L lc lp pb st' r' x' X' C2 base st2 r2 hv H pv ss R Wr p'∧p' 4=p 4:=by
 obtain⟨X',hM,hon,hX⟩:=hw
 have hk: ∀a,a≠0→ ∀i∈p a,w'.heap[i]? =w.heap[i]? :=fun a ha i hi=>hon.block i (t.sep.lt a i hi) (fun hm=>t.sep.dis 0 a t.wr.1 (fun e=>ha e.symm) i (by rw[t.p0];exact hm) hi)
 have hY: ∀i∈C::L::X',(i∈p 0∨w.heap.size≤i)∧i<w'.heap.size:=by
  intro i hi
  refine⟨?_,hM.adW i hi⟩
  rw[t.p0]
  simp only[List.mem_cons]at hi ⊢
  rcases hi with rfl | rfl | hi
  ·exact .inl (.inl rfl)
  ·exact .inl (.inr (.inl rfl))
  ·rcases hX i hi with h | h
   ·exact .inl (.inr (.inr h))
   ·exact .inr h
 have e: ∀a,a≠0→PY p 0 (C::L::X') a=p a:=fun a ha=>qP _ ha
 refine⟨X',PY p 0 (C::L::X'),⟨hM,mW _ _ _,?_,Nat.le_trans t.base hon.size,?_,?_,t.frame _ _ t.rest hon.size (hk 4 (by decide)),?_,t.sep.step 0 hon.size t.below.size hY,t.wr,Only.Zt t.below hon (fun i hi=>t.sep.lo 0 (.inl rfl) i (by rw[t.p0];exact hi))⟩,e 4 (by decide)⟩
 ·rw[e 1 (by decide)];exact t.Jl (hk 1 (by decide))
 ·rw[e 2 (by decide)];exact t.hist.keep hon.size (hk 2 (by decide))
 ·rw[e 3 (by decide)];exact⟨t.puts.1.keep fun g hg=>hk 3 (by decide) g (t.puts.2 g hg),t.puts.2⟩
 ·rw[e 4 (by decide)];exact t.frame
theorem Lp.append{pv':Value}{ss':List Sy}(t:Lp w0 w io C L lc lp pb st r x X C2 base st2 r2 hv H pv ss R Wr p)(ho:iR w0.heap.size w' pv' ss')(hg:w.grownBy w' pv.ownBlock)(hl:pv'.ownBlock=pv.ownBlock∨pv'.ownBlock=some w.heap.size):
  ∃p',Lp w0 w' io C L lc lp pb st r x X C2 base st2 r2 hv H pv' ss' R Wr p'∧p' 4=p 4:=by
 have hsz:=hg.size
 have hk: ∀a,a≠3→ ∀i∈p a,w'.heap[i]? =w.heap[i]? :=fun a ha i hi=>hg.block i (t.sep.lt a i hi) (fun hm=>t.sep.dis 3 a t.wr.2.2 (fun e=>ha e.symm) i (t.puts.2 i hm.symm) hi)
 have hY: ∀i∈pv'.ownBlock.toList,(i∈p 3∨w.heap.size≤i)∧i<w'.heap.size:=by
  intro i hi
  simp only[Option.mem_toList]at hi
  refine⟨?_,(ho.lt i hi).2⟩
  rcases hl with h | h
  ·rw[h]at hi;exact .inl (t.puts.2 i hi)
  ·rw[h]at hi;injection hi with hi;exact .inr (Nat.le_of_eq hi)
 have e: ∀a,a≠3→PY p 3 pv'.ownBlock.toList a=p a:=fun a ha=>qP _ ha
 refine⟨PY p 3 pv'.ownBlock.toList,⟨t.ms.Bq hsz (fun i hi=>hk 0 (by decide) i (by rw[t.p0];exact hi)),by rw[e 0 (by decide)];exact t.p0,by rw[e 1 (by decide)];exact t.Jl (hk 1 (by decide)),Nat.le_trans t.base hsz,?_,⟨ho,fun g h=>by rw[mW];simp[h]⟩,t.frame _ _ t.rest hsz (hk 4 (by decide)),?_,t.sep.step 3 hsz t.below.size hY,t.wr,?_⟩,e 4 (by decide)⟩
 ·rw[e 2 (by decide)];exact t.hist.keep hsz (hk 2 (by decide))
 ·rw[e 4 (by decide)];exact t.frame
 ·exact below_grown t.below hg t.below.size (fun g e=>t.sep.lo 3 (.inr (.inr rfl)) _ (t.puts.2 g e))
end
end

theorem zJ.bytes{w:World}{A:Option Addr}{c:Nat}{H:List UInt8}{Y:List Nat}(h:zJ w (.slice A H.length c) H Y):Bytes w A H∧ ∀a,A=some a→a.block∈Y:=by
 obtain⟨A',c',e,_,_,hB,hA⟩:=h
 injection e with e1 _ e3
 subst e1
 exact⟨hB,hA⟩
end Go.Proofs.YtgfpocdiojifoaaGreatDoor
