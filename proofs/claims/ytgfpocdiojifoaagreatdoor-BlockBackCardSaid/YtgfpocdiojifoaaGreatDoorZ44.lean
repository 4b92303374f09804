import Derived.Test.YtgfpocdiojifoaaGreatDoorZ43
import Derived.Deep.DeepCutAuto
import Derived.Deep.CutBlock
namespace Go.Proofs.YtgfpocdiojifoaaGreatDoor
set_option maxRecDepth 100000
set_option maxHeartbeats 8000000
open Go.RowKit
theorem digit(N v t:Nat)(hv:v<256)(hN:N<128^t)(ht:t<9):
  bits .or .u64 (N:Int) (IntKind.u64.wrap (IntKind.u64.wrap (bits .and .u8 (v:Int) 127)*2^(7*t)))=((N+v%128*128^t:Nat):Int):=by
 have hp:(128:Nat)^t=2^(7*t):=by rw[Nat.pow_mul]
 have hle:2^(7*t)≤2^56:=Nat.pow_le_pow_right (by omega) (by omega)
 have hand:bits .and .u8 (v:Int) 127=((v%128:Nat):Int):=by
  rw[show(127:Int)=((127:Nat):Int)from rfl,u8_and_nat _ _ (by omega) (by omega)]
  congr 1;exact Nat.and_two_pow_sub_one_eq_mod v 7
 have hd:v%128*2^(7*t)≤127*2^(7*t):=Nat.mul_le_mul_right _ (by omega)
 have e1:IntKind.u64.wrap ((v%128:Nat):Int)=((v%128:Nat):Int):=by rw[IntKind.wrap_u64];omega
 have e2:((v%128:Nat):Int)*2^(7*t)=((v%128*2^(7*t):Nat):Int):=by simp
 have e3:IntKind.u64.wrap ((v%128*2^(7*t):Nat):Int)=((v%128*2^(7*t):Nat):Int):=by rw[IntKind.wrap_u64];omega
 rw[hand,e1,e2,e3,u64_or_nat _ _ (by rw[hp]at hN;omega) (by omega),Nat.or_comm,Dv _ _ _ (by rw[←hp];exact hN),hp,Nat.add_comm]
def Got(w:World)(r:Nat×Nat×Nat)(e:Ending)(w':World):Prop:=e= .returned (.tuple #[.int .u64 (r.1:Nat),.int .i64 (r.2.1:Nat),.int .i64 (r.2.2:Nat)])∧w=w'
theorem U7(A:Option Addr)(l:List UInt8)(c:Nat)(w:World)(hB:Bytes w A l)(hl:l.length≤140737488355328):
  Calls Tryz.prog 109 #[.slice A l.length c] w (Got w (Vl.get l)):=by
 go_enter Tryz.func109,Tryz.ntmps109
 go_wp2_with fail
 go_loopw [5,10] (fun nn i wr=> ∃t:Nat,t≤l.length∧t<9∧i= .int .i64 (t:Nat)∧nn= .int .u64 (Vl.num l t:Nat)∧Hid (Vl.get l=Vl.go l (9-t) t)∧w=wr) (fun _ i _=>l.length-(intOf i).toNat)
 case atStart=>exact⟨0,by omega,by omega,rfl,rfl,rfl,rfl⟩
 case round=>
  obtain⟨t,ht,ht9,rfl,rfl,hgo,rfl⟩:=hrel
  by_cases hlt:t<l.length
  ·obtain⟨b,off,rfl,hb,hc⟩:=hB.addr (by omega)
   have hct:=hc t hlt
   have hgd:l[t]=l.getD t 0:=by simp[List.getD,hlt]
   rw[hgd]at hct
   have hnl: ¬l.length≤t:=by omega
   have Om:(t:Int)<(l.length:Int):=by omega
   have h256:=(l.getD t 0).toNat_lt
   have hnum:=Vl.Qj l t
   have hfx:9-t=(8-t)+1:=by omega
   rw[hfx]at hgo
   have HM:=Lib.hid (fun h=>hgo.out.trans (Vl.Rt (f:=8-t) hnl h))
   have HBAD:=Lib.hid (fun h h2=>hgo.out.trans (Vl.af6 (f:=8-t) hnl h h2))
   have ad3:=Lib.hid (fun h h2=>hgo.out.trans (Vl.Jq (f:=8-t) hnl h h2))
   have ZW:=Lib.hid (show Vl.num l (t+1)=Vl.num l t+(l.getD t 0).toNat%128*128^t from rfl)
   generalize(l.getD t 0).toNat=v at*
   generalize hN:Vl.num l t=N at*
   have HNN:=Lib.hid hN
   have hNL:=Lib.hid hnum
   clear hc hgd hB
   generalize hL:l.length=L at*
   have HL:=Lib.hid hL
   clear hgo hfx hnum hN hL
   have HDG:=Lib.hid (digit N v t h256 hNL.out ht9)
   go_upto_region 7 with(fail)
   rw[HDG.out]
   rw[←ZW.out]
   generalize hN2:Vl.num l (t+1)=N2 at*
   have rP:=Lib.hid hN2
   clear hN2 HDG hct
   by_cases hv:128≤v
   ·have hvi:(128:Int)≤(v:Int):=by omega
    by_cases h8:t=8
    ·have h8i:((t:Int)+1==9)=true:=by simp;omega
     have HE:=Lib.hid (show Vl.get l=(0,0,6) by rw[HM.out hv,h8];rfl)
     have H8:=Lib.hid h8
     clear h8
     go_wp2_with fail
     go_ret3
     exact⟨by rw[HE.out];rfl,rfl⟩
    ·have h8i:((t:Int)+1==9)=false:=beq_eq_false_iff_ne.2 (by omega)
     have HE:=Lib.hid (HM.out hv)
     go_wp2_with fail
     go_roundw
     case rel=>exact⟨t+1,by have:=HL.out;omega,by omega,congrArg (Value.int .i64) (by omega),by rw[rP.out],by show Vl.get l=_;rw[HE.out,show 9-(t+1)=8-t by omega],trivial⟩
     case measure=>have:=HL.out;simp[intOf]<;>omega
   ·have hvi: ¬(128:Int)≤(v:Int):=by omega
    by_cases hv0:v=0
    ·have anY:((v:Int)==0)=true:=by simp[hv0]
     by_cases ht0:0<t
     ·have anZ:(0:Int)<(t:Int):=by omega
      have HE:=Lib.hid (HBAD.out hv0 ht0)
      have HV:=Lib.hid hv0
      clear hv0
      go_wp2_with fail
      go_ret3
      exact⟨by rw[HE.out];rfl,rfl⟩
     ·have anZ: ¬(0:Int)<(t:Int):=by omega
      have HE:=Lib.hid (ad3.out hv (by omega))
      have HV:=Lib.hid hv0
      clear hv0
      go_wp2_with fail
      go_ret3
      exact⟨by rw[HE.out];rfl,rfl⟩
    ·have anY:((v:Int)==0)=false:=beq_eq_false_iff_ne.2 (by omega)
     have HE:=Lib.hid (ad3.out hv (by omega))
     go_wp2_with fail
     go_ret3
     exact⟨by rw[HE.out];rfl,rfl⟩
  ·have Om: ¬(t:Int)<(l.length:Int):=by omega
   have hfx:9-t=(8-t)+1:=by omega
   have HE:=Lib.hid (show Vl.get l=(0,0,2) by rw[hgo.out,hfx];exact Vl.af5 (by omega))
   clear hfx hgo
   go_wp2_with fail
   go_ret3
   exact⟨by rw[HE.out];rfl,rfl⟩

theorem Vl.ML(l:List UInt8): ∀f i,(Vl.go l f i).2.2=2∧(Vl.go l f i).1=0∧(Vl.go l f i).2.1=0∨(Vl.go l f i).2.2=6∧(Vl.go l f i).1=0∧(Vl.go l f i).2.1=0∨(Vl.go l f i).2.2=0∧(Vl.go l f i).2.1≤l.length∧0<(Vl.go l f i).2.1∧(Vl.go l f i).1<128^(i+f)
 | 0,i=> .inr (.inl ⟨rfl,rfl,rfl⟩)
 | f+1,i=>by
  rw[Vl.go]
  split
  ·exact .inl ⟨rfl,rfl,rfl⟩
  ·split
   ·have:=Vl.ML l f (i+1)
    rwa [show i+1+f=i+(f+1) by omega]at this
   ·split
    ·exact .inr (.inl ⟨rfl,rfl,rfl⟩)
    ·refine .inr (.inr ⟨rfl,by show i+1≤_;omega,by show 0<i+1;omega,?_⟩)
     exact Nat.lt_of_lt_of_le (Vl.Qj l (i+1)) (Nat.pow_le_pow_right (by omega) (by omega))
theorem Vl.Ht(l:List UInt8):(Vl.get l).2.2=2∧(Vl.get l).1=0∧(Vl.get l).2.1=0∨(Vl.get l).2.2=6∧(Vl.get l).1=0∧(Vl.get l).2.1=0∨(Vl.get l).2.2=0∧(Vl.get l).2.1≤l.length∧0<(Vl.get l).2.1∧(Vl.get l).1<9223372036854775808:=Vl.ML l 9 0
theorem Bytes.cut{w:World}{A:Option Addr}{l:List UInt8}(h:Bytes w A l)(k:Nat):Bytes w (A.map fun x=>x.add k) (l.drop k):=by
 rcases Nat.eq_zero_or_pos l.length with h0 | h0
 ·rw[List.eq_nil_of_length_eq_zero h0,List.drop_nil];exact .nil
 ·obtain⟨b,off,rfl,_,_⟩:=h.addr h0
  have e:(⟨b,off,none⟩:Addr).add k=⟨b,off+k,none⟩:=by unfold Addr.add;split<;>simp_all
  show Bytes w (some ((⟨b,off,none⟩:Addr).add k)) _
  rw[e];exact Bytes.drop k h
def iI(l:List UInt8):Option (Nat×List UInt8):=if(Vl.get l).2.2=0 then some ((Vl.get l).1,l.drop (Vl.get l).2.1)else none
theorem jR{l l':List UInt8}{n:Nat}(h:iI l=some (n,l')):n<9223372036854775808∧l'.length<l.length∧ ∃k,k≤l.length∧0<k∧Vl.get l=(n,k,0)∧l'=l.drop k:=by
 unfold iI at h
 rcases Vl.Ht l with⟨h1,_⟩ | ⟨h1,_⟩ | ⟨h1,h2,h3,h4⟩
 ·rw[if_neg (by omega)]at h;cases h
 ·rw[if_neg (by omega)]at h;cases h
 ·rw[if_pos h1]at h
  injection h with h
  injection h with e1 e2
  subst e1;subst e2
  exact⟨h4,by rw[List.length_drop];omega,_,h2,h3,by rw[←h1],rfl⟩
theorem U8{l:List UInt8}(h:iI l=none):Vl.get l=(0,0,2)∨Vl.get l=(0,0,6):=by
 unfold iI at h
 rcases Vl.Ht l with⟨h1,h2,h3⟩ | ⟨h1,h2,h3⟩ | ⟨h1,_⟩
 ·exact .inl (Prod.ext h2 (Prod.ext h3 h1))
 ·exact .inr (Prod.ext h2 (Prod.ext h3 h1))
 ·rw[if_pos h1]at h;cases h
def jS(l:List UInt8):bK×List UInt8×Nat:=
 match iI l with
 | none=>(⟨0,0⟩,[],4)
 | some (id,l1)=>match iI l1 with
  | none=>(⟨0,0⟩,[],4)
  | some (n,l2)=>if l2.length<n then(⟨0,0⟩,[],4)else if 2147483648≤id then(⟨0,0⟩,[],5)else match gy (id:Int) (l2.take n)with
   | none=>(⟨0,0⟩,[],5)
   | some f=>(f,l2.drop n,0)
def bT(many:Nat):Nat→Nat→List UInt8→List bK→List bK×List UInt8×Nat
 | 0,_,l,acc=>(acc,l,0)
 | k+1,i,l,acc=>if(jS l).2.2≠0 then([],[],(jS l).2.2)else if((jS l).1.id==33) !=(i==many)then([],[],5)else bT many k (i+1) (jS l).2.1 (acc++[(jS l).1])
theorem qQ(many k i:Nat)(l:List UInt8)(acc:List bK):bT many (k+1) i l acc=if(jS l).2.2≠0 then([],[],(jS l).2.2)else if((jS l).1.id==33) !=(i==many)then([],[],5)else bT many k (i+1) (jS l).2.1 (acc++[(jS l).1]):=rfl
def wS(here z:Bool)(l:List UInt8):Option (Int×List UInt8):=if here=true then(match iI l with
 | none=>none
 | some (n,l')=>if(z&&n==0)=true then none else some ((n:Int),l'))else some (-1,l)
def jJ(s:Nat)(l:List UInt8):Option (Int×Int×List UInt8):=match wS (s/64%2==1) true l with
 | none=>none
 | some (p,l1)=>match wS (s/128==1) false l1 with
  | none=>none
  | some (q,l2)=>some (p,q,l2)
def dP:gU:=⟨0,0,[],0⟩
def iF(s:Nat)(l:List UInt8):gU×Nat:=match jJ s l with
 | none=>(dP,4)
 | some (p,q,l2)=>if(bT (s%4) (s%4+1) 0 l2 []).2.2≠0 then(dP,(bT (s%4) (s%4+1) 0 l2 []).2.2)
  else if(bT (s%4) (s%4+1) 0 l2 []).2.1.all (· ==0)=false then(dP,5)
  else(⟨p,q,(bT (s%4) (s%4+1) 0 l2 []).1.take (s%4),((bT (s%4) (s%4+1) 0 l2 []).1.getD (s%4) ⟨0,0⟩).n⟩,0)
def part(l:List UInt8)(a n:Nat):List UInt8:=(l.drop a).take n
theorem MO(l:List UInt8)(a n:Nat)(h:a+n≤l.length):(part l a n).length=n:=by unfold part;rw[List.length_take,List.length_drop];omega
def bM(b:List UInt8):Nat:=4*(b.getD 0 0).toNat+4
def fH(b:List UInt8):List UInt8×Nat:=
 if b.length=0 then([],2)else if b.getD 0 0=0 then([],4)else if b.length<bM b then([],2)
 else if(uf (b.take (bM b-4))==part b (bM b-4) 4)=false then([],4)else(b.take (bM b-4),0)
def jD(b:List UInt8):gU×Nat×Nat:=
 if(fH b).2≠0 then(dP,0,(fH b).2)else if(b.getD 1 0).toNat/4%16≠0 then(dP,0,5)
 else if(iF (b.getD 1 0).toNat ((fH b).1.drop 2)).2≠0 then(dP,0,(iF (b.getD 1 0).toNat ((fH b).1.drop 2)).2)
 else((iF (b.getD 1 0).toNat ((fH b).1.drop 2)).1,bM b,0)
def Rest(bo:Nat)(w:World)(l:List UInt8):Prop:= ∃A c,Box bo w (.slice A l.length c)∧Bytes w A l∧(∀a,A=some a→a.block<bo)∧l.length≤c∧c≤9223372036854775807
theorem Bytes.low{w w':World}{A:Option Addr}{l:List UInt8}{B:Nat}(h:Bytes w A l)(hb:Below B w w')(hA: ∀a,A=some a→a.block<B):Bytes w' A l:=by
 rcases h with h | ⟨b,off,rfl,h2,h3⟩
 ·exact .inl h
 ·exact .inr ⟨b,off,rfl,Nat.lt_of_lt_of_le h2 hb.size,fun k hk=>(hb.cell (p:=⟨b,off+k,none⟩) (hA ⟨b,off,none⟩ rfl)).trans (h3 k hk)⟩
theorem Rest.keep{bo:Nat}{w w':World}{l:List UInt8}(h:Rest bo w l)(hb:Below (bo+1) w w'):Rest bo w' l:=by
 obtain⟨A,c,h1,h2,h3,h4,h5⟩:=h
 exact⟨A,c,(hb.block bo (by omega)).trans h1,h2.low hb (fun a e=>by have:=h3 a e;omega),h3,h4,h5⟩
theorem add_block(a:Addr)(k:Nat):(a.add k).block=a.block:=by
 obtain⟨b,off,sp⟩:=a
 unfold Addr.add;split<;>rfl
theorem Rest.step{bo c k:Nat}{A:Option Addr}{w:World}{l:List UInt8}(hx:Box bo w (.slice A l.length c))(hB:Bytes w A l)(hA: ∀a,A=some a→a.block<bo)(hk:k≤l.length)(hc:l.length≤c)(hm:c≤9223372036854775807):
  Rest bo (w.setCell ⟨bo,0,none⟩ (.slice (A.map fun x=>x.add k) (l.length-k) (c-k))) (l.drop k):=by
 have hb:Below bo w (w.setCell ⟨bo,0,none⟩ (.slice (A.map fun x=>x.add k) (l.length-k) (c-k))):=Below.setCell (p:=⟨bo,0,none⟩) (Below.refl _ _) (Nat.le_refl _) _
 have hA2: ∀a,(A.map fun x=>x.add k)=some a→a.block<bo:=by
  intro a e
  obtain⟨a0,h1,h2⟩:=Option.map_eq_some_iff.1 e
  rw[←h2,add_block];exact hA a0 h1
 refine⟨_,c-k,?_,(hB.cut k).low hb hA2,hA2,by rw[List.length_drop];omega,by omega⟩
 rw[List.length_drop];exact hx.set _
theorem Rest.over{bo c k:Nat}{A:Option Addr}{w:World}{l:List UInt8}(hx:Box bo w (.slice A l.length c))(hA: ∀a,A=some a→a.block<bo)(hk:l.length≤k):
  Rest bo (w.setCell ⟨bo,0,none⟩ (.slice A (l.length-k) 0)) (l.drop k):=by
 rw[List.drop_eq_nil_of_le hk]
 refine⟨A,0,?_,.inl rfl,hA,by simp,by omega⟩
 have h0:l.length-k=0:=by omega
 rw[h0];exact hx.set _
def fO(bo:Nat)(w w':World):Prop:=w'.heap.size=w.heap.size∧ ∀g,g≠bo→w'.heap[g]? =w.heap[g]?
theorem fO.refl(bo:Nat)(w:World):fO bo w w:=⟨rfl,fun _ _=>rfl⟩
theorem fO.set(bo:Nat)(w:World)(u:Value):fO bo w (w.setCell ⟨bo,0,none⟩ u):=⟨by simp,fun g hg=>ah _ _ _ _ (fun e=>hg e)⟩
def bG(bo:Nat)(w w':World):Prop:=w.heap.size≤w'.heap.size∧ ∀g,g<w.heap.size→g≠bo→w'.heap[g]? =w.heap[g]?
theorem fO.old{bo:Nat}{w w':World}(h:fO bo w w'):bG bo w w':=⟨by rw[h.1];omega,fun g _ hg=>h.2 g hg⟩
theorem Below.old{bo:Nat}{w w':World}(h:Below w.heap.size w w'):bG bo w w':=⟨h.size,fun g hg _=>h.block g hg⟩
theorem bG.trans{bo:Nat}{w w' w'':World}(h:bG bo w w')(k:bG bo w' w''):bG bo w w'':=⟨Nat.le_trans h.1 k.1,fun g hg hn=>(k.2 g (Nat.lt_of_lt_of_le hg h.1) hn).trans (h.2 g hg hn)⟩
theorem bG.set{bo r i:Nat}{w w':World}(h:bG bo w w')(hr:w.heap.size≤r)(u:Value):bG bo w (w'.setCell ⟨r,i,none⟩ u):=⟨by simp;exact h.1,fun g hg hn=>(ah _ _ _ _ (fun e=>by have e':g=r:=e;omega)).trans (h.2 g hg hn)⟩
def Hu(bo:Nat)(l:List UInt8)(w:World)(e:Ending)(w':World):Prop:=
 Below bo w w'∧fO bo w w'∧match iI l with
 | none=>e= .returned (.tuple #[.int .u64 0,.int .i64 4])
 | some (n,l')=>e= .returned (.tuple #[.int .u64 (n:Nat),.int .i64 0])∧Rest bo w' l'
theorem uS(bo:Nat)(l:List UInt8)(w:World)(hR:Rest bo w l)(hl:l.length≤1000000):
  Calls Tryz.prog 108 #[.pointer (some ⟨bo,0,none⟩)] w (Hu bo l w):=by
 obtain⟨A,c,hx,hB,hA,hc,hm⟩:=hR
 have hxc:=hx.cell
 have hfz:=hx.frozen
 have HG:=Lib.hid (U7 A l c w hB (by omega))
 have HD:=Lib.hid (show Hu bo l w=fun e w'=>Below bo w w'∧fO bo w w'∧match iI l with
  | none=>e= .returned (.tuple #[.int .u64 0,.int .i64 4])
  | some (n,l')=>e= .returned (.tuple #[.int .u64 (n:Nat),.int .i64 0])∧Rest bo w' l' from rfl)
 cases hn:iI l with
 | none=>
  rw[hn]at HD
  rcases U8 hn with h | h
  ·rw[h]at HG
   rw[HD.out]
   clear HD h hn
   go_enter Tryz.func108,Tryz.ntmps108
   go_wp2_with fail
   refine HG.out.mono ?_
   rintro e w1 ⟨rfl,rfl⟩
   go_wp2_with fail
   go_ret2
   exact⟨Below.refl _ _,fO.refl _ _,rfl⟩
  ·rw[h]at HG
   rw[HD.out]
   clear HD h hn
   go_enter Tryz.func108,Tryz.ntmps108
   go_wp2_with fail
   refine HG.out.mono ?_
   rintro e w1 ⟨rfl,rfl⟩
   go_wp2_with fail
   go_ret2
   exact⟨Below.refl _ _,fO.refl _ _,rfl⟩
 | some r=>
  obtain⟨n,l'⟩:=r
  rw[hn]at HD
  obtain⟨h1,h2,k,h3,h4,h5,rfl⟩:=jR hn
  rw[h5]at HG
  rw[HD.out]
  have hki:(k:Int)≤(l.length:Int):=by omega
  have hci:(l.length:Int)≤(c:Int):=by omega
  have Nj:(c:Int)≤9223372036854775807:=by omega
  have UJ:=Lib.hid (hB.cut k)
  have hlt:=hx.lt
  have hdl:(l.drop k).length=l.length-k:=List.length_drop
  have HDL:=Lib.hid hdl
  have HH3:=Lib.hid (And.intro h3 hc)
  have HX:=Lib.hid hx
  have HAA:=Lib.hid hA
  clear HD hn h5 h2 hdl h1 hA hx
  go_enter Tryz.func108,Tryz.ntmps108
  go_wp2_with fail
  refine HG.out.mono ?_
  rintro e w1 ⟨rfl,rfl⟩
  go_wp2_with fail
  ·go_ret2
   exact⟨Below.setCell (p:=⟨bo,0,none⟩) (Below.refl _ _) (Nat.le_refl _) _,fO.set _ _ _,rfl,Rest.over HX.out HAA.out (by have:=HH3.out;omega)⟩
  ·go_ret2
   exact⟨Below.setCell (p:=⟨bo,0,none⟩) (Below.refl _ _) (Nat.le_refl _) _,fO.set _ _ _,rfl,Rest.step HX.out hB HAA.out HH3.out.1 HH3.out.2 hm⟩
def U9(bo n:Nat)(l:List UInt8)(w:World)(e:Ending)(w':World):Prop:=
 Below bo w w'∧fO bo w w'∧((l.length<n∧e= .returned (.tuple #[.slice none 0 0,.int .i64 4]))∨
  (n≤l.length∧ ∃A c,e= .returned (.tuple #[.slice A n c,.int .i64 0])∧Bytes w' A (l.take n)∧(∀a,A=some a→a.block<bo)∧Rest bo w' (l.drop n)))
theorem Va(bo n:Nat)(l:List UInt8)(w:World)(hR:Rest bo w l)(hl:l.length≤1000000)(hn:n<9223372036854775808):
  Calls Tryz.prog 110 #[.int .u64 (n:Nat),.pointer (some ⟨bo,0,none⟩)] w (U9 bo n l w):=by
 obtain⟨A,c,hx,hB,hA,hc,hm⟩:=hR
 have hxc:=hx.cell
 have hfz:=hx.frozen
 have Fb:(l.length:Int)≤1000000:=by omega
 have hni:(n:Int)<9223372036854775808:=by omega
 by_cases h:l.length<n
 ·have hi:(l.length:Int)<(n:Int):=by omega
  have HF:=Lib.hid h
  clear h
  go_enter Tryz.func110,Tryz.ntmps110
  go_wp2_with fail
  go_ret2
  exact⟨Below.refl _ _,fO.refl _ _,.inl ⟨HF.out,rfl⟩⟩
 ·have hi:(n:Int)≤(l.length:Int):=by omega
  have hi2: ¬(l.length:Int)<(n:Int):=by omega
  have hci:(l.length:Int)≤(c:Int):=by omega
  have hnc:(n:Int)≤(c:Int):=by omega
  have Nj:(c:Int)≤9223372036854775807:=by omega
  have hlt:=hx.lt
  have hb: ∀u,Below bo w (w.setCell ⟨bo,0,none⟩ u):=fun u=>Below.setCell (p:=⟨bo,0,none⟩) (Below.refl _ _) (Nat.le_refl _) _
  have HT:=Lib.hid (fun u=>(hB.take n).low (hb u) hA)
  have HH3:=Lib.hid (show n≤l.length∧l.length≤c by omega)
  have HX:=Lib.hid hx
  have HAA:=Lib.hid hA
  have HM:=Lib.hid hm
  have hn0:(0:Int)≤(n:Int):=by omega
  clear h hA hx hb hn hm hc hl
  go_enter Tryz.func110,Tryz.ntmps110
  go_upto_region 5 with fail
  have hR2:Rest bo (w.setCell ⟨bo,0,none⟩ (.slice (if c=n then A else A.map fun x=>x.add n) (l.length-n) (c-n))) (l.drop n):=by
   split
   ·rename_i e
    have h0:c-n=0:=by omega
    rw[h0]
    exact Rest.over HX.out HAA.out (by have:=HH3.out;omega)
   ·exact Rest.step HX.out hB HAA.out HH3.out.1 HH3.out.2 HM.out
  have hb2:Below bo w (w.setCell ⟨bo,0,none⟩ (.slice (if c=n then A else A.map fun x=>x.add n) (l.length-n) (c-n))):=Below.setCell (p:=⟨bo,0,none⟩) (Below.refl _ _) (Nat.le_refl _) _
  have hk2:fO bo w (w.setCell ⟨bo,0,none⟩ (.slice (if c=n then A else A.map fun x=>x.add n) (l.length-n) (c-n))):=fO.set _ _ _
  have ht2:=HT.out (.slice (if c=n then A else A.map fun x=>x.add n) (l.length-n) (c-n))
  generalize Value.slice (if c=n then A else A.map fun x=>x.add n) (l.length-n) (c-n)=sv at hR2 hb2 ht2 hk2 ⊢
  generalize w.setCell ⟨bo,0,none⟩ sv=w2 at hR2 hb2 ht2 hk2 ⊢
  clear HT hxc hfz
  go_wp2_with fail
  go_ret2
  exact⟨hb2,hk2,.inr ⟨HH3.out.1,A,c,rfl,ht2,HAA.out,hR2⟩⟩
def EJ(bo:Nat)(l:List UInt8)(w:World)(e:Ending)(w':World):Prop:=
 e= .returned (.tuple #[(jS l).1.agg,.int .i64 ((jS l).2.2:Nat)])∧Below bo w w'∧bG bo w w'∧((jS l).2.2=0→Rest bo w' (jS l).2.1)
def dG(r:Nat)(w:World)(f:bK):Prop:=w.heap[r]? =some (.cells #[.int .i64 f.id,.int .u32 (f.n:Nat)] 84 (0,0))
theorem dG.cells{r:Nat}{w:World}{f:bK}(h:dG r w f):w.cell? ⟨r,0,none⟩=some (.int .i64 f.id)∧w.cell? ⟨r,1,none⟩=some (.int .u32 (f.n:Nat))∧w.frozen? ⟨r,0,none⟩=false∧w.frozen? ⟨r,1,none⟩=false:=by
 refine⟨?_,?_,?_,?_⟩
 ·rw[cell_of_row w r 0 _ _ _ h];rfl
 ·rw[cell_of_row w r 1 _ _ _ h];rfl
 ·simp[World.frozen?,show w.heap[r]? =_ from h]
 ·simp[World.frozen?,show w.heap[r]? =_ from h]
theorem dG.set1{r:Nat}{w:World}{f:bK}(h:dG r w f)(i:Int):dG r (w.setCell ⟨r,0,none⟩ (.int .i64 i)) ⟨i,f.n⟩:=heap_set (L:=[.int .i64 f.id,.int .u32 (f.n:Nat)]) h 0 (.int .i64 i)
theorem dG.set2{r:Nat}{w:World}{f:bK}(h:dG r w f)(i:Int)(n:Nat):dG r ((w.setCell ⟨r,0,none⟩ (.int .i64 i)).setCell ⟨r,1,none⟩ (.int .u32 (n:Nat))) ⟨i,n⟩:=by
 have h1:=heap_set (L:=[.int .i64 f.id,.int .u32 (f.n:Nat)]) h 0 (.int .i64 i)
 exact heap_set (L:=[.int .i64 i,.int .u32 (f.n:Nat)]) h1 1 (.int .u32 (n:Nat))
theorem dG.zero{r:Nat}{w:World}{f:bK}(h:dG r w f):((w.setCell ⟨r,0,none⟩ (.int .i64 0)).setCell ⟨r,1,none⟩ (.int .u32 0)).cell? ⟨r,1,none⟩=some (.int .u32 0):=(h.set2 0 0).cells.2.1
theorem Rest.alloc{bo:Nat}{w:World}{l:List UInt8}(h:Rest bo w l)(o:Obj):Rest bo (w.alloc o) l:=by
 have hlt:bo+1≤w.heap.size:=by obtain⟨A,c,h1,_⟩:=h;exact h1.lt
 exact h.keep ((Below.refl _ _).alloc hlt _)
theorem Rest.lt{bo:Nat}{w:World}{l:List UInt8}(h:Rest bo w l):bo<w.heap.size:=by obtain⟨A,c,h1,_⟩:=h;exact h1.lt
theorem Z5(bo:Nat)(l:List UInt8)(w:World)(hR:Rest bo w l)(hl:l.length≤1000000):
  Calls Tryz.prog 150 #[.func (.func 108) #[] #[.pointer (some ⟨bo,0,none⟩)],.func (.func 110) #[] #[.pointer (some ⟨bo,0,none⟩)]] w (EJ bo l w):=by
 have hlt:=hR.lt
 have HB0:Hid (Below bo w (w.alloc (.cells #[.int .i64 0,.int .u32 0] 84))):=Lib.hid ((Below.refl _ _).alloc (by omega) _)
 have HF0:Hid (dG w.heap.size (w.alloc (.cells #[.int .i64 0,.int .u32 0] 84)) ⟨0,0⟩):=Lib.hid (heap_alloc_last _ _)
 have HN0:=Lib.hid (uS bo l (w.alloc (.cells #[.int .i64 0,.int .u32 0] 84)) (hR.alloc _) hl)
 have HM:Hid (jS l=match iI l with
  | none=>(⟨0,0⟩,[],4)
  | some (id,l1)=>match iI l1 with
   | none=>(⟨0,0⟩,[],4)
   | some (n,l2)=>if l2.length<n then(⟨0,0⟩,[],4)else if 2147483648≤id then(⟨0,0⟩,[],5)else match gy (id:Int) (l2.take n)with
    | none=>(⟨0,0⟩,[],5)
    | some f=>(f,l2.drop n,0)):=Lib.hid rfl
 have HD:=Lib.hid (show EJ bo l w=fun e w'=>e= .returned (.tuple #[(jS l).1.agg,.int .i64 ((jS l).2.2:Nat)])∧Below bo w w'∧bG bo w w'∧((jS l).2.2=0→Rest bo w' (jS l).2.1)from rfl)
 have Cm:Hid (∀(wx:World) (u1 u2:Value),Below bo w wx→Below bo w ((wx.setCell ⟨w.heap.size,0,none⟩ u1).setCell ⟨w.heap.size,1,none⟩ u2)):=Lib.hid (fun wx u1 u2 h=>Below.setCell (p:=⟨w.heap.size,1,none⟩) (Below.setCell (p:=⟨w.heap.size,0,none⟩) h (by show bo≤w.heap.size;omega) _) (by show bo≤w.heap.size;omega) _)
 have XH:Hid (∀(wx:World) (u1 u2:Value),bG bo w wx→bG bo w ((wx.setCell ⟨w.heap.size,0,none⟩ u1).setCell ⟨w.heap.size,1,none⟩ u2)):=Lib.hid (fun wx u1 u2 h=>(h.set (Nat.le_refl _) u1).set (Nat.le_refl _) u2)
 have HK0:Hid (bG bo w (w.alloc (.cells #[.int .i64 0,.int .u32 0] 84))):=Lib.hid (Below.old ((Below.refl _ _).alloc (Nat.le_refl _) _))
 rw[HD.out]
 clear HD
 generalize jS l=R at*
 have ajF:(w.alloc (.cells #[.int .i64 0,.int .u32 0] 84)).heap.size=w.heap.size+1:=by simp
 have HWS:=Lib.hid ajF
 clear ajF
 go_enter Tryz.func150,Tryz.ntmps150
 go_wp2_with fail
 refine HN0.out.mono ?_
 rintro e w1 ⟨hb1,hk1,hd1⟩
 have hf1:dG w.heap.size w1 ⟨0,0⟩:=(hk1.2 _ (by omega)).trans HF0.out
 have ajG:=HB0.out.trans hb1
 have ko1:=Lib.hid (HK0.out.trans hk1.old)
 obtain⟨c0,c1,f0,f1⟩:=hf1.cells
 simp only at c0 c1
 cases hn:iI l with
 | none=>
  rw[hn]at hd1 HM
  obtain rfl:=hd1
  obtain rfl:R=(⟨0,0⟩,[],4):=HM.out
  clear HM hn hk1
  go_wp2_with fail
  have k1:=dG.zero hf1
  obtain⟨k0,_,_,_⟩:=(dG.set1 hf1 0).cells
  simp only at k0
  exact bodyPost_ret (v:= .tuple #[.agg #[.int .i64 0,.int .u32 0],.int .i64 4]) (by simp[results,Tryz.results150,go_sem,k0,k1]) rfl ⟨rfl,Cm.out w1 _ _ ajG,XH.out w1 _ _ ko1.out⟩
 | some r1=>
  obtain⟨id,l1⟩:=r1
  rw[hn]at hd1 HM
  obtain⟨rfl,hR1⟩:=hd1
  obtain⟨hid,hl1,_⟩:=jR hn
  have HN1:=Lib.hid (uS bo l1 w1 hR1 (by omega))
  have uT:Hid (R=match iI l1 with
   | none=>(⟨0,0⟩,[],4)
   | some (n,l2)=>if l2.length<n then(⟨0,0⟩,[],4)else if 2147483648≤id then(⟨0,0⟩,[],5)else match gy (id:Int) (l2.take n)with
    | none=>(⟨0,0⟩,[],5)
    | some f=>(f,l2.drop n,0)):=Lib.hid HM.out
  have atW:(id:Int)<9223372036854775808:=by omega
  have hz1:w1.heap.size=w.heap.size+1:=by rw[hk1.1,HWS.out]
  have HZ1:=Lib.hid hz1
  clear HM hn hk1 hid hz1
  go_wp2_with fail
  refine HN1.out.mono ?_
  rintro e w2 ⟨hb2,hk2,hd2⟩
  have hf2:dG w.heap.size w2 ⟨0,0⟩:=(hk2.2 _ (by omega)).trans hf1
  have Qk:=ajG.trans hb2
  have ko2:=Lib.hid (ko1.out.trans hk2.old)
  clear c0 c1 f0 f1
  obtain⟨c0,c1,f0,f1⟩:=hf2.cells
  simp only at c0 c1
  cases hn2:iI l1 with
  | none=>
   rw[hn2]at hd2 uT
   obtain rfl:=hd2
   obtain rfl:R=(⟨0,0⟩,[],4):=uT.out
   clear uT hn2 hk2
   go_wp2_with fail
   have k1:=dG.zero hf2
   obtain⟨k0,_,_,_⟩:=(dG.set1 hf2 0).cells
   simp only at k0
   exact bodyPost_ret (v:= .tuple #[.agg #[.int .i64 0,.int .u32 0],.int .i64 4]) (by simp[results,Tryz.results150,go_sem,k0,k1]) rfl ⟨rfl,Cm.out w2 _ _ Qk,XH.out w2 _ _ ko2.out⟩
  | some r2=>
   obtain⟨n,l2⟩:=r2
   rw[hn2]at hd2 uT
   obtain⟨rfl,hR2⟩:=hd2
   obtain⟨hnb,hl2,_⟩:=jR hn2
   have HTK:=Lib.hid (Va bo n l2 w2 hR2 (by omega) hnb)
   have EX:Hid (R=if l2.length<n then(⟨0,0⟩,[],4)else if 2147483648≤id then(⟨0,0⟩,[],5)else match gy (id:Int) (l2.take n)with
    | none=>(⟨0,0⟩,[],5)
    | some f=>(f,l2.drop n,0)):=Lib.hid uT.out
   have hnI:(n:Int)<9223372036854775808:=by omega
   have HZ2:Hid (w2.heap.size=w.heap.size+1):=Lib.hid (by rw[hk2.1,HZ1.out])
   clear uT hn2 hk2 hnb
   go_wp2_with fail
   refine HTK.out.mono ?_
   rintro e w3 ⟨hb3,hk3,hd3⟩
   have hf3:dG w.heap.size w3 ⟨0,0⟩:=(hk3.2 _ (by omega)).trans hf2
   have acV:=Qk.trans hb3
   have ko3:=Lib.hid (ko2.out.trans hk3.old)
   clear c0 c1 f0 f1
   obtain⟨c0,c1,f0,f1⟩:=hf3.cells
   simp only at c0 c1
   rcases hd3 with⟨hlt3,rfl⟩ | ⟨hle3,A3,c3,rfl,hB3,hA3,Vx⟩
   ·obtain rfl:R=(⟨0,0⟩,[],4):=by rw[EX.out,if_pos hlt3]
    clear EX hlt3 hk3
    go_wp2_with fail
    have k1:=dG.zero hf3
    obtain⟨k0,_,_,_⟩:=(dG.set1 hf3 0).cells
    simp only at k0
    exact bodyPost_ret (v:= .tuple #[.agg #[.int .i64 0,.int .u32 0],.int .i64 4]) (by simp[results,Tryz.results150,go_sem,k0,k1]) rfl ⟨rfl,Cm.out w3 _ _ acV,XH.out w3 _ _ ko3.out⟩
   ·by_cases hbig:2147483648≤id
    ·obtain rfl:R=(⟨0,0⟩,[],5):=by rw[EX.out,if_neg (by omega),if_pos hbig]
     have hbi:(2147483648:Int)≤(id:Int):=by omega
     clear EX hbig hk3
     go_wp2_with fail
     have k1:=dG.zero hf3
     obtain⟨k0,_,_,_⟩:=(dG.set1 hf3 0).cells
     simp only at k0
     exact bodyPost_ret (v:= .tuple #[.agg #[.int .i64 0,.int .u32 0],.int .i64 5]) (by simp[results,Tryz.results150,go_sem,k0,k1]) rfl ⟨rfl,Cm.out w3 _ _ acV,XH.out w3 _ _ ko3.out⟩
    ·have hbi:decide ((2147483648:Int)≤(id:Int))=false:=by simp;omega
     have HM3:Hid (R=match gy (id:Int) (l2.take n)with
      | none=>(⟨0,0⟩,[],5)
      | some f=>(f,l2.drop n,0)):=Lib.hid (by rw[EX.out,if_neg (by omega),if_neg hbig])
     have hln:(l2.take n).length=n:=by rw[List.length_take];omega
     have QH:=UE (id:Int) A3 (l2.take n) c3 w3 hB3
     rw[hln]at QH
     clear hln hA3 hB3 hle3 hl1 hl2
     have hz3:w.heap.size<w3.heap.size:=by rw[hk3.1,HZ2.out];omega
     have HR3:=Lib.hid Vx
     have HZ3:=Lib.hid hz3
     clear hz3 Vx
     cases hrd:gy (id:Int) (l2.take n)with
     | none=>
      rw[hrd]at QH HM3
      obtain rfl:R=(⟨0,0⟩,[],5):=HM3.out
      have af7:=Lib.hid (show Calls Tryz.prog 184 #[.int .i64 (id:Int),.slice A3 n c3] w3 (yA w3 0 0 (.int .i64 5))from QH)
      clear EX HM3 hbig hk3 QH hrd
      go_wp2_with fail
      refine af7.out.mono ?_
      rintro e w4 ⟨rfl,hb4⟩
      have hf4:dG w.heap.size w4 ⟨0,0⟩:=(hb4.block _ HZ3.out).trans hf3
      have af8:=acV.trans (hb4.mono (by have:=HZ3.out;omega))
      have ko4:=Lib.hid (ko3.out.trans (Below.old hb4))
      clear c0 c1 f0 f1
      obtain⟨c0,c1,f0,f1⟩:=hf4.cells
      simp only at c0 c1
      go_wp2_with fail
      have k1:=dG.zero hf4
      obtain⟨k0,_,_,_⟩:=(dG.set1 hf4 0).cells
      simp only at k0
      exact bodyPost_ret (v:= .tuple #[.agg #[.int .i64 0,.int .u32 0],.int .i64 5]) (by simp[results,Tryz.results150,go_sem,k0,k1]) rfl ⟨rfl,Cm.out w4 _ _ af8,XH.out w4 _ _ ko4.out⟩
     | some f=>
      obtain⟨fid,fn⟩:=f
      rw[hrd]at QH HM3
      obtain rfl:R=(⟨fid,fn⟩,l2.drop n,0):=HM3.out
      have af7:=Lib.hid (show Calls Tryz.prog 184 #[.int .i64 (id:Int),.slice A3 n c3] w3 (yA w3 fid fn (.int .i64 0))from QH)
      clear EX HM3 hbig hk3 QH hrd
      go_wp2_with fail
      refine af7.out.mono ?_
      rintro e w4 ⟨rfl,hb4⟩
      have hf4:dG w.heap.size w4 ⟨0,0⟩:=(hb4.block _ HZ3.out).trans hf3
      have af8:=acV.trans (hb4.mono (by have:=HZ3.out;omega))
      have ko4:=Lib.hid (ko3.out.trans (Below.old hb4))
      have hR4:Rest bo w4 (l2.drop n):=HR3.out.keep (hb4.mono (by have:=HZ3.out;omega))
      clear c0 c1 f0 f1
      obtain⟨c0,c1,f0,f1⟩:=hf4.cells
      simp only at c0 c1
      go_wp2_with fail
      obtain⟨_,k1,_,_⟩:=(dG.set2 hf4 fid fn).cells
      obtain⟨k0,_,_,_⟩:=(dG.set1 hf4 fid).cells
      simp only at k0 k1
      have hR5:Rest bo ((w4.setCell ⟨w.heap.size,0,none⟩ (.int .i64 fid)).setCell ⟨w.heap.size,1,none⟩ (.int .u32 (fn:Nat))) (l2.drop n):=
       hR4.keep (Below.setCell (p:=⟨w.heap.size,1,none⟩) (Below.setCell (p:=⟨w.heap.size,0,none⟩) (Below.refl _ _) (by show bo+1≤w.heap.size;omega) _) (by show bo+1≤w.heap.size;omega) _)
      exact bodyPost_ret (v:= .tuple #[.agg #[.int .i64 fid,.int .u32 (fn:Nat)],.int .i64 0]) (by simp[results,Tryz.results150,go_sem,k0,k1]) rfl ⟨rfl,Cm.out w4 _ _ af8,XH.out w4 _ _ ko4.out,by first | exact hR5 | exact fun _=>hR5⟩
end Go.Proofs.YtgfpocdiojifoaaGreatDoor
