import Derived.Test.YtgfpocdiojifoaaGreatDoorZ09
namespace Go.Proofs.YtgfpocdiojifoaaGreatDoor
set_option maxRecDepth 100000
set_option maxHeartbeats 8000000
open Go.RowKit
def Rd.Du(l:List UInt8):Nat:=(l.getD 1 0).toNat*16777216+(l.getD 2 0).toNat*65536+(l.getD 3 0).toNat*256+(l.getD 4 0).toNat
def Rd.start(l:List UInt8):Rd.St:=⟨5,Rd.Du l,4294967295,false⟩
theorem Rd.XZ(l:List UInt8):Rd.Du l<4294967296:=by
 have h1:=(l.getD 1 0).toNat_lt
 have h2:=(l.getD 2 0).toNat_lt
 have h3:=(l.getD 3 0).toNat_lt
 have h4:=(l.getD 4 0).toNat_lt
 unfold Rd.Du;omega
theorem Rd.X7{l:List UInt8}(h:5≤l.length):(Rd.start l).ok l:=⟨⟨h,Rd.XZ l,by show 4294967295<_;omega⟩,fun _=>by show 16777216≤4294967295;omega⟩
theorem Dv(a b k:Nat)(hb:b<2^k):a*2^k ||| b=a*2^k+b:=by
 rw[←Nat.shiftLeft_eq,←Nat.shiftLeft_add_eq_or_of_lt hb]
theorem OA(a b c d:Nat)(ha:a<256)(hb:b<256)(hc:c<256)(hd:d<256):
  bits .or .u32 (bits .or .u32 (bits .or .u32 (IntKind.u32.wrap (IntKind.u32.wrap (a:Int)*16777216)) (IntKind.u32.wrap (IntKind.u32.wrap (b:Int)*65536))) (IntKind.u32.wrap (IntKind.u32.wrap (c:Int)*256))) (IntKind.u32.wrap (d:Int))=((a*16777216+b*65536+c*256+d:Nat):Int):=by
 have w0: ∀x:Nat,x<256→IntKind.u32.wrap (x:Int)=(x:Int):=fun x hx=>by rw[IntKind.wrap_u32];omega
 rw[w0 a ha,w0 b hb,w0 c hc,w0 d hd]
 have e1:IntKind.u32.wrap ((a:Int)*16777216)=((a*16777216:Nat):Int):=by rw[IntKind.wrap_u32];omega
 have e2:IntKind.u32.wrap ((b:Int)*65536)=((b*65536:Nat):Int):=by rw[IntKind.wrap_u32];omega
 have e3:IntKind.u32.wrap ((c:Int)*256)=((c*256:Nat):Int):=by rw[IntKind.wrap_u32];omega
 have o1:a*16777216 ||| b*65536=a*16777216+b*65536:=Dv a (b*65536) 24 (by omega)
 have o2:(a*16777216+b*65536) ||| c*256=a*16777216+b*65536+c*256:=by
  have:=Dv (a*256+b) (c*256) 16 (by omega)
  rw[show(a*256+b)*2^16=a*16777216+b*65536 by omega]at this;exact this
 have o3:(a*16777216+b*65536+c*256) ||| d=a*16777216+b*65536+c*256+d:=by
  have:=Dv (a*65536+b*256+c) d 8 (by omega)
  rw[show(a*65536+b*256+c)*2^8=a*16777216+b*65536+c*256 by omega]at this;exact this
 rw[e1,e2,e3,u32_or_nat _ _ (by omega) (by omega),o1,u32_or_nat _ _ (by omega) (by omega),o2,u32_or_nat _ _ (by omega) (by omega),o3]
def adI(w:World)(n:Int)(e:Ending)(w':World):Prop:=e= .returned (.tuple #[.pointer none,.int .i64 n])∧w=w'
def ain(w:World)(l:List UInt8)(e:Ending)(w':World):Prop:=
 ∃g o cap,e= .returned (.tuple #[.pointer (some ⟨g,0,none⟩),.int .i64 0])∧ku w' g o cap l (Rd.start l)∧Below w.heap.size w w'∧w.heap.size≤g∧w.heap.size≤o
theorem OB(A:Option Addr)(l:List UInt8)(c:Nat)(w:World)(h:l.length<5):
  Calls Tryz.prog 216 #[.slice A l.length c] w (adI w 2):=by
 generalize l.length=L at*
 have h':(L:Int)<5:=by omega
 go_enter Tryz.func216,Tryz.ntmps216
 go_wp2_with fail
 go_ret2
 exact⟨rfl,rfl⟩
theorem Bytes.five{w:World}{A:Option Addr}{l:List UInt8}(hB:Bytes w A l)(h:5≤l.length): ∃b off,A=some ⟨b,off,none⟩∧b<w.heap.size∧ ∀k,k<l.length→w.cell? ⟨b,off+k,none⟩=some (B8 (l.getD k 0)):=by
 obtain⟨b,off,rfl,hb,hc⟩:=hB.addr (by omega)
 refine⟨b,off,rfl,hb,fun k hk=> ?_⟩
 rw[hc k hk];simp[List.getD,hk]
theorem X8(A:Option Addr)(l:List UInt8)(c:Nat)(w:World)(hB:Bytes w A l)(h:5≤l.length)(h0:l.getD 0 0≠0):
  Calls Tryz.prog 216 #[.slice A l.length c] w (adI w 6):=by
 obtain⟨b,off,rfl,hb,hc⟩:=hB.five h
 have k0:=hc 0 (by omega)
 rw[Nat.add_zero]at k0
 have hne:((l.getD 0 0).toNat:Int) !=0:=by
  rw[bne_iff_ne];intro he;exact h0 (UInt8.toNat_inj.1 (by simpa using he))
 generalize l.getD 0 0=b0 at*
 generalize l.length=L at*
 have h': ¬(L:Int)<5:=by omega
 have h5:0<L:=by omega
 have h6:((b0.toNat:Int)==0)=false:=by rw[beq_eq_false_iff_ne];exact bne_iff_ne.1 hne
 clear hc h0
 go_enter Tryz.func216,Tryz.ntmps216
 go_wp2_with fail
 go_ret2
 exact⟨rfl,rfl⟩
theorem Tt(A:Option Addr)(l:List UInt8)(c:Nat)(w:World)(hB:Bytes w A l)(h:5≤l.length)(hl:l.length≤140737488355328)(h0:l.getD 0 0=0):
  Calls Tryz.prog 216 #[.slice A l.length c] w (ain w l):=by
 have hB0:=hB
 obtain⟨b,off,rfl,hb,hc⟩:=hB.five h
 have k0:=hc 0 (by omega)
 have k1:=hc 1 (by omega)
 have k2:=hc 2 (by omega)
 have k3:=hc 3 (by omega)
 have k4:=hc 4 (by omega)
 rw[Nat.add_zero,h0]at k0
 have hcf:=OA _ _ _ _ (l.getD 1 0).toNat_lt (l.getD 2 0).toNat_lt (l.getD 3 0).toNat_lt (l.getD 4 0).toNat_lt
 have hcd:(l.getD 1 0).toNat*16777216+(l.getD 2 0).toNat*65536+(l.getD 3 0).toNat*256+(l.getD 4 0).toNat=Rd.Du l:=rfl
 rw[hcd]at hcf
 clear hcd
 generalize l.getD 1 0=b1 at*
 generalize l.getD 2 0=b2 at*
 generalize l.getD 3 0=b3 at*
 generalize l.getD 4 0=b4 at*
 have HCF:=Lib.hid hcf
 have abw:Value.slice (some ⟨b,off,none⟩) l.length c= .slice (some ⟨b,off,none⟩) l.length c:=rfl
 have hfit:([]:List UInt8).length+l.length≤140737488355328:=by simpa using hl
 have hBd:Bytes w.drew (some ⟨b,off,none⟩) l:=hB0
 have HSR:=Lib.hid abw
 generalize hL:l.length=L at*
 have HL:=Lib.hid hL
 have h': ¬(L:Int)<5:=by omega
 have g0:0<L:=by omega
 have g1:1<L:=by omega
 have g2:2<L:=by omega
 have g3:3<L:=by omega
 have g4:4<L:=by omega
 have i1:(1:Int)<(L:Int):=by omega
 have i2:(2:Int)<(L:Int):=by omega
 have i3:(3:Int)<(L:Int):=by omega
 have i4:(4:Int)<(L:Int):=by omega
 clear hc h0 hcf hL abw hB
 go_enter Tryz.func216,Tryz.ntmps216
 go_wp2_with fail
 refine wp_region_held_drew (S:=fun w'=>w'.cell? ⟨b,off+1,none⟩=some (B8 b1)∧w'.cell? ⟨b,off+2,none⟩=some (B8 b2)∧w'.cell? ⟨b,off+3,none⟩=some (B8 b3)∧w'.cell? ⟨b,off+4,none⟩=some (B8 b4)) (by kernel_rfl) ⟨k1,k2,k3,k4⟩ (fun hS=> ?_)
 refine tq 0 hS ?_
 refine tq 1 hS ?_
 refine tp 2 rfl (fun w hSw=>by obtain⟨j1,j2,j3,j4⟩:=hSw;go_simp;all_goals(with_reducible rfl)) hS ?_
 refine tq 3 hS ?_
 refine tq 4 hS ?_
 refine tq 5 hS ?_
 refine tq 6 hS ?_
 refine tp 7 rfl (fun w hSw=>by obtain⟨j1,j2,j3,j4⟩:=hSw;go_simp;all_goals(with_reducible rfl)) hS ?_
 refine tq 8 hS ?_
 refine tq 9 hS ?_
 refine tq 10 hS ?_
 refine tq 11 hS ?_
 refine tq 12 hS ?_
 refine tp 13 rfl (fun w hSw=>by obtain⟨j1,j2,j3,j4⟩:=hSw;go_simp;all_goals(with_reducible rfl)) hS ?_
 refine tq 14 hS ?_
 refine tq 15 hS ?_
 refine tq 16 hS ?_
 refine tq 17 hS ?_
 refine tq 18 hS ?_
 refine tp 19 rfl (fun w hSw=>by obtain⟨j1,j2,j3,j4⟩:=hSw;go_simp;all_goals(with_reducible rfl)) hS ?_
 refine tq 20 hS ?_
 refine tq 21 hS ?_
 refine tq 22 hS ?_
 refine wpAnyH_done (by kernel_rfl) ?_ _
 rw[HCF.out]
 have hsr:Value.slice (some ⟨b,off,none⟩) L c= .slice (some ⟨b,off,none⟩) l.length c:=by rw[HL.out]
 have HSR:=Lib.hid hsr
 have hon:Own w.heap.size w.drew (.slice none 0 0) []:=Own.nil _ _
 have hs0:w.heap.size≤w.drew.heap.size:=Nat.le_refl _
 have aio:([]:List UInt8).length+l.length≤140737488355328:=by rw[HL.out];exact hfit
 have hdr:Below w.heap.size w w.drew:=(Below.refl _ _).drew
 generalize hC:Rd.Du l=C at*
 have HC:=Lib.hid hC
 clear hsr k0 k1 k2 k3 k4 HCF hC
 generalize w.drew=wd at*
 go_wp2_with (at_builtin;refine ay rfl (.const (.slice none 0 0)) (.tmp 35) rfl w.heap.size wd (.slice none 0 0) [] rfl hon (some ⟨b,off,none⟩) l c HSR.out hBd aio hs0 ?_;intro v2 w4 fE hg4;have hb4:Below w.heap.size w w4:=below_grown hdr hg4 hs0 (fun g' hg'=>by cases hg');rw[List.nil_append]at fE;unfold Own at fE;rw[HL.out]at fE;obtain⟨gb,abx,rfl,hgb,ahR⟩:=World.ownsRow.form fE g0)
 go_ret2
 have hsz:=hb4.size
 obtain⟨A2,c2,he,_,_,hrd⟩:=Own.read (base:=w.heap.size) (l:=l) (by unfold Own;rw[HL.out];exact fE)
 injection he with he1 he2 he3
 subst he1
 refine⟨w4.heap.size,gb,abx,rfl,⟨C,4294967295,fun _=>⟨HC.out.symm,rfl⟩,?_,hrd.alloc _,by omega,by simp;omega⟩,hb4.alloc hsz _,hsz,hgb⟩
 rw[HL.out]
 exact heap_alloc_new w4 _
namespace Rc
def Inside(s S:St):Prop:=s.k≤S.k∧s.v*256^(S.k-s.k)≤S.v∧S.v+S.r≤(s.v+s.r)*256^(S.k-s.k)
theorem Inside.refl(s:St):Inside s s:=⟨Nat.le_refl _,by simp,by simp⟩
theorem Inside.trans{a b c:St}(h:Inside a b)(k:Inside b c):Inside a c:=by
 obtain⟨h1,h2,h3⟩:=h
 obtain⟨k1,k2,k3⟩:=k
 have e:256^(c.k-a.k)=256^(b.k-a.k)*256^(c.k-b.k):=by rw[←Nat.pow_add];congr 1;omega
 refine⟨by omega,?_,?_⟩
 ·rw[e,←Nat.mul_assoc]
  exact Nat.le_trans (Nat.mul_le_mul_right _ h2) k2
 ·rw[e,←Nat.mul_assoc]
  exact Nat.le_trans k3 (Nat.mul_le_mul_right _ h3)
theorem Gx(s:St):Inside s s.up:=by
 refine⟨by show s.k≤s.k+1;omega,?_,?_⟩
 ·show s.v*256^(s.k+1-s.k)≤s.v*256
  rw[show s.k+1-s.k=1 by omega];omega
 ·show s.v*256+s.r*256≤(s.v+s.r)*256^(s.k+1-s.k)
  rw[show s.k+1-s.k=1 by omega];omega
theorem iw: ∀(N:Nat) (s:St),Inside s (St.scale N s)
 | 0,s=>Inside.refl s
 | N+1,s=>by
  rw[St.scale];split
  ·exact(Gx s).trans (iw N s.up)
  ·exact Inside.refl s
theorem KP(s:St)(p:Nat)(one:Bool)(h2:p≤2047):Inside s (s.pick p one):=by
 have k2:s.r/2048*p≤s.r/2048*2047:=Nat.mul_le_mul_left _ h2
 have hr:s.r/2048*2047≤s.r:=by omega
 unfold St.pick Inside
 cases one
 ·simp only[Bool.false_eq_true,if_false,Nat.sub_self,Nat.pow_zero,Nat.mul_one];omega
 ·simp only[if_true,Nat.sub_self,Nat.pow_zero,Nat.mul_one];omega
theorem sQ(s:St)(one:Bool):Inside s (s.half one):=by
 unfold St.half Inside
 cases one
 ·simp only[Bool.false_eq_true,if_false,Nat.sub_self,Nat.pow_zero,Nat.mul_one];omega
 ·simp only[if_true,Nat.sub_self,Nat.pow_zero,Nat.mul_one];omega
theorem Dw(s:St)(c:Nat)(one:Bool):Inside s (s.bit c one):=(KP s _ one (kX c).2).trans (iw 2 _)
theorem xO(s:St): ∀(n x:Nat),Inside s (s.plain x n)
 | 0,_=>Inside.refl s
 | n+1,x=>((xO s n (x/2)).trans (sQ _ _)).trans (iw 1 _)
def top(S:St)(k:Nat):Nat:=S.v/256^(S.k-k)
theorem Inside.bounds{s S:St}(h:Inside s S)(hr:0<S.r):s.v≤top S s.k∧top S s.k<s.v+s.r:=by
 obtain⟨h1,h2,h3⟩:=h
 have hp:0<256^(S.k-s.k):=Nat.pos_of_ne_zero (by simp)
 unfold top
 exact⟨(Nat.le_div_iff_mul_le hp).2 h2,(Nat.div_lt_iff_lt_mul hp).2 (by omega)⟩
theorem Ya(S:St)(k:Nat)(h:k<S.k):top S k=top S (k+1)/256:=by
 unfold top
 rw[Nat.div_div_eq_div_mul,←Nat.pow_succ,show(S.k-(k+1)).succ=S.k-k by omega]
end Rc
def Agree(S:Rc.St)(L:List UInt8):Prop:= ∀i (h:i<L.length),i<5+S.k→(L[i]).toNat=S.v/256^(4+S.k-i)%256
def Follows(S:Rc.St)(L:List UInt8)(s:Rc.St)(d:Rd.St):Prop:=
 (5+s.k≤L.length→d=⟨5+s.k,Rc.top S s.k-s.v,s.r,false⟩)∧(¬5+s.k≤L.length→d.out=true)
theorem Tv{S:Rc.St}{L:List UInt8}(hA:Agree S L)(hS:0<S.r){s:Rc.St}(hI:Rc.Inside s.up S)(hr:s.r<16777216)(ho:5+s.k≤L.length):
  Follows S L s.up (Rd.next L ⟨5+s.k,Rc.top S s.k-s.v,s.r,false⟩):=by
 have hk:s.k+1≤S.k:=hI.1
 obtain⟨b1,b2⟩:=((Rc.Gx s).trans hI).bounds hS
 have ht:=Rc.Ya S s.k (by omega)
 refine⟨fun hn=> ?_,fun hn=> ?_⟩
 ·have hn':5+(s.k+1)≤L.length:=hn
  have hlt:5+s.k<L.length:=by omega
  rw[Rd.wZ (s:=⟨5+s.k,Rc.top S s.k-s.v,s.r,false⟩) hlt]
  have hb:=hA (5+s.k) hlt (by omega)
  have hb2:(L[5+s.k]).toNat=Rc.top S (s.k+1)%256:=by rw[hb];unfold Rc.top;rw[show 4+S.k-(5+s.k)=S.k-(s.k+1) by omega]
  show(⟨5+s.k+1,(256*(Rc.top S s.k-s.v)+(L[5+s.k]).toNat)%4294967296,s.r*256,false⟩:Rd.St)=⟨5+(s.k+1),Rc.top S (s.k+1)-s.v*256,s.r*256,false⟩
  rw[hb2]
  generalize Rc.top S (s.k+1)=T at*
  generalize Rc.top S s.k=U at*
  have e:(256*(U-s.v)+T%256)%4294967296=T-s.v*256:=by omega
  rw[e];rfl
 ·have hn': ¬5+(s.k+1)≤L.length:=hn
  rw[Rd.rU (s:=⟨5+s.k,Rc.top S s.k-s.v,s.r,false⟩) (by show ¬5+s.k<L.length;omega)]
theorem jg{S:Rc.St}{L:List UInt8}(hA:Agree S L)(hS:0<S.r): ∀(N:Nat) (s:Rc.St) (d:Rd.St),Follows S L s d→Rc.Inside (Rc.St.scale N s) S→Follows S L (Rc.St.scale N s) (Rd.scale L N d)
 | 0,_,_,hF,_=>hF
 | N+1,s,d,hF,hI=>by
  by_cases hr:s.r<16777216
  ·rw[Rc.St.scale,if_pos hr]at hI ⊢
   have hI1:Rc.Inside s.up S:=(Rc.iw N s.up).trans hI
   by_cases ho:5+s.k≤L.length
   ·rw[hF.1 ho,Rd.vT rfl hr]
    exact jg hA hS N s.up _ (Tv hA hS hI1 hr ho) hI
   ·have hd:=hF.2 ho
    rw[Rd.pq hd]
    have:=jg hA hS N s.up d ⟨fun h=>absurd (show 5+(s.k+1)≤L.length from h) (by omega),fun _=>hd⟩ hI
    rwa [Rd.pq hd]at this
  ·rw[Rc.St.scale,if_neg hr]at hI ⊢
   by_cases ho:5+s.k≤L.length
   ·rw[hF.1 ho,Rd.yP (show ¬s.r<16777216 from hr)]
    exact⟨fun _=>rfl,fun h=>absurd ho h⟩
   ·have hd:=hF.2 ho
    rw[Rd.pq hd];exact hF
theorem OC{S:Rc.St}{L:List UInt8}(hA:Agree S L)(hS:0<S.r){s:Rc.St}{d:Rd.St}(c:Nat)(one:Bool)(hF:Follows S L s d)(hI:Rc.Inside (s.bit c one) S):
  Follows S L (s.bit c one) (d.bit L (Rc.fair c)).2∧(5+(s.bit c one).k≤L.length→(d.bit L (Rc.fair c)).1=one):=by
 obtain⟨h1,h2⟩:=Rc.kX c
 have hk:s.k≤(s.bit c one).k:=(Rc.Dw s c one).1
 by_cases ho:5+s.k≤L.length
 ·have hd:=hF.1 ho
  subst hd
  have Oc:Rc.Inside (s.pick (Rc.fair c) one) S:=(Rc.iw 2 _).trans hI
  obtain⟨b1,b2⟩:=Oc.bounds hS
  have hb:Rd.St.bit L ⟨5+s.k,Rc.top S s.k-s.v,s.r,false⟩ (Rc.fair c)=(Rd.St.one ⟨5+s.k,Rc.top S s.k-s.v,s.r,false⟩ (Rc.fair c),Rd.scale L 2 (Rd.St.pick ⟨5+s.k,Rc.top S s.k-s.v,s.r,false⟩ (Rc.fair c))):=rfl
  rw[hb]
  unfold Rc.St.bit at hI ⊢
  generalize Rc.fair c=p at*
  cases one with
  | true=>
   have b1':s.v+s.r/2048*p≤Rc.top S s.k:=b1
   have hle:s.r/2048*p≤Rc.top S s.k-s.v:=by omega
   have e1:Rd.St.one ⟨5+s.k,Rc.top S s.k-s.v,s.r,false⟩ p=true:=decide_eq_true hle
   have e2:Rd.St.pick ⟨5+s.k,Rc.top S s.k-s.v,s.r,false⟩ p=⟨5+s.k,Rc.top S s.k-s.v-s.r/2048*p,s.r-s.r/2048*p,false⟩:=if_pos hle
   rw[e1,e2]
   refine⟨jg hA hS 2 _ _ ⟨fun _=> ?_,fun h=>absurd ho h⟩ hI,fun _=>rfl⟩
   show _=(⟨5+s.k,Rc.top S s.k-(s.v+s.r/2048*p),s.r-s.r/2048*p,false⟩:Rd.St)
   rw[Nat.sub_sub]
  | false=>
   have b2':Rc.top S s.k<s.v+s.r/2048*p:=b2
   have b1':s.v≤Rc.top S s.k:=b1
   have hle: ¬s.r/2048*p≤Rc.top S s.k-s.v:=by omega
   have e1:Rd.St.one ⟨5+s.k,Rc.top S s.k-s.v,s.r,false⟩ p=false:=decide_eq_false hle
   have e2:Rd.St.pick ⟨5+s.k,Rc.top S s.k-s.v,s.r,false⟩ p=⟨5+s.k,Rc.top S s.k-s.v,s.r/2048*p,false⟩:=if_neg hle
   rw[e1,e2]
   exact⟨jg hA hS 2 _ _ ⟨fun _=>rfl,fun h=>absurd ho h⟩ hI,fun _=>rfl⟩
 ·have hd:=hF.2 ho
  have hb:d.bit L (Rc.fair c)=(false,d):=by unfold Rd.St.bit;rw[if_pos hd]
  rw[hb]
  exact⟨⟨fun h=>absurd h (by omega),fun _=>hd⟩,fun h=>absurd h (by omega)⟩
theorem vI{S:Rc.St}{L:List UInt8}(hA:Agree S L)(hS:0<S.r){s:Rc.St}{d:Rd.St}(hF:Follows S L s d): ∀(n x:Nat),Rc.Inside (s.plain x n) S→
  Follows S L (s.plain x n) (d.rounds L n).2∧(5+(s.plain x n).k≤L.length→(d.rounds L n).1=x%2^n)
 | 0,x,_=>⟨hF,fun _=>by show 0=x%1;omega⟩
 | n+1,x,hI=>by
  have hIh:Rc.Inside ((s.plain (x/2) n).half (x%2==1)) S:=(Rc.iw 1 _).trans hI
  have Oc:Rc.Inside (s.plain (x/2) n) S:=(Rc.sQ _ _).trans hIh
  obtain⟨f1,f2⟩:=vI hA hS hF n (x/2) Oc
  have hpl:s.plain x (n+1)=Rc.St.scale 1 ((s.plain (x/2) n).half (x%2==1)):=rfl
  have hk:(s.plain (x/2) n).k≤(s.plain x (n+1)).k:=by
   rw[hpl];exact((Rc.sQ _ _).trans (Rc.iw 1 _)).1
  by_cases ho:5+(s.plain (x/2) n).k≤L.length
  ·have hq:=f1.1 ho
   have hv:=f2 ho
   have hrd:d.rounds L (n+1)=(2*(d.rounds L n).1+(if(d.rounds L n).2.r/2≤(d.rounds L n).2.c then 1 else 0),Rd.scale L 1 (d.rounds L n).2.half):=by
    rw[Rd.St.rounds,if_neg (by rw[hq];simp)]
   rw[hrd,hpl]
   have hmod:x%2^(n+1)=2*(x/2%2^n)+x%2:=by
    have h1:x%2^(n+1)/2=x/2%2^n:=by rw[Nat.pow_succ,Nat.mul_comm,Nat.mod_mul_right_div_self]
    have h2:x%2^(n+1)%2=x%2:=by rw[Nat.pow_succ,Nat.mod_mul_left_mod]
    omega
   rw[hmod,hv,hq]
   rw[hpl]at hI
   obtain⟨b1,b2⟩:=hIh.bounds hS
   generalize s.plain (x/2) n=q at*
   by_cases hx:x%2=1
   ·have hxb:(x%2==1)=true:=by simp[hx]
    rw[hxb]at hI b1 b2 ⊢
    have b1':q.v+q.r/2≤Rc.top S q.k:=b1
    have hle:q.r/2≤Rc.top S q.k-q.v:=by omega
    have e2:Rd.St.half ⟨5+q.k,Rc.top S q.k-q.v,q.r,false⟩=⟨5+q.k,Rc.top S q.k-q.v-q.r/2,q.r/2,false⟩:=if_pos hle
    refine⟨?_,fun _=>by show 2*_+(if q.r/2≤Rc.top S q.k-q.v then 1 else 0)=_;rw[if_pos hle,hx]⟩
    show Follows S L _ (Rd.scale L 1 (Rd.St.half ⟨5+q.k,Rc.top S q.k-q.v,q.r,false⟩))
    rw[e2]
    refine jg hA hS 1 _ _ ⟨fun _=> ?_,fun h=>absurd ho h⟩ hI
    show _=(⟨5+q.k,Rc.top S q.k-(q.v+q.r/2),q.r/2,false⟩:Rd.St)
    rw[Nat.sub_sub]
   ·have hxb:(x%2==1)=false:=by simp[hx]
    rw[hxb]at hI b1 b2 ⊢
    have b1':q.v≤Rc.top S q.k:=b1
    have b2':Rc.top S q.k<q.v+q.r/2:=b2
    have hle: ¬q.r/2≤Rc.top S q.k-q.v:=by omega
    have e2:Rd.St.half ⟨5+q.k,Rc.top S q.k-q.v,q.r,false⟩=⟨5+q.k,Rc.top S q.k-q.v,q.r/2,false⟩:=if_neg hle
    refine⟨?_,fun _=>by show 2*_+(if q.r/2≤Rc.top S q.k-q.v then 1 else 0)=_;rw[if_neg hle];omega⟩
    show Follows S L _ (Rd.scale L 1 (Rd.St.half ⟨5+q.k,Rc.top S q.k-q.v,q.r,false⟩))
    rw[e2]
    exact jg hA hS 1 _ _ ⟨fun _=>rfl,fun h=>absurd ho h⟩ hI
  ·have hq:=f1.2 ho
   have hrd:d.rounds L (n+1)=d.rounds L n:=by rw[Rd.St.rounds,if_pos hq]
   rw[hrd]
   exact⟨⟨fun h=>absurd h (by omega),fun _=>hq⟩,fun h=>absurd h (by omega)⟩
theorem II{S:Rc.St}{L:List UInt8}(hA:Agree S L)(hS:0<S.r){s:Rc.St}{d:Rd.St}(hF:Follows S L s d)(n x:Nat)(hI:Rc.Inside (s.plain x n) S):
  Follows S L (s.plain x n) (d.plain L n).2∧(5+(s.plain x n).k≤L.length→(d.plain L n).1=x%2^n):=by
 obtain⟨f1,f2⟩:=vI hA hS hF n x hI
 by_cases ho:5+(s.plain x n).k≤L.length
 ·have hq:=f1.1 ho
  have hp:d.plain L n=d.rounds L n:=by unfold Rd.St.plain;rw[if_neg (by rw[hq];simp)]
  rw[hp];exact⟨f1,f2⟩
 ·have hq:=f1.2 ho
  have hp:d.plain L n=(0,(d.rounds L n).2):=by unfold Rd.St.plain;rw[if_pos hq]
  rw[hp];exact⟨f1,fun h=>absurd h ho⟩
theorem IJ{S:Rc.St}{L:List UInt8}(hA:Agree S L)(hok:S.ok)(h5:5≤L.length):Follows S L st0 (Rd.start L):=by
 refine⟨fun _=> ?_,fun h=>absurd h5 h⟩
 have hv:S.v<256^(4+S.k):=S.JM hok
 have hb: ∀i,1≤i→i≤4→(L.getD i 0).toNat=S.v/256^S.k/256^(4-i)%256:=by
  intro i h1 h4
  have hg:L.getD i 0=L[i]'(by omega):=by simp[List.getD,show i<L.length by omega]
  rw[hg,hA i (by omega) (by omega),Nat.div_div_eq_div_mul,←Nat.pow_add,show S.k+(4-i)=4+S.k-i by omega]
 have ht:S.v/256^S.k<4294967296:=by
  rw[Nat.div_lt_iff_lt_mul (Nat.pos_of_ne_zero (by simp))]
  rw[Nat.pow_add]at hv;exact hv
 show(⟨5,Rd.Du L,4294967295,false⟩:Rd.St)=⟨5+0,S.v/256^(S.k-0)-0,4294967295,false⟩
 have e1:=hb 1 (by omega) (by omega)
 have e2:=hb 2 (by omega) (by omega)
 have e3:=hb 3 (by omega) (by omega)
 have e4:=hb 4 (by omega) (by omega)
 rw[Nat.sub_zero,Nat.sub_zero]
 unfold Rd.Du
 rw[e1,e2,e3,e4]
 generalize S.v/256^S.k=T at*
 simp only[show(4:Nat)-1=3 from rfl,show(4:Nat)-2=2 from rfl,show(4:Nat)-3=1 from rfl,show(4:Nat)-4=0 from rfl,show(256:Nat)^3=16777216 from rfl,show(256:Nat)^2=65536 from rfl,show(256:Nat)^1=256 from rfl,show(256:Nat)^0=1 from rfl]
 have e:T/16777216%256*16777216+T/65536%256*65536+T/256%256*256+T/1%256=T:=by omega
 rw[e]
theorem Dx(S:Rc.St):Agree S (Rc.be (5+S.k) S.v):=by
 intro i h h5
 rw[Rc.aea (5+S.k) S.v i h5,UInt8.toNat_ofNat',show 5+S.k-1-i=4+S.k-i by omega];omega
theorem OD{S:Rc.St}{L:List UInt8}(h:Agree S L)(hok:S.ok)(hl:0<L.length):L.getD 0 0=0:=by
 have hg:L.getD 0 0=L[0]:=by simp[List.getD,hl]
 have hv:S.v<256^(4+S.k):=S.JM hok
 rw[hg]
 apply UInt8.toNat_inj.1
 rw[h 0 hl (by omega),Nat.sub_zero,Nat.div_eq_of_lt hv];rfl
section
abbrev PS:=(Nat→Nat)×Rc.St
abbrev PD:=(Nat→Nat)×Rd.St
def Fair(P:Nat→Nat):Prop:= ∀i,1≤P i∧P i≤2047
theorem Fair.put{P:Nat→Nat}(h:Fair P)(i:Nat)(b:Bool):Fair (Md.put P i (Rc.next (P i) b)):=by
 intro j
 unfold Md.put
 split
 ·exact Rc.nZ (h i).1 (h i).2 b
 ·exact h j
def Yb(S:Rc.St)(L:List UInt8)(x:PS)(y:PD):Prop:=y.1=x.1∧Follows S L x.2 y.2
def Good(S:Rc.St)(L:List UInt8){α:Type}(f:PS→α×PS)(h:PD→α×PD):Prop:= ∀x,Fair x.1→Fair (f x).2.1∧(Rc.Inside (f x).2.2 S→Rc.Inside x.2 S)∧ ∀y,Yb S L x y→Rc.Inside (f x).2.2 S→(h y).1=(f x).1∧Yb S L (f x).2 (h y).2
def Md.KQ(io:Io)(d s:Nat)(x:io.S):Nat×io.S:=
 if s<4 then(s+1,x)
 else if s<14 then
  ((2+s%2)*2^(s/2-1)+(Md.rev io (1716+32*s) (s/2-1) (d:Nat) x).1+1,(Md.rev io (1716+32*s) (s/2-1) (d:Nat) x).2)
 else
  ((2+s%2)*2^(s/2-1)+(io.plain x.2 (d/16%2^(s/2-1-4)) (s/2-1-4)).1%2^(s/2-1-4)*16+(Md.rev io 2164 4 (d:Nat) (x.1,(io.plain x.2 (d/16%2^(s/2-1-4)) (s/2-1-4)).2)).1+1,(Md.rev io 2164 4 (d:Nat) (x.1,(io.plain x.2 (d/16%2^(s/2-1-4)) (s/2-1-4)).2)).2)
section
variable{S:Rc.St}{L:List UInt8}{α β:Type}
theorem jO(a:α):Good S L (fun x=>(a,x)) (fun y=>(a,y)):=fun _ hx=>⟨hx,fun h=>h,fun _ hs _=>⟨rfl,hs⟩⟩
theorem dM{f:PS→α×PS}{h:PD→α×PD}(H:Good S L f h){g1:α→PS→β×PS}{g2:α→PD→β×PD}(K: ∀a,Good S L (g1 a) (g2 a)):Good S L (fun x=>g1 (f x).1 (f x).2) (fun y=>g2 (h y).1 (h y).2):=by
 intro x hx
 obtain⟨f1,f2,f3⟩:=H x hx
 obtain⟨k1,k2,k3⟩:=K (f x).1 (f x).2 f1
 refine⟨k1,fun hi=>f2 (k2 hi),fun y hs hi=> ?_⟩
 obtain⟨e,s⟩:=f3 y hs (k2 hi)
 have hk:=k3 (h y).2 s hi
 show(g2 (h y).1 (h y).2).1=(g1 (f x).1 (f x).2).1∧Yb S L (g1 (f x).1 (f x).2).2 (g2 (h y).1 (h y).2).2
 rw[e];exact hk
theorem gq{f:PS→α×PS}{h:PD→α×PD}(H:Good S L f h)(φ:α→β):Good S L (fun x=>(φ (f x).1,(f x).2)) (fun y=>(φ (h y).1,(h y).2)):=
 dM H (g1:=fun a x=>(φ a,x)) (g2:=fun a y=>(φ a,y)) fun a=>jO (φ a)
variable(hA:Agree S L)(hS:0<S.r)(hl:5+S.k≤L.length)(ge gd o cap:Nat)
include hA hS hl
theorem iU(i:Nat)(b b':Bool):Good S L ((aj ge).au i b) ((ak gd o cap L).au i b'):=by
 intro x hx
 have hc:Rc.fair (x.1 i)=x.1 i:=by have:=hx i;unfold Rc.fair;rw[if_neg (by omega)]
 have e1:(aj ge).au i b x=(b,Md.put x.1 i (Rc.next (x.1 i) b),x.2.bit (x.1 i) b):=by
  unfold Rc.St.bit
  rw[hc];rfl
 rw[e1]
 refine⟨hx.put i b,fun hi=>(Rc.Dw _ _ _).trans hi,fun y hs hi=> ?_⟩
 obtain⟨h1,h2⟩:=OC hA hS (x.1 i) b hs.2 hi
 rw[hc]at h1 h2
 have h0:(x.2.bit (x.1 i) b).k≤S.k:=hi.1
 have h3:=h2 (by omega)
 have e2:(ak gd o cap L).au i b' y=((y.2.bit L (y.1 i)).1,Md.put y.1 i (Rc.next (y.1 i) (y.2.bit L (y.1 i)).1),(y.2.bit L (y.1 i)).2):=rfl
 rw[e2,hs.1,h3]
 exact⟨rfl,rfl,h1⟩
theorem OE(v v' m:Nat)(hv:v<2^m):Good S L (fun x=>(((aj ge).plain x.2 v m).1,(x.1,((aj ge).plain x.2 v m).2))) (fun y=>(((ak gd o cap L).plain y.2 v' m).1,(y.1,((ak gd o cap L).plain y.2 v' m).2))):=by
 intro x hx
 refine⟨hx,fun hi=>(Rc.xO _ _ _).trans hi,fun y hs hi=> ?_⟩
 obtain⟨h1,h2⟩:=II hA hS hs.2 m v hi
 have h0:(x.2.plain v m).k≤S.k:=hi.1
 have h3:=h2 (by omega)
 rw[Nat.mod_eq_of_lt hv]at h3
 exact⟨h3,hs.1,h1⟩
theorem Ad(at_:Nat)(v v':Int): ∀n m,Good S L (Md.dF (aj ge) at_ v n m) (Md.dF (ak gd o cap L) at_ v' n m)
 | 0,m=>jO m
 | n+1,m=>dM (iU hA hS hl ge gd o cap (at_+m) (Md.aG v n) (Md.aG v' n)) (g1:=fun a x=>Md.dF (aj ge) at_ v n (2*m+a.toNat) x) (g2:=fun a y=>Md.dF (ak gd o cap L) at_ v' n (2*m+a.toNat) y) fun a=>Ad at_ v v' n (2*m+a.toNat)
theorem uN(at_ n:Nat)(v v':Int):Good S L (Md.tree (aj ge) at_ n v) (Md.tree (ak gd o cap L) at_ n v'):=
 gq (Ad hA hS hl ge gd o cap at_ v v' n 1) fun a=>a-2^n
theorem Dy(at_:Nat)(v v':Int): ∀k i m g,Good S L (Md.jo (aj ge) at_ v k i m g) (Md.jo (ak gd o cap L) at_ v' k i m g)
 | 0,_,_,g=>jO g
 | k+1,i,m,g=>dM (iU hA hS hl ge gd o cap (at_+m) (Md.aG v i) (Md.aG v' i)) (g1:=fun a x=>Md.jo (aj ge) at_ v k (i+1) (2*m+a.toNat) (g+a.toNat*2^i) x) (g2:=fun a y=>Md.jo (ak gd o cap L) at_ v' k (i+1) (2*m+a.toNat) (g+a.toNat*2^i) y) fun a=>Dy at_ v v' k (i+1) (2*m+a.toNat) (g+a.toNat*2^i)
theorem KR(at_ n:Nat)(v v':Int):Good S L (Md.rev (aj ge) at_ n v) (Md.rev (ak gd o cap L) at_ n v'):=Dy hA hS hl ge gd o cap at_ v v' n 0 1 0
theorem Dz(A p:Nat)(l l':Int):Good S L (Md.len (aj ge) A p l) (Md.len (ak gd o cap L) A p l'):=by
 refine dM (iU hA hS hl ge gd o cap A (decide (8≤l-2)) (decide (8≤l'-2)))
  (g1:=fun a x=>if a=false then(2+(Md.tree (aj ge) (A+2+8*p) 3 (l-2) x).1,(Md.tree (aj ge) (A+2+8*p) 3 (l-2) x).2)
   else
    let z:=(aj ge).au (A+1) (decide (16≤l-2)) x
    if z.1=false then(10+(Md.tree (aj ge) (A+130+8*p) 3 (l-2-8) z.2).1,(Md.tree (aj ge) (A+130+8*p) 3 (l-2-8) z.2).2)
    else(18+(Md.tree (aj ge) (A+258) 8 (l-2-16) z.2).1,(Md.tree (aj ge) (A+258) 8 (l-2-16) z.2).2))
  (g2:=fun a x=>if a=false then(2+(Md.tree (ak gd o cap L) (A+2+8*p) 3 (l'-2) x).1,(Md.tree (ak gd o cap L) (A+2+8*p) 3 (l'-2) x).2)
   else
    let z:=(ak gd o cap L).au (A+1) (decide (16≤l'-2)) x
    if z.1=false then(10+(Md.tree (ak gd o cap L) (A+130+8*p) 3 (l'-2-8) z.2).1,(Md.tree (ak gd o cap L) (A+130+8*p) 3 (l'-2-8) z.2).2)
    else(18+(Md.tree (ak gd o cap L) (A+258) 8 (l'-2-16) z.2).1,(Md.tree (ak gd o cap L) (A+258) 8 (l'-2-16) z.2).2)) ?_
 intro a
 cases a with
 | false=>exact gq (uN hA hS hl ge gd o cap (A+2+8*p) 3 (l-2) (l'-2)) fun a=>2+a
 | true=>
  refine dM (iU hA hS hl ge gd o cap (A+1) (decide (16≤l-2)) (decide (16≤l'-2)))
   (g1:=fun a x=>if a=false then(10+(Md.tree (aj ge) (A+130+8*p) 3 (l-2-8) x).1,(Md.tree (aj ge) (A+130+8*p) 3 (l-2-8) x).2)
    else(18+(Md.tree (aj ge) (A+258) 8 (l-2-16) x).1,(Md.tree (aj ge) (A+258) 8 (l-2-16) x).2))
   (g2:=fun a x=>if a=false then(10+(Md.tree (ak gd o cap L) (A+130+8*p) 3 (l'-2-8) x).1,(Md.tree (ak gd o cap L) (A+130+8*p) 3 (l'-2-8) x).2)
    else(18+(Md.tree (ak gd o cap L) (A+258) 8 (l'-2-16) x).1,(Md.tree (ak gd o cap L) (A+258) 8 (l'-2-16) x).2)) ?_
  intro a
  cases a with
  | false=>exact gq (uN hA hS hl ge gd o cap (A+130+8*p) 3 (l-2-8) (l'-2-8)) fun a=>10+a
  | true=>exact gq (uN hA hS hl ge gd o cap (A+258) 8 (l-2-16) (l'-2-16)) fun a=>18+a
theorem Tz(l:Nat)(dd dd':Int):Good S L (Md.dist (aj ge) l dd) (Md.dist (ak gd o cap L) l dd'):=by
 obtain⟨d,hd⟩: ∃d,((dd-1)%4294967296).toNat=d:=⟨_,rfl⟩
 obtain⟨d',hd'⟩: ∃d,((dd'-1)%4294967296).toNat=d:=⟨_,rfl⟩
 have key:=dM (uN hA hS hl ge gd o cap (1460+64*min (l-2) 3) 6 (jq d:Nat) (jq d':Nat)) (g1:=Md.KQ (aj ge) d) (g2:=Md.KQ (ak gd o cap L) d') fun s=>by
  unfold Md.KQ
  by_cases h4:s<4
  ·simp only[if_pos h4]
   exact jO (s+1)
  ·by_cases RZ:s<14
   ·simp only[if_neg h4,if_pos RZ]
    exact gq (KR hA hS hl ge gd o cap (1716+32*s) (s/2-1) (d:Nat) (d':Nat)) fun a=>(2+s%2)*2^(s/2-1)+a+1
   ·simp only[if_neg h4,if_neg RZ]
    exact dM (OE hA hS hl ge gd o cap (d/16%2^(s/2-1-4)) (d'/16%2^(s/2-1-4)) (s/2-1-4) (Nat.mod_lt _ (Nat.pow_pos (by decide))))
     (g1:=fun q x=>((2+s%2)*2^(s/2-1)+q%2^(s/2-1-4)*16+(Md.rev (aj ge) 2164 4 (d:Nat) x).1+1,(Md.rev (aj ge) 2164 4 (d:Nat) x).2))
     (g2:=fun q x=>((2+s%2)*2^(s/2-1)+q%2^(s/2-1-4)*16+(Md.rev (ak gd o cap L) 2164 4 (d':Nat) x).1+1,(Md.rev (ak gd o cap L) 2164 4 (d':Nat) x).2)) fun q=>
      gq (KR hA hS hl ge gd o cap 2164 4 (d:Nat) (d':Nat)) fun a=>(2+s%2)*2^(s/2-1)+q%2^(s/2-1-4)*16+a+1
 subst hd hd'
 exact key
theorem DC(T like:Nat)(v v':Int): ∀n m al,Good S L (Md.jA (aj ge) T like v n m al) (Md.jA (ak gd o cap L) T like v' n m al)
 | 0,m,_=>jO m
 | n+1,m,al=>dM (iU hA hS hl ge gd o cap (T+(if al then m+(256+256*(like/2^n%2))else m)) (Md.aG v n) (Md.aG v' n)) (g1:=fun a x=>Md.jA (aj ge) T like v n (2*m+a.toNat) (al&&(a.toNat==like/2^n%2)) x) (g2:=fun a y=>Md.jA (ak gd o cap L) T like v' n (2*m+a.toNat) (al&&(a.toNat==like/2^n%2)) y) fun a=>DC T like v v' n (2*m+a.toNat) (al&&(a.toNat==like/2^n%2))
theorem Yc(lc lp st:Nat)(a:Int)(H:List UInt8)(v v':Int):Good S L (Md.lit (aj ge) lc lp st a H v) (Md.lit (ak gd o cap L) lc lp st a H v'):=
 gq (DC hA hS hl ge gd o cap (2180+768*yU lc lp H) (Md.qU H a) v v' 8 1 (decide (7≤st))) fun a=>UInt8.ofNat a
theorem OG(st:Nat)(q q':Int):Good S L (Md.which (aj ge) st q) (Md.which (ak gd o cap L) st q'):=by
 refine dM (iU hA hS hl ge gd o cap (204+st) (q !=0) (q' !=0))
  (g1:=fun a x=>if a=false then(0,x)else
   let b:=(aj ge).au (216+st) (q !=1) x
   if b.1=false then(1,b.2)else
    let c:=(aj ge).au (228+st) (q !=2) b.2
    (2+c.1.toNat,c.2))
  (g2:=fun a x=>if a=false then(0,x)else
   let b:=(ak gd o cap L).au (216+st) (q' !=1) x
   if b.1=false then(1,b.2)else
    let c:=(ak gd o cap L).au (228+st) (q' !=2) b.2
    (2+c.1.toNat,c.2)) ?_
 intro a
 cases a with
 | false=>exact jO 0
 | true=>
  refine dM (iU hA hS hl ge gd o cap (216+st) (q !=1) (q' !=1))
   (g1:=fun b x=>if b=false then(1,x)else
    let c:=(aj ge).au (228+st) (q !=2) x
    (2+c.1.toNat,c.2))
   (g2:=fun b x=>if b=false then(1,x)else
    let c:=(ak gd o cap L).au (228+st) (q' !=2) x
    (2+c.1.toNat,c.2)) ?_
  intro b
  cases b with
  | false=>exact jO 1
  | true=>exact gq (iU hA hS hl ge gd o cap (228+st) (q !=2) (q' !=2)) fun c=>2+c.toNat
theorem TA(st p:Nat)(l l' q q':Int):Good S L (Md.ni (aj ge) st p l q) (Md.ni (ak gd o cap L) st p l' q'):=by
 refine dM (OG hA hS hl ge gd o cap st q q')
  (g1:=fun a x=>if a=0 then
    let s:=(aj ge).au (240+16*st+p) (l !=1) x
    if s.1=false then((0,1),s.2)else
     let n:=Md.len (aj ge) 946 p l s.2
     ((0,n.1),n.2)
   else
    let n:=Md.len (aj ge) 946 p l x
    ((a,n.1),n.2))
  (g2:=fun a x=>if a=0 then
    let s:=(ak gd o cap L).au (240+16*st+p) (l' !=1) x
    if s.1=false then((0,1),s.2)else
     let n:=Md.len (ak gd o cap L) 946 p l' s.2
     ((0,n.1),n.2)
   else
    let n:=Md.len (ak gd o cap L) 946 p l' x
    ((a,n.1),n.2)) ?_
 intro a
 by_cases h0:a=0
 ·subst h0
  refine dM (iU hA hS hl ge gd o cap (240+16*st+p) (l !=1) (l' !=1))
   (g1:=fun s x=>if s=false then((0,1),x)else
     let n:=Md.len (aj ge) 946 p l x
     ((0,n.1),n.2))
   (g2:=fun s x=>if s=false then((0,1),x)else
     let n:=Md.len (ak gd o cap L) 946 p l' x
     ((0,n.1),n.2)) ?_
  intro s
  cases s with
  | false=>exact jO (0,1)
  | true=>exact gq (Dz hA hS hl ge gd o cap 946 p l l') fun n=>(0,n)
 ·simp only[if_neg h0]
  exact gq (Dz hA hS hl ge gd o cap 946 p l l') fun n=>(a,n)
end
namespace Md
def zl(io:Io)(lc lp pb st:Nat)(r:R4)(H:List UInt8)(k:Int)(b:UInt8)(l d q:Int)(x:io.S):(Sy×Nat×R4)×io.S:=
 let a:=io.au (16*st+H.length%2^pb) (k !=0) x
 if a.1=false then
  let z:=lit io lc lp st r.1 H (b.toNat:Nat) a.2
  ((⟨0,z.1,0,0,0⟩,bU st,r),z.2)
 else
  let c:=io.au (192+st) (k !=1) a.2
  if c.1=false then
   let n:=len io 432 (H.length%2^pb) l c.2
   let z:=dist io n.1 d n.2
   ((⟨1,0,n.1,z.1,0⟩,(if st<7 then 7 else 10),aS r 3 (z.1:Nat)),z.2)
  else
   let z:=ni io st (H.length%2^pb) l q c.2
   ((⟨2,0,z.1.2,0,z.1.1⟩,(if st<7 then(if z.1.2=1 then 9 else 8)else 11),aS r z.1.1 (r4 r.1 r.2.1 r.2.2.1 r.2.2.2 z.1.1)),z.2)
theorem xP(io:Io)(lc lp pb st:Nat)(r:R4)(H:List UInt8)(k:Int)(b:UInt8)(l d q:Int)(x:io.S):sym io lc lp pb st r H k b l d q x=((zl io lc lp pb st r H k b l d q x).1.1,(zl io lc lp pb st r H k b l d q x).1.2.1,(zl io lc lp pb st r H k b l d q x).1.2.2,(zl io lc lp pb st r H k b l d q x).2):=by
 unfold sym zl
 by_cases h1:(io.au (16*st+H.length%2^pb) (k !=0) x).1=false
 ·simp only[h1,if_true]
 ·simp only[h1]
  by_cases h2:(io.au (192+st) (k !=1) (io.au (16*st+H.length%2^pb) (k !=0) x).2).1=false
  ·simp only[h2,if_true];rfl
  ·simp only[h2];rfl
end Md
section
variable{S:Rc.St}{L:List UInt8}(hA:Agree S L)(hS:0<S.r)(hl:5+S.k≤L.length)(ge gd o cap:Nat)
include hA hS hl
theorem Gy(lc lp pb st:Nat)(r:R4)(H:List UInt8)(k k':Int)(b b':UInt8)(l l' d d' q q':Int):Good S L (Md.zl (aj ge) lc lp pb st r H k b l d q) (Md.zl (ak gd o cap L) lc lp pb st r H k' b' l' d' q'):=by
 refine dM (iU hA hS hl ge gd o cap (16*st+H.length%2^pb) (k !=0) (k' !=0))
  (g1:=fun a x=>if a=false then
    let z:=Md.lit (aj ge) lc lp st r.1 H (b.toNat:Nat) x
    (((⟨0,z.1,0,0,0⟩:Sy),bU st,r),z.2)
   else
    let c:=(aj ge).au (192+st) (k !=1) x
    if c.1=false then
     let n:=Md.len (aj ge) 432 (H.length%2^pb) l c.2
     let z:=Md.dist (aj ge) n.1 d n.2
     (((⟨1,0,n.1,z.1,0⟩:Sy),(if st<7 then 7 else 10:Nat),aS r 3 (z.1:Nat)),z.2)
    else
     let z:=Md.ni (aj ge) st (H.length%2^pb) l q c.2
     (((⟨2,0,z.1.2,0,z.1.1⟩:Sy),(if st<7 then(if z.1.2=1 then 9 else 8)else 11:Nat),aS r z.1.1 (r4 r.1 r.2.1 r.2.2.1 r.2.2.2 z.1.1)),z.2))
  (g2:=fun a x=>if a=false then
    let z:=Md.lit (ak gd o cap L) lc lp st r.1 H (b'.toNat:Nat) x
    (((⟨0,z.1,0,0,0⟩:Sy),bU st,r),z.2)
   else
    let c:=(ak gd o cap L).au (192+st) (k' !=1) x
    if c.1=false then
     let n:=Md.len (ak gd o cap L) 432 (H.length%2^pb) l' c.2
     let z:=Md.dist (ak gd o cap L) n.1 d' n.2
     (((⟨1,0,n.1,z.1,0⟩:Sy),(if st<7 then 7 else 10:Nat),aS r 3 (z.1:Nat)),z.2)
    else
     let z:=Md.ni (ak gd o cap L) st (H.length%2^pb) l' q' c.2
     (((⟨2,0,z.1.2,0,z.1.1⟩:Sy),(if st<7 then(if z.1.2=1 then 9 else 8)else 11:Nat),aS r z.1.1 (r4 r.1 r.2.1 r.2.2.1 r.2.2.2 z.1.1)),z.2)) ?_
 intro a
 cases a with
 | false=>exact gq (Yc hA hS hl ge gd o cap lc lp st r.1 H (b.toNat:Nat) (b'.toNat:Nat)) fun z=>((⟨0,z,0,0,0⟩:Sy),bU st,r)
 | true=>
  refine dM (iU hA hS hl ge gd o cap (192+st) (k !=1) (k' !=1))
   (g1:=fun c x=>if c=false then
     let n:=Md.len (aj ge) 432 (H.length%2^pb) l x
     let z:=Md.dist (aj ge) n.1 d n.2
     (((⟨1,0,n.1,z.1,0⟩:Sy),(if st<7 then 7 else 10:Nat),aS r 3 (z.1:Nat)),z.2)
    else
     let z:=Md.ni (aj ge) st (H.length%2^pb) l q x
     (((⟨2,0,z.1.2,0,z.1.1⟩:Sy),(if st<7 then(if z.1.2=1 then 9 else 8)else 11:Nat),aS r z.1.1 (r4 r.1 r.2.1 r.2.2.1 r.2.2.2 z.1.1)),z.2))
   (g2:=fun c x=>if c=false then
     let n:=Md.len (ak gd o cap L) 432 (H.length%2^pb) l' x
     let z:=Md.dist (ak gd o cap L) n.1 d' n.2
     (((⟨1,0,n.1,z.1,0⟩:Sy),(if st<7 then 7 else 10:Nat),aS r 3 (z.1:Nat)),z.2)
    else
     let z:=Md.ni (ak gd o cap L) st (H.length%2^pb) l' q' x
     (((⟨2,0,z.1.2,0,z.1.1⟩:Sy),(if st<7 then(if z.1.2=1 then 9 else 8)else 11:Nat),aS r z.1.1 (r4 r.1 r.2.1 r.2.2.1 r.2.2.2 z.1.1)),z.2)) ?_
  intro c
  cases c with
  | false=>
   refine dM (Dz hA hS hl ge gd o cap 432 (H.length%2^pb) l l')
    (g1:=fun n x=>(((⟨1,0,n,(Md.dist (aj ge) n d x).1,0⟩:Sy),(if st<7 then 7 else 10:Nat),aS r 3 ((Md.dist (aj ge) n d x).1:Nat)),(Md.dist (aj ge) n d x).2))
    (g2:=fun n x=>(((⟨1,0,n,(Md.dist (ak gd o cap L) n d' x).1,0⟩:Sy),(if st<7 then 7 else 10:Nat),aS r 3 ((Md.dist (ak gd o cap L) n d' x).1:Nat)),(Md.dist (ak gd o cap L) n d' x).2)) fun n=> ?_
   exact gq (Tz hA hS hl ge gd o cap n d d') fun z=>((⟨1,0,n,z,0⟩:Sy),(if st<7 then 7 else 10:Nat),aS r 3 (z:Nat))
  | true=>exact gq (TA hA hS hl ge gd o cap st (H.length%2^pb) l l' q q') fun z=>((⟨2,0,z.2,0,z.1⟩:Sy),(if st<7 then(if z.2=1 then 9 else 8)else 11:Nat),aS r z.1 (r4 r.1 r.2.1 r.2.2.1 r.2.2.2 z.1))
theorem Yd{lc lp pb st:Nat}{r:R4}{H:List UInt8}{k l d q:Int}{b:UInt8}{x z:PS}{s':Sy}{st':Nat}{r':R4}(hx:Fair x.1)(h:Md.sym (aj ge) lc lp pb st r H k b l d q x=(s',st',r',z))(hi:Rc.Inside z.2 S){y:PD}(hs:Yb S L x y):
  ∃z':PD,Md.sym (ak gd o cap L) lc lp pb st r H 0 0 0 0 0 y=(s',st',r',z')∧Yb S L z z':=by
 obtain⟨_,_,h3⟩:=Gy hA hS hl ge gd o cap lc lp pb st r H k 0 b 0 l 0 d 0 q 0 x hx
 have e:=(Md.xP (aj ge) lc lp pb st r H k b l d q x).symm.trans h
 have e1:=congrArg (fun t=>t.1) e
 have e2:=congrArg (fun t=>t.2.1) e
 have e3:=congrArg (fun t=>t.2.2.1) e
 have e4:=congrArg (fun t=>t.2.2.2) e
 obtain⟨k1,k2⟩:=h3 y hs (by rw[show(Md.zl (aj ge) lc lp pb st r H k b l d q x).2=z from e4];exact hi)
 refine⟨(Md.zl (ak gd o cap L) lc lp pb st r H 0 0 0 0 0 y).2,(Md.xP (ak gd o cap L) lc lp pb st r H 0 0 0 0 0 y).trans ?_,?_⟩
 ·exact Prod.ext ((congrArg (fun t=>t.1) k1).trans e1) (Prod.ext ((congrArg (fun t=>t.2.1) k1).trans e2) (Prod.ext ((congrArg (fun t=>t.2.2) k1).trans e3) rfl))
 ·rw[show(Md.zl (aj ge) lc lp pb st r H k b l d q x).2=z from e4]at k2
  exact k2
theorem OH{lc lp pb st:Nat}{r:R4}{H:List UInt8}{k l d q:Int}{b:UInt8}{x z:PS}{s':Sy}{st':Nat}{r':R4}(hx:Fair x.1)(h:Md.sym (aj ge) lc lp pb st r H k b l d q x=(s',st',r',z)):Fair z.1∧(Rc.Inside z.2 S→Rc.Inside x.2 S):=by
 obtain⟨h1,h2,_⟩:=Gy hA hS hl ge 0 0 0 lc lp pb st r H k 0 b 0 l 0 d 0 q 0 x hx
 have e:=(Md.xP (aj ge) lc lp pb st r H k b l d q x).symm.trans h
 have e4:(Md.zl (aj ge) lc lp pb st r H k b l d q x).2=z:=congrArg (fun t=>t.2.2.2) e
 rw[e4]at h1 h2
 exact⟨h1,h2⟩
end
end
end Go.Proofs.YtgfpocdiojifoaaGreatDoor
