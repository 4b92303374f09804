import Derived.Test.YtfcaoggfnkhfiaaGreatDoorZ03
import Derived.Laws.CopyRow
import Derived.Laws.BitsLemmas
import Derived.Lib.MinMax
namespace Go.Proofs.YtfcaoggfnkhfiaaGreatDoor
set_option maxRecDepth 100000
set_option maxHeartbeats 8000000
open Go.RowKit Go.Proofs.Tryz
variable{a:Addr}{X:List Nat}{C L at_ b c cp d i j k lc lp n n2 off pb st tv:Nat}{r:R4}{w w':World}
namespace Md
def mz(c:Nat):Nat:=if c=0 then 1024 else c
theorem Fv(h:c<2048):Rc.fair (mz c)=mz c:=by unfold Rc.fair mz;split<;>split<;>omega
theorem QX(h:c<2048):mz c<2048:=by unfold mz;split<;>omega
theorem Lr(h:c≠0):mz c=c:=by unfold mz;rw[if_neg h]
end Md
def xQ(at_:World→List Nat→Prop)(X:List Nat)(a:Addr)(bit:Bool)(p:Nat)(w:World)(e:Ending)(w':World):Prop:=
 e= .returned (.int .i64 (de bit))∧ ∃w1 X',aw X w w1∧at_ w1 X'∧(∀i∈X',i∈X∨w.heap.size≤i)∧w'=w1.setCell a (.int .u16 (p:Nat))
def aei(g:Nat)(s:Rc.St)(w:World)(X:List Nat):Prop:= ∃o cap,X=[g,o]∧fH w g o cap s
def aej(g o cap:Nat)(l:List UInt8)(s:Rd.St)(w:World)(X:List Nat):Prop:=X=[g,o]∧iT w g o cap l s
theorem aI{v:Value}(h:aw X w w')(hX:a.block ∉ X)(hc:w.cell? a=some v):w'.cell? a=some v:=by have hb:a.block<w.heap.size:=block_lt_of_cell hc;have e:=h.block _ hb hX;unfold World.cell? at hc ⊢;rw[e];exact hc
theorem lD{b:Bool}(h:aw X w w')(hX:a.block ∉ X)(hl:a.block<w.heap.size)(hc:w.frozen? a=b):w'.frozen? a=b:=by have e:=h.block _ hl hX;unfold World.frozen? at hc ⊢;rw[e];exact hc
theorem aw.lE{a b:World}(h:aw X (a.drewN n) b):aw X a b:=⟨h.os,h.tape,h.output,h.size,h.block⟩
theorem QY(g o cap:Nat)(s:Rc.St)(b off n cp j c:Nat)(one:Bool)(w:World)(hE:fH w g o cap s)(hs:s.ok)(hk:1+s.k+2≤140737488355328)(hX:b ∉ [g,o])(hj:j<n)(hn:n≤cp)(ui:cp≤9223372036854775807)
  (hc:w.cell? ⟨b,off+j,none⟩=some (.int .u16 (c:Nat))) (hf:w.frozen? ⟨b,off+j,none⟩=false) (eS:c<2048):
  Calls prog 233 #[.iface 217 (.pointer (some ⟨g,0,none⟩)),.slice (some ⟨b,off,none⟩) n cp,.int .i64 (j:Nat),.bool one] w
   (xQ (aei g (Rc.St.scale 2 (s.pick (Md.mz c) one))) [g,o] ⟨b,off+j,none⟩ one (Rc.next (Md.mz c) one) w):=by
 have hm: ∀w,(method 451 217 (.pointer (some ⟨g,0,none⟩)) "Bit").run prog w= .ok (291,.pointer (some ⟨g,0,none⟩)) w:=fun w=>ai;have Dj:(j:Int)<(n:Int):=aa;have pX:(n:Int)≤9223372036854775807:=aa;have od:=ae (fun(m:Nat)=>show Calls prog 291 #[.pointer (some ⟨g,0,none⟩),.int .u16 (Md.mz c:Nat),.int .i64 (de one)] (w.drewN m) (Ll (w.drewN m) g o (de one) (Rc.next (Md.mz c) one) (Rc.St.scale 2 (s.pick (Md.mz c) one)))from by
  have MP:=Wq g o cap s (BitVec.ofNat 16 (Md.mz c)) (de one) (w.drewN m) ⟨hE.ay,hE.own,hE.ne⟩ hs hk;have e0:(BitVec.ofNat 16 (Md.mz c)).toNat=Md.mz c:=by have:=Md.QX eS;simp;omega
  have e1:(de one !=0)=one:=by cases one<;>rfl
  rw[e0,Md.Fv eS,e1]at MP;exact MP)
 have HX:=ae hX;have HC:=ae hc;have HF:=ae hf;clear hE hs hk hX hf;have⟨T,hT⟩:=ex (Rc.St.scale 2 (s.pick (Md.mz c) one));rw[hT]at od ⊢;have⟨N,hN⟩:=ex (Rc.next (Md.mz c) one);rw[hN]at od ⊢;clear hT hN;by_cases h0:c=0
 ·subst h0;rw[show Md.mz 0=1024 from rfl]at od;cases one
  all_goals
   simp only[de,Bool.false_eq_true,if_false,if_true]at od;go_enter func233,ntmps233;go_wp2_with fail;go_quiet (fail);go_wp2_with fail;refine(od.out _).mono ?_;rintro e w1 ⟨rfl,o',dX,Aq,ci,mU⟩;have mZ:=aw.lE ci;have cC:=aI mZ HX.out HC.out;have ud:=lD mZ HX.out (block_lt_of_cell HC.out) HF.out;go_wp2_with fail;go_ret;exact⟨rfl,w1,[g,o'],mZ,⟨o',dX,rfl,Aq⟩,by intro i hi;simp at hi;rcases hi with rfl | rfl;exact .inl ag;rcases mU with h | h;exact .inl dD;exact .inr h,rfl⟩
 ·rw[Md.Lr h0]at od;have ZO:((c:Nat):Int)≠0:=aa;have h0b:(((c:Nat):Int)==0)=false:=beq_eq_false_iff_ne.2 ZO;cases one
  all_goals
   simp only[de,Bool.false_eq_true,if_false,if_true]at od;go_enter func233,ntmps233;go_wp2_with fail;go_quiet (fail);go_wp2_with fail;refine(od.out _).mono ?_;rintro e w1 ⟨rfl,o',dX,Aq,ci,mU⟩;have mZ:=aw.lE ci;have cC:=aI mZ HX.out HC.out;have ud:=lD mZ HX.out (block_lt_of_cell HC.out) HF.out;go_wp2_with fail;go_ret;exact⟨rfl,w1,[g,o'],mZ,⟨o',dX,rfl,Aq⟩,by intro i hi;simp at hi;rcases hi with rfl | rfl;exact .inl ag;rcases mU with h | h;exact .inl dD;exact .inr h,rfl⟩
theorem QZ(g o cap:Nat)(l:List UInt8)(s:Rd.St)(b off n cp j c:Nat)(one:Bool)(w:World)(hE:iT w g o cap l s)(hs:s.ok l)(hl:l.length≤140737488355328)(hX:b ∉ [g,o])(hj:j<n)(hn:n≤cp)(ui:cp≤9223372036854775807)
  (hc:w.cell? ⟨b,off+j,none⟩=some (.int .u16 (c:Nat))) (hf:w.frozen? ⟨b,off+j,none⟩=false) (eS:c<2048):
  Calls prog 233 #[.iface 321 (.pointer (some ⟨g,0,none⟩)),.slice (some ⟨b,off,none⟩) n cp,.int .i64 (j:Nat),.bool one] w
   (xQ (aej g o cap l (s.bit l (Md.mz c)).2) [g,o] ⟨b,off+j,none⟩ (s.bit l (Md.mz c)).1 (Rc.next (Md.mz c) (s.bit l (Md.mz c)).1) w):=by
 have hm: ∀w,(method 451 321 (.pointer (some ⟨g,0,none⟩)) "Bit").run prog w= .ok (298,.pointer (some ⟨g,0,none⟩)) w:=fun w=>ai;have Dj:(j:Int)<(n:Int):=aa;have pX:(n:Int)≤9223372036854775807:=aa;have od:=ae (fun(m:Nat)=>show Calls prog 298 #[.pointer (some ⟨g,0,none⟩),.int .u16 (Md.mz c:Nat),.int .i64 (de one)] (w.drewN m) (aef (w.drewN m) g o cap l (s.bit l (Md.mz c)).1 (Rc.next (Md.mz c) (s.bit l (Md.mz c)).1) (s.bit l (Md.mz c)).2)from by
  have MP:=QU g o cap l s (BitVec.ofNat 16 (Md.mz c)) (de one) (w.drewN m) (hE.below (below_drewN (Below.refl _ _) m)) hs hl;have e0:(BitVec.ofNat 16 (Md.mz c)).toNat=Md.mz c:=by have:=Md.QX eS;simp;omega
  rw[e0,Md.Fv eS]at MP;exact MP)
 have HX:=ae hX;have HC:=ae hc;have HF:=ae hf;clear hE hs hl hX hf;obtain⟨⟨B,T⟩,hT⟩: ∃z,s.bit l (Md.mz c)=z:=⟨_,rfl⟩
 rw[hT]at od ⊢;simp only at od ⊢;have⟨N,hN⟩:=ex (Rc.next (Md.mz c) B);rw[hN]at od ⊢;clear hT hN;by_cases h0:c=0
 ·subst h0;rw[show Md.mz 0=1024 from rfl]at od;cases one<;>cases B
  all_goals
   simp only[de,Bool.false_eq_true,if_false,if_true]at od;go_enter func233,ntmps233;go_wp2_with fail;go_quiet (fail);go_wp2_with fail;refine(od.out _).mono ?_;rintro e w1 ⟨rfl,Aq,ci⟩;have mZ:aw [g,o] w w1:=(aw.refl _ _).trans (aw.lE ci) Ik;have cC:=aI mZ HX.out HC.out;have ud:=lD mZ HX.out (block_lt_of_cell HC.out) HF.out;go_wp2_with fail;go_ret;exact⟨rfl,w1,[g,o],mZ,⟨rfl,Aq⟩,fun i hi=> .inl hi,rfl⟩
 ·rw[Md.Lr h0]at od;have ZO:((c:Nat):Int)≠0:=aa;have h0b:(((c:Nat):Int)==0)=false:=beq_eq_false_iff_ne.2 ZO;cases one<;>cases B
  all_goals
   simp only[de,Bool.false_eq_true,if_false,if_true]at od;go_enter func233,ntmps233;go_wp2_with fail;go_quiet (fail);go_wp2_with fail;refine(od.out _).mono ?_;rintro e w1 ⟨rfl,Aq,ci⟩;have mZ:aw [g,o] w w1:=(aw.refl _ _).trans (aw.lE ci) Ik;have cC:=aI mZ HX.out HC.out;have ud:=lD mZ HX.out (block_lt_of_cell HC.out) HF.out;go_wp2_with fail;go_ret;exact⟨rfl,w1,[g,o],mZ,⟨rfl,Aq⟩,fun i hi=> .inl hi,rfl⟩
namespace Md
def gm(C L i:Nat):Nat:=if i<2180 then C else L
def fI(i:Nat):Nat:=if i<432 then 8+i else if i<1844 then 9+i else if i<2180 then i-119 else i-2180
def oe(C L i:Nat):Addr:=⟨gm C L i,fI i,none⟩
def used(n i:Nat):Prop:=i<1716∨(1844≤i∧i<2180+768*n)
theorem xR(C L i:Nat):gm C L i=C∨gm C L i=L:=by
 unfold gm;split;·exact .inl rfl
 ·exact .inr rfl
theorem Wz(dH:C≠L)(hi:used n i)(hj:used n j)(h:oe C L i=oe C L j):i=j:=by
 unfold used at hi hj;have h1:gm C L i=gm C L j:=congrArg Addr.block h;have h2:fI i=fI j:=congrArg Addr.off h;have h3:i<2180↔j<2180:=by
  unfold gm at h1;by_cases h4:i<2180<;>by_cases h5:j<2180<;>simp[h4,h5]at h1 ⊢;·exact dH h1
  ·exact dH h1.symm
 unfold fI at h2;by_cases a1:i<432<;>by_cases a2:i<1844<;>by_cases a3:i<2180<;>by_cases b1:j<432<;>by_cases b2:j<1844<;>by_cases b3:j<2180<;>simp only[a1,a2,a3,b1,b2,b3,if_true,if_false]at h2<;>omega
theorem Lu(dH:C≠L)(hk:k<8∨k=440):oe C L i≠⟨C,k,none⟩:=by
 intro h;have h1:gm C L i=C:=congrArg Addr.block h;have h2:fI i=k:=congrArg Addr.off h;have h3:i<2180:=by
  unfold gm at h1;by_cases h4:i<2180;·exact h4
  ·rw[if_neg h4]at h1;exact absurd h1.symm dH
 unfold fI at h2;by_cases a1:i<432<;>by_cases a2:i<1844<;>simp only[a1,a2,h3,if_true,if_false]at h2<;>omega
def put(P:Nat→Nat)(i p:Nat):Nat→Nat:=fun j=>if j=i then p else P j
end Md
structure Io where
 σ:Type
 t:TypeId
 g:Nat
 F:Nat
 at_:World→σ→List Nat→Prop
 ok:σ→Nat→Prop
 bit:σ→Nat→Bool→Bool×σ
 plain:σ→Nat→Nat→Nat×σ
 aA: ∀{w w' s X},at_ w s X→w.heap.size≤w'.heap.size→(∀i∈X,w'.heap[i]? =w.heap[i]?)→at_ w' s X
 lt: ∀{w s X},at_ w s X→ ∀i∈X,i<w.heap.size
 Q0: ∀{s n p b},ok s (n+1)→1≤p→p≤2047→ok (bit s p b).2 n
 wU: ∀{s n x m},ok s (n+32)→m≤32→ok (plain s x m).2 n
 le: ∀{s n m},ok s n→m≤n→ok s m
 Dp: ∀{s n x m},ok s n→x<2^m→(plain s x m).1<2^m
 kind:F=292∨F=299
 aal: ∀w,(method 451 t (.pointer (some ⟨g,0,none⟩)) "Plain").run prog w= .ok (F,.pointer (some ⟨g,0,none⟩)) w
 code: ∀(w:World) (s:σ) (X:List Nat) (b off n cp j c:Nat) (one:Bool),at_ w s X→ok s 1→b ∉ X→j<n→n≤cp→cp≤9223372036854775807→w.cell? ⟨b,off+j,none⟩=some (.int .u16 (c:Nat))→w.frozen? ⟨b,off+j,none⟩=false→c<2048→
  Calls prog 233 #[.iface t (.pointer (some ⟨g,0,none⟩)),.slice (some ⟨b,off,none⟩) n cp,.int .i64 (j:Nat),.bool one] w
   (xQ (fun w' X'=>at_ w' (bit s (Md.mz c) one).2 X') X ⟨b,off+j,none⟩ (bit s (Md.mz c) one).1 (Rc.next (Md.mz c) (bit s (Md.mz c) one).1) w)
 IQ: ∀(w:World) (s:σ) (X:List Nat) (x m:Nat),at_ w s X→ok s 32→x<4294967296→m≤32→
  Calls prog F #[.pointer (some ⟨g,0,none⟩),.int .u32 (x:Nat),.int .i64 (m:Nat)] w
   (fun e w'=>e= .returned (.int .u32 ((plain s (x%2^m) m).1:Nat))∧ ∃X',aw X w w'∧at_ w' (plain s (x%2^m) m).2 X'∧ ∀i∈X',i∈X∨w.heap.size≤i)
abbrev Io.v(io:Io):Value:= .iface io.t (.pointer (some ⟨io.g,0,none⟩))
abbrev Io.S(io:Io):Type:=(Nat→Nat)×io.σ
def Io.au(io:Io)(i:Nat)(b:Bool)(x:io.S):Bool×io.S:=((io.bit x.2 (x.1 i) b).1,(Md.put x.1 i (Rc.next (x.1 i) (io.bit x.2 (x.1 i) b).1),(io.bit x.2 (x.1 i) b).2))
def aj(g:Nat):Io where
 σ:=Rc.St
 t:=217
 g:=g
 F:=292
 at_ w s X:= ∃o cap,X=[g,o]∧fH w g o cap s
 ok s n:=s.ok∧1+s.k+2*n≤140737488355328
 bit s p b:=(b,Rc.St.scale 2 (s.pick p b))
 plain s x m:=(x,s.plain x m)
 aA:=by rintro w w' s X ⟨o,cap,rfl,h⟩ _ hk;exact⟨o,cap,rfl,h.aA (hk g ag) (hk o ag)⟩
 lt:=by
  rintro w s X ⟨o,cap,rfl,h⟩ i hi;simp at hi;rcases hi with rfl | rfl;·exact h.lt.1
  ·exact h.lt.2
 Q0:=by rintro s n p b ⟨h1,h2⟩ h3 h4;obtain⟨hf,hr⟩:=s.kx p b h1 h3 h4;have hk:=Rc.St.Lm 2 (s.pick p b);rw[Rc.St.aaa]at hk;exact⟨Rc.St.oN 2 _ hf aa,by show 1+(Rc.St.scale 2 (s.pick p b)).k+2*n≤_;omega⟩
 wU:=by rintro s n x m ⟨h1,h2⟩ h3;obtain⟨hf,hk⟩:=s.Fq h1 m x;exact⟨hf,by show 1+(s.plain x m).k+2*n≤_;omega⟩
 le:=by rintro s n m ⟨h1,h2⟩ h;exact⟨h1,aa⟩
 Dp:=by rintro s n x m _ h;exact h
 kind:= .inl rfl
 aal w:=ai
 code:=by rintro w s X b off n cp j c one ⟨o,cap,rfl,h⟩ ⟨h1,h2⟩ hX hj hn ui hc hf eS;exact QY g o cap s b off n cp j c one w h h1 aa hX hj hn ui hc hf eS
 IQ:=by
  rintro w s X x m ⟨o,cap,rfl,h⟩ ⟨h1,h2⟩ hx hm;have hp:=MO g o cap s (BitVec.ofNat 32 x) (m:Nat) w h h1 aa;have e0:(BitVec.ofNat 32 x).toNat=x:=av;have e1:many (m:Nat)=m:=by unfold many;omega
  rw[e0,e1]at hp;refine hp.mono ?_;rintro e w' ⟨rfl,o',dX,hE,ci,ho⟩;exact⟨rfl,[g,o'],ci,⟨o',dX,rfl,hE⟩,by intro i hi;simp at hi;rcases hi with rfl | rfl;exact .inl ag;rcases ho with h | h;exact .inl dD;exact .inr h⟩
def aq(g o cap:Nat)(l:List UInt8):Io where
 σ:=Rd.St
 t:=321
 g:=g
 F:=299
 at_ w s X:=X=[g,o]∧iT w g o cap l s
 ok s _:=s.ok l∧l.length≤140737488355328
 bit s p _:=s.bit l p
 plain s _ m:=s.plain l m
 aA:=by rintro w w' s X ⟨rfl,x,y,h,hD⟩ hs hk;exact⟨rfl,x,y,h,hD.aA hs (hk g ag) (hk o ag)⟩
 lt:=by
  rintro w s X ⟨rfl,x,y,h,hD⟩ i hi;simp at hi;rcases hi with rfl | rfl;·exact hD.glt
  ·exact hD.lt
 Q0:=by rintro s n p b ⟨h1,h2⟩ h3 h4;exact⟨Rd.St.aae h1 h3 h4,h2⟩
 wU:=by
  rintro s n x m ⟨h1,h2⟩ h3;refine⟨?_,h2⟩;have:=(Rd.St.uj h1 m).1;show(s.plain l m).2.ok l;unfold Rd.St.plain;split;·exact this
  ·exact this
 le:=by rintro s n m h _;exact h
 Dp:=by
  rintro s n x m ⟨h1,h2⟩ _;have hp:0<2^m:=Nat.pow_pos ak;have:=(Rd.St.uj h1 m).2;show(s.plain l m).1<2^m;unfold Rd.St.plain;split;·exact hp
  ·exact this
 kind:= .inr rfl
 aal w:=ai
 code:=by rintro w s X b off n cp j c one ⟨rfl,h⟩ ⟨h1,h2⟩ hX hj hn ui hc hf eS;exact QZ g o cap l s b off n cp j c one w h h1 h2 hX hj hn ui hc hf eS
 IQ:=by
  rintro w s X x m ⟨rfl,h⟩ ⟨h1,h2⟩ hx hm;have hp:=IM g o cap l s (BitVec.ofNat 32 x) (m:Nat) w h h1 h2;have e0:(BitVec.ofNat 32 x).toNat=x:=av;have e1:many (m:Nat)=m:=by unfold many;omega
  rw[e0,e1]at hp;refine hp.mono ?_;rintro e w' ⟨rfl,hE,ci⟩;exact⟨rfl,[g,o],(aw.refl _ _).trans ci Ik,⟨rfl,hE⟩,fun i hi=> .inl hi⟩
section
abbrev cV(lc lp pb st:Nat)(r:R4):List Value:=[.int .i64 (lc:Nat),.int .i64 (lp:Nat),.int .i64 (pb:Nat),.int .i64 (st:Nat),.int .i64 r.1,.int .i64 r.2.1,.int .i64 r.2.2.1,.int .i64 r.2.2.2]
structure bB(w:World)(C L lc lp pb st:Nat)(r:R4)(P:Nat→Nat):Prop where
 box: ∃T:List Value,w.heap[C]? =some (.cells (cV lc lp pb st r++T).toArray 171 (0,0))∧T.length=2053
 lits: ∃l:List Value,w.heap[L]? =some (.cells l.toArray 317 (0,0))∧l.length=768*2^(lc+lp)
 lit:w.cell? ⟨C,440,none⟩=some (.slice (some ⟨L,0,none⟩) (2^(lc+lp)) (2^(lc+lp)))
 ne:C≠L
 uk: ∀i,Md.used (2^(lc+lp)) i→ ∃c:Nat,w.cell? (Md.oe C L i)=some (.int .u16 (c:Nat))∧Md.mz c=P i
 fair: ∀i,1≤P i∧P i≤2047
theorem Md.MT{c p:Nat}(h:mz c=p)(hp:p≤2047):c<2048:=by unfold mz at h;split at h<;>omega
section
variable{w w':World}{C L lc lp pb st:Nat}{r:R4}{P:Nat→Nat}
theorem bB.Au(h:bB w C L lc lp pb st r P):C<w.heap.size:=by obtain⟨T,hT,_⟩:=h.box;exact(cr hT)
theorem bB.xS(h:bB w C L lc lp pb st r P):L<w.heap.size:=by obtain⟨T,hT,_⟩:=h.lits;exact(cr hT)
theorem bB.aA(h:bB w C L lc lp pb st r P)(hC:w'.heap[C]? =w.heap[C]?)(hL:w'.heap[L]? =w.heap[L]?):bB w' C L lc lp pb st r P:=by
 obtain⟨T,hT,mh⟩:=h.box;obtain⟨l,hl,Di⟩:=h.lits;refine⟨⟨T,hC.trans hT,mh⟩,⟨l,hL.trans hl,Di⟩,?_,h.ne,fun i hi=> ?_,h.fair⟩;·have:=h.lit;unfold World.cell? at this ⊢;rw[hC];exact this
 ·obtain⟨c,hc,he⟩:=h.uk i hi;refine⟨c,?_,he⟩;unfold World.cell? at hc ⊢;have hb:w'.heap[(Md.oe C L i).block]? =w.heap[(Md.oe C L i).block]? :=by
   rcases Md.xR C L i with e | e;·rw[show(Md.oe C L i).block=C from e];exact hC
   ·rw[show(Md.oe C L i).block=L from e];exact hL
  rw[hb];exact hc
theorem bB.jt(h:bB w C L lc lp pb st r P)(k:Nat):w.frozen? ⟨C,k,none⟩=false:=by obtain⟨T,hT,_⟩:=h.box;exact frozen_of_row _ _ _ _ _ hT
theorem bB.WB(h:bB w C L lc lp pb st r P)(k:Nat):w.frozen? ⟨L,k,none⟩=false:=by obtain⟨T,hT,_⟩:=h.lits;exact frozen_of_row _ _ _ _ _ hT
theorem bB.WD(h:bB w C L lc lp pb st r P)(i:Nat):w.frozen? (Md.oe C L i)=false:=by
 unfold Md.oe;rcases Md.xR C L i with e | e;·rw[e];exact h.jt _
 ·rw[e];exact h.WB _
theorem bB.cells(h:bB w C L lc lp pb st r P):w.cell? ⟨C,0,none⟩=some (.int .i64 (lc:Nat))∧w.cell? ⟨C,1,none⟩=some (.int .i64 (lp:Nat))∧w.cell? ⟨C,2,none⟩=some (.int .i64 (pb:Nat))∧w.cell? ⟨C,3,none⟩=some (.int .i64 (st:Nat))∧
  w.cell? ⟨C,4,none⟩=some (.int .i64 r.1)∧w.cell? ⟨C,5,none⟩=some (.int .i64 r.2.1)∧w.cell? ⟨C,6,none⟩=some (.int .i64 r.2.2.1)∧w.cell? ⟨C,7,none⟩=some (.int .i64 r.2.2.2):=by
 obtain⟨T,hT,_⟩:=h.box;refine⟨?_,?_,?_,?_,?_,?_,?_,?_⟩<;>(rw[cell_of_row w _ _ _ _ _ hT];simp)
theorem bB.MU(h:bB w C L lc lp pb st r P){i p:Nat}(hi:Md.used (2^(lc+lp)) i)(h1:1≤p)(h2:p≤2047):bB (w.setCell (Md.oe C L i) (.int .u16 (p:Nat))) C L lc lp pb st r (Md.put P i p):=by
 obtain⟨T,hT,mh⟩:=h.box;obtain⟨l,hl,Di⟩:=h.lits;have dm:(w.setCell (Md.oe C L i) (.int .u16 (p:Nat))).cell? (Md.oe C L i)=some (.int .u16 (p:Nat)):=by obtain⟨c,hc,_⟩:=h.uk i hi;exact World.cell?_setCell_same _ _ _ hc
 have Q1: ∀a:Addr,a≠Md.oe C L i→(w.setCell (Md.oe C L i) (.int .u16 (p:Nat))).cell? a=w.cell? a:=fun a ha=>World.cell?_setCell_other _ _ _ _ (fun e=>ha e.symm);refine⟨?_,?_,?_,h.ne,fun j hj=> ?_,fun j=> ?_⟩
 ·by_cases h3:i<2180;·have hk:8≤Md.fI i:=(by unfold Md.fI Md.used at*;by_cases a1:i<432<;>by_cases a2:i<1844<;>simp only[a1,a2,h3,if_true,if_false]<;>omega);refine⟨T.set (Md.fI i-8) (.int .u16 (p:Nat)),?_,by rw[List.length_set];exact mh⟩;unfold Md.oe Md.gm;rw[if_pos h3,heap_set hT];rw[List.set_append_right _ _ xr];rfl
  ·refine⟨T,?_,mh⟩;unfold Md.oe Md.gm;rw[if_neg h3];exact(ah _ _ _ _ h.ne).trans hT
 ·by_cases h3:i<2180;·refine⟨l,?_,Di⟩;unfold Md.oe Md.gm;rw[if_pos h3];exact(ah _ _ _ _ (fun e=>h.ne e.symm)).trans hl
  ·refine⟨l.set (Md.fI i) (.int .u16 (p:Nat)),?_,by rw[List.length_set];exact Di⟩;unfold Md.oe Md.gm;rw[if_neg h3];exact heap_set hl _ _
 ·rw[Q1 _ (fun e=>Md.Lu h.ne (.inr rfl) e.symm)];exact h.lit
 ·by_cases Dj:j=i;·subst Dj;refine⟨p,dm,?_⟩;unfold Md.put Md.mz;rw[if_pos rfl,if_neg aa]
  ·obtain⟨c,hc,he⟩:=h.uk j hj;refine⟨c,?_,?_⟩;·rw[Q1 _ (fun e=>Dj (Md.Wz h.ne hj hi e))];exact hc
   ·unfold Md.put;rw[if_neg Dj];exact he
 ·unfold Md.put;split;·exact⟨h1,h2⟩
  ·exact h.fair j
theorem bB.iC(h:bB w C L lc lp pb st r P){k st':Nat}{r':R4}{v:Value}(hk:k<8)(hh:(cV lc lp pb st r).set k v=cV lc lp pb st' r'):bB (w.setCell ⟨C,k,none⟩ v) C L lc lp pb st' r' P:=by
 obtain⟨T,hT,mh⟩:=h.box;obtain⟨l,hl,Di⟩:=h.lits;have Q1: ∀a:Addr,a≠⟨C,k,none⟩→(w.setCell ⟨C,k,none⟩ v).cell? a=w.cell? a:=fun a ha=>World.cell?_setCell_other _ _ _ _ (fun e=>ha e.symm);refine⟨⟨T,?_,mh⟩,⟨l,(ah _ _ _ _ (fun e=>h.ne e.symm)).trans hl,Di⟩,?_,h.ne,fun i hi=> ?_,h.fair⟩;·rw[heap_set hT,List.set_append_left _ _ xr,hh]
 ·rw[Q1 _ (fun e=>by have:=congrArg Addr.off e;simp at this;omega)];exact h.lit
 ·obtain⟨c,hc,he⟩:=h.uk i hi;exact⟨c,(Q1 _ (Md.Lu h.ne (.inl hk))).trans hc,he⟩
end
theorem Rc.lF{p:Nat}(h1:1≤p)(h2:p≤2047)(b:Bool):1≤Rc.next p b∧Rc.next p b≤2047:=by unfold Rc.next;cases b<;>simp<;>omega
structure MS(io:Io)(w:World)(C L lc lp pb st:Nat)(r:R4)(x:io.S)(X:List Nat):Prop where
 mod:bB w C L lc lp pb st r x.1
 io:io.at_ w x.2 X
 rt:C ∉ X
 ul:L ∉ X
def gy(io:Io)(C L lc lp pb st:Nat)(r:R4)(x:io.S)(X:List Nat)(w w':World):Prop:=
 ∃X',MS io w' C L lc lp pb st r x X'∧aw (C::L::X) w w'∧ ∀i∈X',i∈X∨w.heap.size≤i
def jR(v:Value)(io:Io)(C L lc lp pb st:Nat)(r:R4)(x:io.S)(X:List Nat)(w:World)(e:Ending)(w':World):Prop:=e= .returned v∧gy io C L lc lp pb st r x X w w'
theorem aw.aF{X:List Nat}{w w':World}(h:Below w.heap.size w w'):aw X w w':=⟨h.os,h.tape,h.output,h.size,fun i hi _=>h.block i hi⟩
theorem gy.trans{io:Io}{C L lc lp pb st':Nat}{r':R4}{x':io.S}{X X1:List Nat}{w w1 w2:World}(ci:aw (C::L::X) w w1)(hX: ∀i∈X1,i∈X∨w.heap.size≤i)(h:gy io C L lc lp pb st' r' x' X1 w1 w2):gy io C L lc lp pb st' r' x' X w w2:=by
 obtain⟨X2,hM,fV,MV⟩:=h;refine⟨X2,hM,ci.trans fV ?_,fun i hi=> ?_⟩
 ·intro i hi;simp only[List.mem_cons]at hi ⊢;rcases hi with rfl | rfl | hi;·exact .inl (.inl rfl)
  ·exact .inl (.inr (.inl rfl))
  ·rcases hX i hi with h | h;·exact .inl (.inr (.inr h))
   ·exact .inr h
 ·rcases MV i hi with h | h;·exact hX i h
  ·exact .inr (Nat.le_trans ci.size h)
theorem MS.below{io:Io}{w w':World}{C L lc lp pb st:Nat}{r:R4}{x:io.S}{X:List Nat}(h:MS io w C L lc lp pb st r x X)(hb:Below w.heap.size w w'):MS io w' C L lc lp pb st r x X:=
 ⟨h.mod.aA (hb.block _ h.mod.Au) (hb.block _ h.mod.xS),io.aA h.io hb.size (fun i hi=>hb.block i (io.lt h.io i hi)),h.rt,h.ul⟩
theorem MS.drewN{io:Io}{w:World}{C L lc lp pb st:Nat}{r:R4}{x:io.S}{X:List Nat}(h:MS io w C L lc lp pb st r x X)(n:Nat):MS io (w.drewN n) C L lc lp pb st r x X:=h.below (below_drewN (Below.refl _ _) n)
section
variable{io:Io}{w:World}{C L lc lp pb st:Nat}{r:R4}{x:io.S}{X:List Nat}
theorem MS.bj(h:MS io w C L lc lp pb st r x X){b k:Nat}(hb:b ∉ C::L::X)(u:Value):MS io (w.setCell ⟨b,k,none⟩ u) C L lc lp pb st r x X:=by simp only[List.mem_cons,not_or]at hb;exact⟨h.mod.aA (ah _ _ _ _ (fun e=>hb.1 e.symm)) (ah _ _ _ _ (fun e=>hb.2.1 e.symm)),io.aA h.io ag (fun i hi=>ah _ _ _ _ (fun e=>hb.2.2 CT)),h.rt,h.ul⟩
theorem MS.iC(h:MS io w C L lc lp pb st r x X){k st':Nat}{r':R4}{v:Value}(hk:k<8)(hh:(cV lc lp pb st r).set k v=cV lc lp pb st' r'):MS io (w.setCell ⟨C,k,none⟩ v) C L lc lp pb st' r' x X:=
 ⟨h.mod.iC hk hh,io.aA h.io ag (fun i hi=>ah _ _ _ _ (fun e=>h.rt CT)),h.rt,h.ul⟩
end
theorem Dq(io:Io){C L lc lp pb st:Nat}{r:R4}{x:io.S}{X:List Nat}{w:World}(hM:MS io w C L lc lp pb st r x X)(bL:io.ok x.2 1){i b off n cp j:Nat}(hi:Md.used (2^(lc+lp)) i)(ha:Md.oe C L i=⟨b,off+j,none⟩)(hj:j<n)(hn:n≤cp)(ui:cp≤9223372036854775807)(one:Bool):
  Calls prog 233 #[io.v,.slice (some ⟨b,off,none⟩) n cp,.int .i64 (j:Nat),.bool one] w (jR (.int .i64 (de (io.au i one x).1)) io C L lc lp pb st r (io.au i one x).2 X w):=by
 obtain⟨c,hc,he⟩:=hM.mod.uk i hi;have BP:=hM.mod.fair i;have hf:=hM.mod.WD i;rw[ha]at hc hf;have hb:b=C∨b=L:=by have:=Md.xR C L i;have e:Md.gm C L i=b:=congrArg Addr.block ha;rw[e]at this;exact this
 have ke:b ∉ X:=by
  rcases hb with rfl | rfl;·exact hM.rt
  ·exact hM.ul
 have vp:=io.code w x.2 X b off n cp j c one hM.io bL ke hj hn ui hc hf (Md.MT he BP.2);rw[he]at vp;refine vp.mono ?_;rintro e w' ⟨rfl,w1,X',ci,dm,BQ,rfl⟩;have hC:w1.heap[C]? =w.heap[C]? :=ci.block C hM.mod.Au hM.rt;have hL:w1.heap[L]? =w.heap[L]? :=ci.block L hM.mod.xS hM.ul;have i9:=hM.mod.aA hC hL;obtain⟨n1,n2⟩:=Rc.lF BP.1 BP.2 (io.bit x.2 (x.1 i) one).1;have fJ:=i9.MU hi n1 n2;rw[ha]at fJ;have rt:C ∉ X':=fun h=>by
  rcases BQ C h with h | h;·exact hM.rt h
  ·have:=hM.mod.Au;omega
 have ul:L ∉ X':=fun h=>by
  rcases BQ L h with h | h;·exact hM.ul h
  ·have:=hM.mod.xS;omega
 have ak3:b ∉ X':=by
  rcases hb with rfl | rfl;·exact rt
  ·exact ul
 refine⟨rfl,X',⟨fJ,io.aA dm ag (fun i hi=>ah _ _ _ _ (fun e=>ak3 CT)),rt,ul⟩,?_,BQ⟩;have fV:aw (C::L::X) w w1:=⟨ci.os,ci.tape,ci.output,ci.size,fun k hk hX=>ci.block k hk (fun h=>hX dD)⟩
 exact fV.setCell (p:=⟨b,off+j,none⟩) (.inl (by rcases hb with rfl | rfl<;>simp)) _
end
section
theorem iD{P:Program}{ops:Array Oper}{o:Oper}{a:Act}{w:World}{K:Act→World→Prop}{Q:Exit→Act→World→Prop}{E:Prop}(mb:o.guard=none)(d s:Operand)(dT sT:TypeId)
  (ho:o.op= .call {callee:= .builtin .copy,args:= #[d,s],argTypes:= #[dT,sT]}) (elem:TypeId) (hu:P.underlying dT=some (.slice elem)) (dl:(P.info? elem).map (·.size)=some 1)
  (g off MW n aam aan:Nat) (hd:a.eval d= .slice (some ⟨g,off,none⟩) n aam) (hs:a.eval s= .slice (some ⟨g,MW,none⟩) n aan) (cur:List Value) (t:TypeId) (hg:w.heap[g]? =some (.cells cur.toArray t (0,0)))
  (cs:List Value) (hn:cs.length=n) (kf: ∀j,j<cs.length→cs[j]? =cur[MW+j]?) (dw:off+cs.length≤cur.length) (h1: ∀v∈cs,v.oneCell'=true)
  (h: ∀w',w'.heap[g]? =some (.cells (cur.take off++cs++cur.drop (off+cs.length)).toArray t (0,0))→aw [g] w w'→K (a.put o.dst (goInt cs.length)) w'):
  if Region.wanted o (yielded ops a.tmps)=true then Oper.wp P o a w K Q else E:=by
 have hw:Region.wanted o (yielded ops a.tmps)=true:=tY;rw[if_pos hw];by_cases h0:cs.length=0;·obtain rfl:cs=[]:=List.eq_nil_of_length_eq_zero h0;have Dr:=run_copy_none (P:=P) w dT sT o.type elem (some ⟨g,off,none⟩) (some ⟨g,MW,none⟩) n aam n aan hu dl (by simp at hn;rw[←hn];rfl);unfold Oper.wp;simp[execOp,ho,resolve,invoke,builtin,hd,hs,Dr,Result.andThen];exact h w (by simpa using hg) (aw.refl _ _)
 ·have Dr:=run_copy_row (P:=P) w dT sT o.type elem g off n aam ⟨g,MW,none⟩ n aan cur.toArray t cs hu dl hg (by rw[hn];exact(Nat.min_self n).symm) (by
   intro j v hj;have ub:j<cs.length:=(List.getElem?_eq_some_iff.1 hj).1;have e:((⟨g,MW,none⟩:Addr).add j)=⟨g,MW+j,none⟩:=ml;rw[e,cell_of_row w g _ _ _ _ hg,List.getElem?_toArray,←kf j ub,hj]) (by simpa using dw) h1
  unfold Oper.wp;simp[execOp,ho,resolve,invoke,builtin,hd,hs,Dr,Result.andThen];refine h _ (by simpa using setRow_heap w g _ _ t _ hg) ⟨rfl,rfl,rfl,ag,fun i _ hX=>setRow_other w g i _ (by simpa using hX)⟩
section
variable{w w':World}{C L lc lp pb st st':Nat}{r r':R4}{P:Nat→Nat}
theorem bB.wV(h:bB w C L lc lp pb st r P){T:List Value}(hT:w.heap[C]? =some (.cells (cV lc lp pb st r++T).toArray 171 (0,0)))(hT':w'.heap[C]? =some (.cells (cV lc lp pb st' r'++T).toArray 171 (0,0)))(hL:w'.heap[L]? =w.heap[L]?):bB w' C L lc lp pb st' r' P:=by
 obtain⟨T2,m7,mh⟩:=h.box;obtain⟨l,hl,Di⟩:=h.lits;have hTT:T.length=2053:=by rw[hT]at m7;injection m7 with h1;injection h1 with h1 _ _;have:=congrArg Array.size h1;simp at this;omega
 have ZP: ∀k,8≤k→w'.cell? ⟨C,k,none⟩=w.cell? ⟨C,k,none⟩:=fun k hk=>by rw[cell_of_row w' _ _ _ _ _ hT',cell_of_row w _ _ _ _ _ hT,List.getElem?_toArray,List.getElem?_toArray,List.getElem?_append_right xr,List.getElem?_append_right xr];rfl
 refine⟨⟨T,hT',hTT⟩,⟨l,hL.trans hl,Di⟩,(ZP 440 ak).trans h.lit,h.ne,fun i hi=> ?_,h.fair⟩;obtain⟨c,hc,he⟩:=h.uk i hi;refine⟨c,?_,he⟩;rw[←hc];by_cases h3:i<2180
 ·have ha:Md.oe C L i=⟨C,Md.fI i,none⟩:=by unfold Md.oe Md.gm;rw[if_pos h3]
  rw[ha];exact ZP _ (by unfold Md.fI Md.used at*;by_cases a1:i<432<;>by_cases a2:i<1844<;>simp only[a1,a2,h3,if_true,if_false]<;>omega)
 ·have ha:Md.oe C L i=⟨L,Md.fI i,none⟩:=by unfold Md.oe Md.gm;rw[if_neg h3]
  rw[ha];unfold World.cell?;rw[hL]
end
theorem wW(g n:Nat)(h:n≤3)(w:World):(Instr.sliceAt 152 (.pointer (some ⟨g,4,none⟩)) (some (.int .i64 1)) (some (.int .i64 (n+1:Nat))) none).run prog w= .ok (.slice (some ⟨g,5,none⟩) n 3) w:=by have hs:(sizeOf (prog.elem 152)).run prog w= .ok 1 w:=ai;rw[run_sliceAt_array_lh w 152 ⟨g,4,none⟩ Wn .i64 .i64 1 (n+1:Nat) ak aa (by rw[Fd];omega),hs,Fd];simp only[Result.andThen,slicedAt,Int.toNat_natCast,Nat.mul_one];rw[if_neg ak,show(1:Int).toNat=1 from rfl,Addr.add_mid,Nat.add_sub_cancel]
theorem Ds(g n:Nat)(h:n≤4)(w:World):(Instr.sliceAt 152 (.pointer (some ⟨g,4,none⟩)) none (some (.int .i64 (n:Nat))) none).run prog w= .ok (.slice (some ⟨g,4,none⟩) n 4) w:=by have hs:(sizeOf (prog.elem 152)).run prog w= .ok 1 w:=ai;rw[run_sliceAt_array_h w 152 ⟨g,4,none⟩ Wn .i64 (n:Nat) aa (by rw[Fd];omega),hs,Fd];simp only[Result.andThen,slicedAt,Int.toNat_natCast,Nat.mul_one,Nat.sub_zero];rw[if_neg ak];simp[Addr.add]
def aY(r:R4)(which:Nat)(d:Int):R4:=match which with
 | 0=>(d,r.2.1,r.2.2.1,r.2.2.2)
 | 1=>(d,r.1,r.2.2.1,r.2.2.2)
 | 2=>(d,r.1,r.2.1,r.2.2.2)
 | _=>(d,r.1,r.2.1,r.2.2.1)
def mA(C L lc lp pb st:Nat)(r:R4)(P:Nat→Nat)(w:World)(e:Ending)(w':World):Prop:=e= .returned (.tuple #[])∧bB w' C L lc lp pb st r P∧aw [C] w w'
theorem WE{C L lc lp pb st:Nat}{r:R4}{P:Nat→Nat}{w:World}(hM:bB w C L lc lp pb st r P)(d:Int):Calls prog 259 #[PF C,.int .i64 0,.int .i64 d] w (mA C L lc lp pb st (d,r.2.1,r.2.2.1,r.2.2.2) P w):=by
 obtain⟨T,hT,mh⟩:=hM.box;have HT:=ae hT;have Q2:=ae mh;have HM:=ae hM;have q1: ∀w,(Instr.sliceAt 152 (.pointer (some ⟨C,4,none⟩)) (some (.int .i64 1)) (some (.int .i64 1)) none).run prog w= .ok (.slice (some ⟨C,5,none⟩) 0 3) w:=fun w=>wW C 0 ak w;have q2: ∀w,(Instr.sliceAt 152 (.pointer (some ⟨C,4,none⟩)) none (some (.int .i64 0)) none).run prog w= .ok (.slice (some ⟨C,4,none⟩) 0 4) w:=fun w=>Ds C 0 ak w;have vq:IntKind.i64.wrap 1=1:=ak;have vr:w.drew.heap[C]? =some (.cells (cV lc lp pb st r++T).toArray 171 (0,0)):=hT;have hlen:(cV lc lp pb st r++T).length=2061:=by simp[mh]
 have dw:5+0≤(cV lc lp pb st r++T).length:=aa;clear hM hT mh hlen;go_enter func259,ntmps259;go_upto_region 0 with fail;refine wp_region_held_drew (S:=fun _=>True) ai trivial (fun hS=> ?_);refine af 0 hS (h:=af 1 hS (h:=af 2 hS (h:=af 3 hS (h:=af 4 hS (h:=af 5 hS (h:=af 6 hS (h:=af 7 hS (h:=af 8 hS (h:=af 9 hS (h:=af 10 hS (h:= ?_)))))))))));refine aC 11 (fun K hK=> ?_);refine iD rfl (.tmp 11) (.tmp 16) 172 172 rfl 3 underlying172 ai C 5 4 0 _ _ rfl rfl (cV lc lp pb st r++T) 171 vr ([]) rfl ag dw ag ?_;intro w4 et cY;simp only[Act.put];refine hK.out _ _ trivial (fun _=> ?_);clear hK K;refine wpAnyH_done ai ?_ _;have je:w4.heap[C]? =some (.cells (cV lc lp pb st (r.1,r.2.1,r.2.2.1,r.2.2.2)++T).toArray 171 (0,0)):=et;have ci:aw [C] w w4:=⟨cY.os,cY.tape,cY.output,cY.size,cY.block⟩
 have mS:bB w4 C L lc lp pb st (r.1,r.2.1,r.2.2.1,r.2.2.2) P:=HM.out.wV HT.out je (ci.block L HM.out.xS CU);obtain⟨_,_,_,_,c4,_⟩:=mS.cells;have f4:=mS.jt 4;have Fw:=ae mS;have kg:=ae ci;clear vr dw et cY je ci mS q1 q2 vq;go_wp2_with fail;refine bodyPost_ret_by (results_none rfl _ _ _) rfl ⟨rfl,?_,?_⟩;·exact Fw.out.iC (k:=4) (st':=st) (r':=(d,r.2.1,r.2.2.1,r.2.2.2)) ak rfl
 ·exact kg.out.setCell (p:=⟨C,4,none⟩) (.inl ag) _
theorem WF{C L lc lp pb st:Nat}{r:R4}{P:Nat→Nat}{w:World}(hM:bB w C L lc lp pb st r P)(d:Int):Calls prog 259 #[PF C,.int .i64 1,.int .i64 d] w (mA C L lc lp pb st (d,r.1,r.2.2.1,r.2.2.2) P w):=by
 obtain⟨T,hT,mh⟩:=hM.box;have HT:=ae hT;have Q2:=ae mh;have HM:=ae hM;have q1: ∀w,(Instr.sliceAt 152 (.pointer (some ⟨C,4,none⟩)) (some (.int .i64 1)) (some (.int .i64 2)) none).run prog w= .ok (.slice (some ⟨C,5,none⟩) 1 3) w:=fun w=>wW C 1 ak w;have q2: ∀w,(Instr.sliceAt 152 (.pointer (some ⟨C,4,none⟩)) none (some (.int .i64 1)) none).run prog w= .ok (.slice (some ⟨C,4,none⟩) 1 4) w:=fun w=>Ds C 1 ak w;have vq:IntKind.i64.wrap 2=2:=ak;have vr:w.drew.heap[C]? =some (.cells (cV lc lp pb st r++T).toArray 171 (0,0)):=hT;have hlen:(cV lc lp pb st r++T).length=2061:=by simp[mh]
 have dw:5+1≤(cV lc lp pb st r++T).length:=aa;clear hM hT mh hlen;go_enter func259,ntmps259;go_upto_region 0 with fail;refine wp_region_held_drew (S:=fun _=>True) ai trivial (fun hS=> ?_);refine af 0 hS (h:=af 1 hS (h:=af 2 hS (h:=af 3 hS (h:=af 4 hS (h:=af 5 hS (h:=af 6 hS (h:=af 7 hS (h:=af 8 hS (h:=af 9 hS (h:=af 10 hS (h:= ?_)))))))))));refine aC 11 (fun K hK=> ?_);refine iD rfl (.tmp 11) (.tmp 16) 172 172 rfl 3 underlying172 ai C 5 4 1 _ _ rfl rfl (cV lc lp pb st r++T) 171 vr ([Value.int .i64 r.1]) rfl (by intro j hj;match j,hj with | 0,_=>rfl) dw (by intro v hv;simp at hv;subst hv;rfl) ?_;intro w4 et cY;simp only[Act.put];refine hK.out _ _ trivial (fun _=> ?_);clear hK K;refine wpAnyH_done ai ?_ _;have je:w4.heap[C]? =some (.cells (cV lc lp pb st (r.1,r.1,r.2.2.1,r.2.2.2)++T).toArray 171 (0,0)):=et;have ci:aw [C] w w4:=⟨cY.os,cY.tape,cY.output,cY.size,cY.block⟩
 have mS:bB w4 C L lc lp pb st (r.1,r.1,r.2.2.1,r.2.2.2) P:=HM.out.wV HT.out je (ci.block L HM.out.xS CU);obtain⟨_,_,_,_,c4,_⟩:=mS.cells;have f4:=mS.jt 4;have Fw:=ae mS;have kg:=ae ci;clear vr dw et cY je ci mS q1 q2 vq;go_wp2_with fail;refine bodyPost_ret_by (results_none rfl _ _ _) rfl ⟨rfl,?_,?_⟩;·exact Fw.out.iC (k:=4) (st':=st) (r':=(d,r.1,r.2.2.1,r.2.2.2)) ak rfl
 ·exact kg.out.setCell (p:=⟨C,4,none⟩) (.inl ag) _
theorem WG{C L lc lp pb st:Nat}{r:R4}{P:Nat→Nat}{w:World}(hM:bB w C L lc lp pb st r P)(d:Int):Calls prog 259 #[PF C,.int .i64 2,.int .i64 d] w (mA C L lc lp pb st (d,r.1,r.2.1,r.2.2.2) P w):=by
 obtain⟨T,hT,mh⟩:=hM.box;have HT:=ae hT;have Q2:=ae mh;have HM:=ae hM;have q1: ∀w,(Instr.sliceAt 152 (.pointer (some ⟨C,4,none⟩)) (some (.int .i64 1)) (some (.int .i64 3)) none).run prog w= .ok (.slice (some ⟨C,5,none⟩) 2 3) w:=fun w=>wW C 2 ak w;have q2: ∀w,(Instr.sliceAt 152 (.pointer (some ⟨C,4,none⟩)) none (some (.int .i64 2)) none).run prog w= .ok (.slice (some ⟨C,4,none⟩) 2 4) w:=fun w=>Ds C 2 ak w;have vq:IntKind.i64.wrap 3=3:=ak;have vr:w.drew.heap[C]? =some (.cells (cV lc lp pb st r++T).toArray 171 (0,0)):=hT;have hlen:(cV lc lp pb st r++T).length=2061:=by simp[mh]
 have dw:5+2≤(cV lc lp pb st r++T).length:=aa;clear hM hT mh hlen;go_enter func259,ntmps259;go_upto_region 0 with fail;refine wp_region_held_drew (S:=fun _=>True) ai trivial (fun hS=> ?_);refine af 0 hS (h:=af 1 hS (h:=af 2 hS (h:=af 3 hS (h:=af 4 hS (h:=af 5 hS (h:=af 6 hS (h:=af 7 hS (h:=af 8 hS (h:=af 9 hS (h:=af 10 hS (h:= ?_)))))))))));refine aC 11 (fun K hK=> ?_);refine iD rfl (.tmp 11) (.tmp 16) 172 172 rfl 3 underlying172 ai C 5 4 2 _ _ rfl rfl (cV lc lp pb st r++T) 171 vr ([Value.int .i64 r.1,Value.int .i64 r.2.1]) rfl (by intro j hj;match j,hj with | 0,_ | 1,_=>rfl) dw (by intro v hv;simp at hv;rcases hv with rfl | rfl<;>rfl) ?_;intro w4 et cY;simp only[Act.put];refine hK.out _ _ trivial (fun _=> ?_);clear hK K;refine wpAnyH_done ai ?_ _;have je:w4.heap[C]? =some (.cells (cV lc lp pb st (r.1,r.1,r.2.1,r.2.2.2)++T).toArray 171 (0,0)):=et;have ci:aw [C] w w4:=⟨cY.os,cY.tape,cY.output,cY.size,cY.block⟩
 have mS:bB w4 C L lc lp pb st (r.1,r.1,r.2.1,r.2.2.2) P:=HM.out.wV HT.out je (ci.block L HM.out.xS CU);obtain⟨_,_,_,_,c4,_⟩:=mS.cells;have f4:=mS.jt 4;have Fw:=ae mS;have kg:=ae ci;clear vr dw et cY je ci mS q1 q2 vq;go_wp2_with fail;refine bodyPost_ret_by (results_none rfl _ _ _) rfl ⟨rfl,?_,?_⟩;·exact Fw.out.iC (k:=4) (st':=st) (r':=(d,r.1,r.2.1,r.2.2.2)) ak rfl
 ·exact kg.out.setCell (p:=⟨C,4,none⟩) (.inl ag) _
theorem WH{C L lc lp pb st:Nat}{r:R4}{P:Nat→Nat}{w:World}(hM:bB w C L lc lp pb st r P)(d:Int):Calls prog 259 #[PF C,.int .i64 3,.int .i64 d] w (mA C L lc lp pb st (d,r.1,r.2.1,r.2.2.1) P w):=by
 obtain⟨T,hT,mh⟩:=hM.box;have HT:=ae hT;have Q2:=ae mh;have HM:=ae hM;have q1: ∀w,(Instr.sliceAt 152 (.pointer (some ⟨C,4,none⟩)) (some (.int .i64 1)) (some (.int .i64 4)) none).run prog w= .ok (.slice (some ⟨C,5,none⟩) 3 3) w:=fun w=>wW C 3 ak w;have q2: ∀w,(Instr.sliceAt 152 (.pointer (some ⟨C,4,none⟩)) none (some (.int .i64 3)) none).run prog w= .ok (.slice (some ⟨C,4,none⟩) 3 4) w:=fun w=>Ds C 3 ak w;have vq:IntKind.i64.wrap 4=4:=ak;have vr:w.drew.heap[C]? =some (.cells (cV lc lp pb st r++T).toArray 171 (0,0)):=hT;have hlen:(cV lc lp pb st r++T).length=2061:=by simp[mh]
 have dw:5+3≤(cV lc lp pb st r++T).length:=aa;clear hM hT mh hlen;go_enter func259,ntmps259;go_upto_region 0 with fail;refine wp_region_held_drew (S:=fun _=>True) ai trivial (fun hS=> ?_);refine af 0 hS (h:=af 1 hS (h:=af 2 hS (h:=af 3 hS (h:=af 4 hS (h:=af 5 hS (h:=af 6 hS (h:=af 7 hS (h:=af 8 hS (h:=af 9 hS (h:=af 10 hS (h:= ?_)))))))))));refine aC 11 (fun K hK=> ?_);refine iD rfl (.tmp 11) (.tmp 16) 172 172 rfl 3 underlying172 ai C 5 4 3 _ _ rfl rfl (cV lc lp pb st r++T) 171 vr ([Value.int .i64 r.1,Value.int .i64 r.2.1,Value.int .i64 r.2.2.1]) rfl (by intro j hj;match j,hj with | 0,_ | 1,_ | 2,_=>rfl) dw Il ?_;intro w4 et cY;simp only[Act.put];refine hK.out _ _ trivial (fun _=> ?_);clear hK K;refine wpAnyH_done ai ?_ _;have je:w4.heap[C]? =some (.cells (cV lc lp pb st (r.1,r.1,r.2.1,r.2.2.1)++T).toArray 171 (0,0)):=et;have ci:aw [C] w w4:=⟨cY.os,cY.tape,cY.output,cY.size,cY.block⟩
 have mS:bB w4 C L lc lp pb st (r.1,r.1,r.2.1,r.2.2.1) P:=HM.out.wV HT.out je (ci.block L HM.out.xS CU);obtain⟨_,_,_,_,c4,_⟩:=mS.cells;have f4:=mS.jt 4;have Fw:=ae mS;have kg:=ae ci;clear vr dw et cY je ci mS q1 q2 vq;go_wp2_with fail;refine bodyPost_ret_by (results_none rfl _ _ _) rfl ⟨rfl,?_,?_⟩;·exact Fw.out.iC (k:=4) (st':=st) (r':=(d,r.1,r.2.1,r.2.2.1)) ak rfl
 ·exact kg.out.setCell (p:=⟨C,4,none⟩) (.inl ag) _
theorem um{C L lc lp pb st:Nat}{r:R4}{P:Nat→Nat}{w:World}(hM:bB w C L lc lp pb st r P)(n:Nat)(hn:n≤3)(d:Int):Calls prog 259 #[PF C,.int .i64 (n:Nat),.int .i64 d] w (mA C L lc lp pb st (aY r n d) P w):=by
 rcases(by omega:n=0∨n=1∨n=2∨n=3)with rfl | rfl | rfl | rfl;·exact WE hM d
 ·exact WF hM d
 ·exact WG hM d
 ·exact WH hM d
end
theorem oT(n:Int)(k:Nat)(hk:k≤62):bits .and .i64 n ((2^k-1:Nat):Int)=n%((2^k:Nat):Int):=by
 have h1:1≤2^k:=Nat.one_le_two_pow;have h2:2^k≤2^62:=Nat.pow_le_pow_right aa hk;have hm:(BitVec.ofInt 64 ((2^k-1:Nat):Int)).toNat=2^k-1:=xu;have hd:(18446744073709551616:Int)=((2^k:Nat):Int)*((2^(64-k):Nat):Int):=by
  have:2^k*2^(64-k)=18446744073709551616:=by rw[←Nat.pow_add,show k+(64-k)=64 by omega]
  rw[←Int.natCast_mul,this];rfl
 have key:((BitVec.ofInt 64 n &&& BitVec.ofInt 64 ((2^k-1:Nat):Int)).toNat:Int)=n%((2^k:Nat):Int):=by rw[BitVec.toNat_and,hm,Nat.and_two_pow_sub_one_eq_mod,BitVec.toNat_ofInt];rw[Int.natCast_emod,Int.toNat_of_nonneg (Int.emod_nonneg _ ak)];exact Int.emod_emod_of_dvd n ⟨_,hd⟩
 show IntKind.i64.wrap ((BitVec.ofInt 64 n &&& BitVec.ofInt 64 ((2^k-1:Nat):Int)).toNat:Nat)=n%((2^k:Nat):Int);have h3:0≤n%((2^k:Nat):Int):=Int.emod_nonneg _ aa;have h4:n%((2^k:Nat):Int)<((2^k:Nat):Int):=Int.emod_lt_of_pos _ aa;rw[key,IntKind.wrap_i64];omega
theorem lG(n:Int):bits .and .i64 n 1=n%2:=oT n 1 ak
namespace Md
def aQ(v:Int)(i:Nat):Bool:=decide (v/2^i%2=1)
def cW(io:Io)(at_:Nat)(v:Int):Nat→Nat→io.S→Nat×io.S
 | 0,m,x=>(m,x)
 | n+1,m,x=>cW io at_ v n (2*m+(io.au (at_+m) (aQ v n) x).1.toNat) (io.au (at_+m) (aQ v n) x).2
def tree(io:Io)(at_:Nat)(n:Nat)(v:Int)(x:io.S):Nat×io.S:=((cW io at_ v n 1 x).1-2^n,(cW io at_ v n 1 x).2)
theorem qH(io:Io)(at_:Nat)(v:Int): ∀n m x,m*2^n≤(cW io at_ v n m x).1∧(cW io at_ v n m x).1<(m+1)*2^n
 | 0,m,x=>by unfold cW;omega
 | n+1,m,x=>by
  unfold cW;obtain⟨h1,h2⟩:=qH io at_ v n (2*m+(io.au (at_+m) (aQ v n) x).1.toNat) (io.au (at_+m) (aQ v n) x).2;have hb:(io.au (at_+m) (aQ v n) x).1.toNat≤1:=by cases(io.au (at_+m) (aQ v n) x).1<;>decide
  refine⟨Nat.le_trans ?_ h1,Nat.lt_of_lt_of_le h2 ?_⟩;·rw[Nat.pow_succ,Nat.mul_comm (2^n) 2,←Nat.mul_assoc];exact Nat.mul_le_mul_right _ aa
  ·rw[Nat.pow_succ,Nat.mul_comm (2^n) 2,←Nat.mul_assoc];exact Nat.mul_le_mul_right _ aa
theorem Lv(io:Io)(at_:Nat)(n:Nat)(v:Int)(x:io.S):2^n≤(cW io at_ v n 1 x).1∧(tree io at_ n v x).1<2^n:=by have h:=qH io at_ v n 1 x;unfold tree;omega
def gq(io:Io)(at_:Nat)(v:Int):Nat→Nat→Nat→Nat→io.S→Nat×io.S
 | 0,_,_,g,x=>(g,x)
 | k+1,i,m,g,x=>gq io at_ v k (i+1) (2*m+(io.au (at_+m) (aQ v i) x).1.toNat) (g+(io.au (at_+m) (aQ v i) x).1.toNat*2^i) (io.au (at_+m) (aQ v i) x).2
def rev(io:Io)(at_:Nat)(n:Nat)(v:Int)(x:io.S):Nat×io.S:=gq io at_ v n 0 1 0 x
theorem Fx(io:Io)(at_:Nat)(v:Int): ∀k i m g x,g<2^i→(gq io at_ v k i m g x).1<2^(i+k)
 | 0,i,m,g,x,h=>h
 | k+1,i,m,g,x,h=>by
  unfold gq;have:=Fx io at_ v k (i+1) (2*m+(io.au (at_+m) (aQ v i) x).1.toNat) (g+(io.au (at_+m) (aQ v i) x).1.toNat*2^i) (io.au (at_+m) (aQ v i) x).2 (by
   rw[Nat.pow_succ];cases(io.au (at_+m) (aQ v i) x).1<;>simp<;>omega)
  rw[show i+(k+1)=i+1+k by omega];exact this
theorem aao(io:Io)(at_:Nat)(n:Nat)(v:Int)(x:io.S):(rev io at_ n v x).1<2^n:=by have:=Fx io at_ v n 0 1 0 x ak;rw[Nat.zero_add]at this;exact this
structure WI(C L n2 at_ len b off:Nat):Prop where
 used: ∀m,m<len→Md.used n2 (at_+m)
 oe: ∀m,m<len→Md.oe C L (at_+m)=⟨b,off+m,none⟩
end Md
theorem Io.pY(io:Io){x:io.S}{b:Bool}(h:io.ok x.2 (n+1))(hf:1≤x.1 i∧x.1 i≤2047):io.ok (io.au i b x).2.2 n:=io.Q0 h hf.1 hf.2
theorem WJ(io:Io){x:io.S}(hM:MS io w C L lc lp pb st r x X){len:Nat}(bL:io.ok x.2 n)(ru:Md.WI C L (2^(lc+lp)) at_ len b off)(hn:n≤8)(hl:2^n≤len)(hc:len≤cp)(ui:cp≤9223372036854775807)(v:Int):
  Calls prog 268 #[io.v,.slice (some ⟨b,off,none⟩) len cp,.int .i64 (n:Nat),.int .i64 v] w (jR (.int .i64 ((Md.tree io at_ n v x).1:Nat)) io C L lc lp pb st r (Md.tree io at_ n v x).2 X w):=by
 have pX:(n:Int)≤8:=aa;have oR:=fun y=>lG y;go_enter func268,ntmps268;go_wp2_with fail;go_loopw [9,10] (fun ms i wr=> ∃(j m:Nat) (x':io.S) (X':List Nat),j≤n∧ms= .int .i64 (m:Nat)∧i= .int .i64 ((j:Int)-1)∧2^(n-j)≤m∧m<2^(n-j)*2∧Hid (io.ok x'.2 j)∧Hid (Md.cW io at_ v j m x'=Md.cW io at_ v n 1 x)∧Hid (MS io wr C L lc lp pb st r x' X'∧aw (C::L::X) w wr∧ ∀i∈X',i∈X∨w.heap.size≤i)) (fun _ i _=>(intOf i+1).toNat);case atStart=>exact⟨n,1,x,X,Nat.le_refl _,rfl,aE,ag,ag,ae bL,ae rfl,ae ⟨hM,aw.refl _ _,fun i hi=> .inl hi⟩⟩
 case round=>
  obtain⟨j,m,x',X',hj,rfl,rfl,i9,fJ,Hv,HT,HM⟩:=hrel;cases j with
  | zero=>
   have WK:2^n≤2^8:=Nat.pow_le_pow_right aa hn;rw[Nat.sub_zero]at i9 fJ;have HR:Hid ((Md.tree io at_ n v x).1=m-2^n∧(Md.tree io at_ n v x).2=x'):=ae (by unfold Md.tree;rw[←HT.out];exact⟨rfl,rfl⟩);have HI:Hid (wrap64 ((m:Int)-wrap64 (2^n))=((m-2^n:Nat):Int)):=ae (by
    have e:(2:Int)^n=((2^n:Nat):Int):=ag;rw[e];have e1:wrap64 ((2^n:Nat):Int)=((2^n:Nat):Int):=oy;rw[e1];unfold wrap64;omega)
   clear WK i9 fJ;go_wp2_with fail;go_ret;rw[HR.out.1,HR.out.2,HI.out];exact⟨rfl,X',HM.out.1,HM.out.2.1,HM.out.2.2⟩
  | succ j=>
   have un:m<len:=(by have e:2^(n-(j+1))*2=2^(n-j):=CV;have:2^(n-j)≤2^n:=Nat.pow_le_pow_right aa aa;omega);have WK:m<2^8*2:=Nat.lt_of_lt_of_le fJ (Nat.mul_le_mul_right _ (Nat.pow_le_pow_right aa aa));have qI:=ae (Dq io HM.out.1 (io.le Hv.out aa) (ru.used m un) (ru.oe m un) un hc ui (Md.aQ v j));have lW:=HM.out.1.mod.fair (at_+m);have kN:=ae (io.pY (i:=at_+m) (b:=Md.aQ v j) Hv.out lW);have qD:Hid (Md.cW io at_ v j (2*m+(io.au (at_+m) (Md.aQ v j) x').1.toNat) (io.au (at_+m) (Md.aQ v j) x').2=Md.cW io at_ v n 1 x):=ae (by rw[←HT.out];rfl);have qq:=ae i9;have Av:=ae fJ;obtain⟨⟨B,y⟩,hy⟩: ∃z,io.au (at_+m) (Md.aQ v j) x'=z:=⟨_,rfl⟩
   rw[hy]at qI kN qD;simp only at qI kN qD;clear hy i9 fJ lW;go_wp2_with fail;refine qI.out.mono ?_;rintro e w2 ⟨rfl,X2,Hw,fV,MV⟩;have hw:gy io C L lc lp pb st r y X w w2:=gy.trans HM.out.2.1 HM.out.2.2 ⟨X2,Hw,fV,MV⟩;have HW:=ae hw;have hB:de B=(B.toNat:Int):=(by cases B<;>rfl);have hBl:B.toNat≤1:=(by cases B<;>decide);rw[hB];have EN:(m:Int)<512:=aa;have hBi:(B.toNat:Int)≤1:=aa;clear Hw fV MV hw hB;go_wp2_with fail;obtain⟨X3,Aw,dK,Ax⟩:=HW.out;have e2:2^(n-j)=2^(n-(j+1))*2:=CV;exact⟨⟨j,2*m+B.toNat,y,X3,aa,aE,aE,am qq.out,am Av.out,kN,qD,ae ⟨Aw,dK,Ax⟩⟩,lS⟩
theorem IR(g i:Nat)(B:Bool)(hg:g<2^i)(hi:i≤8):bits .or .i64 (g:Int) (((B.toNat*2^i:Nat)):Int)=((g+B.toNat*2^i:Nat):Int):=by
 have h2:2^i≤2^8:=Nat.pow_le_pow_right aa hi;have hB:B.toNat*2^i≤256:=by cases B<;>simp<;>omega
 have e1:(BitVec.ofInt 64 (g:Int)).toNat=g:=xu;have e2:(BitVec.ofInt 64 ((B.toNat*2^i:Nat):Int)).toNat=B.toNat*2^i:=xu;show IntKind.i64.wrap ((BitVec.ofInt 64 (g:Int) ||| BitVec.ofInt 64 ((B.toNat*2^i:Nat):Int)).toNat:Nat)=_;rw[BitVec.toNat_or,e1,e2,Nat.or_comm,Nat.mul_comm,←Nat.two_pow_add_eq_or_of_lt hg,IntKind.wrap_i64,Nat.mul_comm,Nat.add_comm];omega
theorem aap(io:Io){x:io.S}(hM:MS io w C L lc lp pb st r x X){len:Nat}(bL:io.ok x.2 n)(ru:Md.WI C L (2^(lc+lp)) at_ len b off)(hn:n≤5)(hl:2^n≤len)(hc:len≤cp)(ui:cp≤9223372036854775807)(v:Int):
  Calls prog 270 #[io.v,.slice (some ⟨b,off,none⟩) len cp,.int .i64 (n:Nat),.int .i64 v] w (jR (.int .i64 ((Md.rev io at_ n v x).1:Nat)) io C L lc lp pb st r (Md.rev io at_ n v x).2 X w):=by
 have pX:(n:Int)≤5:=aa;have oR:=fun y=>lG y;go_enter func270,ntmps270;go_wp2_with fail;go_loopw [9,10,14] (fun ms gs i wr=> ∃(j m g:Nat) (x':io.S) (X':List Nat),j≤n∧ms= .int .i64 (m:Nat)∧gs= .int .i64 (g:Nat)∧i= .int .i64 (j:Nat)∧2^j≤m∧m<2^j*2∧g<2^j∧Hid (io.ok x'.2 (n-j))∧Hid (Md.gq io at_ v (n-j) j m g x'=Md.rev io at_ n v x)∧Hid (MS io wr C L lc lp pb st r x' X'∧aw (C::L::X) w wr∧ ∀i∈X',i∈X∨w.heap.size≤i)) (fun _ _ i _=>n-(intOf i).toNat);case atStart=>exact⟨0,1,0,x,X,Nat.zero_le _,rfl,rfl,rfl,ag,ag,ag,ae bL,ae rfl,ae ⟨hM,aw.refl _ _,fun i hi=> .inl hi⟩⟩
 case round=>
  obtain⟨j,m,g,x',X',hj,rfl,rfl,rfl,i9,fJ,hg,Hv,HT,HM⟩:=hrel;by_cases hjn:j<n
  ·have Dj:(j:Int)<(n:Int):=(by omega);have IU:2^j*2≤2^n:=(by rw[←Nat.pow_succ];exact Nat.pow_le_pow_right aa aa);have li:2^n≤2^5:=Nat.pow_le_pow_right aa hn;have un:m<len:=aa;have qI:=ae (Dq io HM.out.1 (io.le Hv.out aa) (ru.used m un) (ru.oe m un) un hc ui (Md.aQ v j));have lW:=HM.out.1.mod.fair (at_+m);have ho:=Hv.out;rw[show n-j=(n-(j+1))+1 by omega]at ho;have kN:=ae (io.pY (i:=at_+m) (b:=Md.aQ v j) ho lW);have qD:Hid (Md.gq io at_ v (n-(j+1)) (j+1) (2*m+(io.au (at_+m) (Md.aQ v j) x').1.toNat) (g+(io.au (at_+m) (Md.aQ v j) x').1.toNat*2^j) (io.au (at_+m) (Md.aQ v j) x').2=Md.rev io at_ n v x):=ae (by rw[←HT.out,show n-j=(n-(j+1))+1 by omega];rfl);have a7:=ae (And.intro i9 (And.intro fJ hg));have atz:m<32:=aa;have atA:g<32:=aa;obtain⟨⟨B,y⟩,hy⟩: ∃z,io.au (at_+m) (Md.aQ v j) x'=z:=⟨_,rfl⟩
   rw[hy]at qI kN qD;simp only at qI kN qD;clear hy i9 fJ lW ho IU li hg;have atB:(j:Int)≤5:=aa;go_wp2_with fail;refine qI.out.mono ?_;rintro e w2 ⟨rfl,X2,Hw,fV,MV⟩;have hw:gy io C L lc lp pb st r y X w w2:=gy.trans HM.out.2.1 HM.out.2.2 ⟨X2,Hw,fV,MV⟩;have HW:=ae hw;have hB:de B=(B.toNat:Int):=(by cases B<;>rfl);have hBl:B.toNat≤1:=(by cases B<;>decide);rw[hB];have EN:(m:Int)<32:=aa;have hBi:(B.toNat:Int)≤1:=aa;clear Hw fV MV hw hB;go_wp2_with fail;obtain⟨X3,Aw,dK,Ax⟩:=HW.out;have hb:=a7.out;have hp8:2^j≤2^5:=Nat.pow_le_pow_right aa aa;have e2:2^(j+1)=2^j*2:=Nat.pow_succ _ _;have e3:wrap64 ((B.toNat:Int)*2^j)=((B.toNat*2^j:Nat):Int):=(by have:B.toNat*2^j≤32:=(by cases B<;>simp<;>omega);rw[show(2:Int)^j=((2^j:Nat):Int) by simp,←Int.natCast_mul];unfold wrap64;omega);have hBj:B.toNat*2^j≤2^j:=(by cases B<;>simp);exact⟨⟨j+1,2*m+B.toNat,g+B.toNat*2^j,y,X3,aa,aE,by rw[e3,IR g j B hb.2.2 aa],aE,aa,aa,aa,kN,qD,ae ⟨Aw,dK,Ax⟩⟩,lS⟩
  ·obtain rfl:j=n:=(by omega);have hR:=HT.out;rw[Nat.sub_self]at hR;have HR:Hid (Md.rev io at_ j v x=(g,x')):=ae hR.symm;clear hR i9 fJ hg;go_wp2_with fail;go_ret;rw[HR.out];exact⟨rfl,X',HM.out.1,HM.out.2.1,HM.out.2.2⟩
theorem Io.BR(io:Io)(at_:Nat)(v:Int): ∀n k m (x:io.S),io.ok x.2 (n+k)→(∀i,1≤x.1 i∧x.1 i≤2047)→io.ok (Md.cW io at_ v n m x).2.2 k
 | 0,k,m,x,h,hf=>by rw[Nat.zero_add]at h;exact h
 | n+1,k,m,x,h,hf=>by
  unfold Md.cW;have h2:io.ok (io.au (at_+m) (Md.aQ v n) x).2.2 (n+k):=io.pY (by rw[show n+k+1=n+1+k by omega];exact h) (hf _);refine Io.BR io at_ v n k _ _ h2 (fun i=> ?_);have hn:=Rc.lF (hf (at_+m)).1 (hf (at_+m)).2 (io.bit x.2 (x.1 (at_+m)) (Md.aQ v n)).1;have hi:=hf i;unfold Io.au Md.put;simp only;split;·exact hn
  ·exact hi
theorem Io.Fy(io:Io)(at_:Nat)(v:Int): ∀n k i m g (x:io.S),io.ok x.2 (n+k)→(∀i,1≤x.1 i∧x.1 i≤2047)→io.ok (Md.gq io at_ v n i m g x).2.2 k
 | 0,k,i,m,g,x,h,hf=>by rw[Nat.zero_add]at h;exact h
 | n+1,k,i,m,g,x,h,hf=>by
  unfold Md.gq;have h2:io.ok (io.au (at_+m) (Md.aQ v i) x).2.2 (n+k):=io.pY (by rw[show n+k+1=n+1+k by omega];exact h) (hf _);refine Io.Fy io at_ v n k _ _ _ _ h2 (fun j=> ?_);have hn:=Rc.lF (hf (at_+m)).1 (hf (at_+m)).2 (io.bit x.2 (x.1 (at_+m)) (Md.aQ v i)).1;have hi:=hf j;unfold Io.au Md.put;simp only;split;·exact hn
  ·exact hi
theorem wX(io:Io){x:io.S}(hM:MS io w C L lc lp pb st r x X){len:Nat}{v:Int}{z:io.S}(hz:Md.tree io at_ n v x=(tv,z))(bL:io.ok x.2 (n+k))(ru:Md.WI C L (2^(lc+lp)) at_ len b off)(hn:n≤8)(hl:2^n≤len)(hc:len≤cp)(ui:cp≤9223372036854775807):
  Calls prog 268 #[io.v,.slice (some ⟨b,off,none⟩) len cp,.int .i64 (n:Nat),.int .i64 v] w (jR (.int .i64 (tv:Nat)) io C L lc lp pb st r z X w)∧tv<2^n∧io.ok z.2 k:=by
 have h:=WJ io hM (io.le bL aa) ru hn hl hc ui v;have h2:=(Md.Lv io at_ n v x).2;have h3:=Io.BR io at_ v n k 1 x bL hM.mod.fair;have h4:(Md.cW io at_ v n 1 x).2=z:=congrArg Prod.snd hz;rw[hz]at h h2;rw[h4]at h3;exact⟨h,h2,h3⟩
theorem Q3(io:Io){x:io.S}(hM:MS io w C L lc lp pb st r x X){len:Nat}{v:Int}{z:io.S}(hz:Md.rev io at_ n v x=(tv,z))(bL:io.ok x.2 (n+k))(ru:Md.WI C L (2^(lc+lp)) at_ len b off)(hn:n≤5)(hl:2^n≤len)(hc:len≤cp)(ui:cp≤9223372036854775807):
  Calls prog 270 #[io.v,.slice (some ⟨b,off,none⟩) len cp,.int .i64 (n:Nat),.int .i64 v] w (jR (.int .i64 (tv:Nat)) io C L lc lp pb st r z X w)∧tv<2^n∧io.ok z.2 k:=by
 have h:=aap io hM (io.le bL aa) ru hn hl hc ui v;have h2:=Md.aao io at_ n v x;have h3:=Io.Fy io at_ v n k 0 1 0 x bL hM.mod.fair;have h4:(Md.gq io at_ v n 0 1 0 x).2=z:=congrArg Prod.snd hz;rw[hz]at h h2;rw[h4]at h3;exact⟨h,h2,h3⟩
theorem m8(io:Io){x:io.S}(hM:MS io w C L lc lp pb st r x X){len:Nat}{one B:Bool}{y:io.S}(hz:io.au i one x=(B,y))(hi:i=at_+j)(bL:io.ok x.2 (k+1))(ru:Md.WI C L (2^(lc+lp)) at_ len b off)(hj:j<len)(hn:len≤cp)(ui:cp≤9223372036854775807):
  Calls prog 233 #[io.v,.slice (some ⟨b,off,none⟩) len cp,.int .i64 (j:Nat),.bool one] w (jR (.int .i64 (de B)) io C L lc lp pb st r y X w)∧io.ok y.2 k:=by
 subst hi;have h:=Dq io hM (io.le bL aa) (ru.used j hj) (ru.oe j hj) hj hn ui one;have h3:=io.pY (i:=at_+j) (b:=one) bL (hM.mod.fair _);rw[hz]at h h3;exact⟨h,h3⟩
theorem Q4(io:Io){x:io.S}(hM:MS io w C L lc lp pb st r x X){v m q:Nat}{s2:io.σ}(hz:io.plain x.2 (v%2^m) m=(q,s2))(bL:io.ok x.2 (k+32))(hv:v<4294967296)(hm:m≤32):
  Calls prog io.F #[.pointer (some ⟨io.g,0,none⟩),.int .u32 (v:Nat),.int .i64 (m:Nat)] w (jR (.int .u32 (q:Nat)) io C L lc lp pb st r (x.1,s2) X w)∧q<2^m∧io.ok s2 k:=by
 have h:=io.IQ w x.2 X v m hM.io (io.le bL aa) hv hm;have h2:=io.wU (x:=v%2^m) bL hm;have h3:=io.Dp (x:=v%2^m) (m:=m) bL (Nat.mod_lt _ (Nat.pow_pos ak));rw[hz]at h h2 h3;refine⟨h.mono ?_,h3,h2⟩;rintro e w' ⟨rfl,X',ci,dm,BQ⟩;have hC:w'.heap[C]? =w.heap[C]? :=ci.block C hM.mod.Au hM.rt;have hL:w'.heap[L]? =w.heap[L]? :=ci.block L hM.mod.xS hM.ul;refine⟨rfl,X',⟨hM.mod.aA hC hL,dm,fun h=> ?_,fun h=> ?_⟩,⟨ci.os,ci.tape,ci.output,ci.size,fun i hi hX=>ci.block i hi (fun h=>hX dD)⟩,BQ⟩
 ·rcases BQ C h with h | h;·exact hM.rt h
  ·have:=hM.mod.Au;omega
 ·rcases BQ L h with h | h;·exact hM.ul h
  ·have:=hM.mod.xS;omega
theorem Md.mB{len:Nat}(ho:off=8+at_)(h2:at_+len≤432):Md.WI C L n2 at_ len C off:=
 ⟨fun m hm=> .inl aa,fun m hm=>by
  unfold Md.oe Md.gm Md.fI;rw[if_pos aa,if_pos aa];rw[show 8+(at_+m)=off+m by omega]⟩
theorem Md.pZ{len:Nat}(ho:off=9+at_)(h1:432≤at_)(h2:at_+len≤1716):Md.WI C L n2 at_ len C off:=
 ⟨fun m hm=> .inl aa,fun m hm=>by
  unfold Md.oe Md.gm Md.fI;rw[if_pos aa,if_neg aa,if_pos aa];rw[show 9+(at_+m)=off+m by omega]⟩
theorem Md.Fz{len:Nat}(ho:off+119=at_)(h1:1844≤at_)(h2:at_+len≤2180):Md.WI C L n2 at_ len C off:=
 ⟨fun m hm=> .inr ⟨aa,aa⟩,fun m hm=>by
  unfold Md.oe Md.gm Md.fI;rw[if_pos aa,if_neg aa,if_neg aa,if_pos aa];rw[show at_+m-119=off+m by omega]⟩
theorem Md.Q5{len:Nat}(ho:off+2180=at_)(h2:at_+len≤2180+768*n2):Md.WI C L n2 at_ len L off:=
 ⟨fun m hm=> .inr ⟨aa,aa⟩,fun m hm=>by
  unfold Md.oe Md.gm Md.fI;rw[if_neg aa,if_neg aa,if_neg aa,if_neg aa];rw[show at_+m-2180=off+m by omega]⟩
namespace Md
def len(io:Io)(A p:Nat)(l:Int)(x:io.S):Nat×io.S:=
 let y:=io.au A (decide (8≤l-2)) x
 if y.1=false then(2+(tree io (A+2+8*p) 3 (l-2) y.2).1,(tree io (A+2+8*p) 3 (l-2) y.2).2)
 else
  let z:=io.au (A+1) (decide (16≤l-2)) y.2
  if z.1=false then(10+(tree io (A+130+8*p) 3 (l-2-8) z.2).1,(tree io (A+130+8*p) 3 (l-2-8) z.2).2)
  else(18+(tree io (A+258) 8 (l-2-16) z.2).1,(tree io (A+258) 8 (l-2-16) z.2).2)
end Md
def Dt(Q:Prop)(D:Ending→World→Prop)(e:Ending)(w':World):Prop:=D e w'∧Q
theorem IV(io:Io){x:io.S}(hM:MS io w C L lc lp pb st r x X){A p:Nat}{l:Int}{R:Nat}{Z:io.S}(hR:Md.len io A p l x=(R,Z))(bL:io.ok x.2 (k+10))(hA:A=432∨A=946)(hp:p<16)(Q6:0≤l)(xT:l≤300):
  Calls prog 257 #[.pointer (some ⟨C,9+A,none⟩),io.v,.int .i64 (p:Nat),.int .i64 l] w (Dt (2≤R∧R≤273∧io.ok Z.2 k) (jR (.int .i64 (R:Nat)) io C L lc lp pb st r Z X w)):=by
 have AU:(p:Int)<16:=aa;have HA:Hid (A=432∨A=946):=ae hA;unfold Md.len at hR;obtain⟨⟨B,y⟩,hy⟩: ∃z,io.au A (decide (8≤l-2)) x=z:=⟨_,rfl⟩
 obtain⟨h1,sB⟩:=m8 io hM hy (at_:=A) (j:=0) (len:=2) (cp:=2) (b:=C) (off:=9+A) rfl (k:=k+9) bL (Md.pZ rfl aa aa) aa aa aa;rw[hy]at hR;simp only at hR;have H1:=ae h1;have oU:=ae sB;have HR:=ae hR;clear hA bL hy hR h1 sB;go_enter func257,ntmps257;go_wp2_with fail;refine H1.out.mono ?_;rintro e w1 ⟨rfl,X1,p7,jc,hX1⟩;have qq:=ae p7;have MX:=ae (And.intro jc hX1);clear p7 jc hX1 H1;cases B with
 | false=>
  have hb:de false=0:=rfl;rw[hb];have hR:=HR.out;simp only[if_true]at hR;obtain⟨⟨tv,z⟩,hz⟩: ∃q,Md.tree io (A+2+8*p) 3 (l-2) y=q:=⟨_,rfl⟩
  obtain⟨h2,htv,Lw⟩:=wX io qq.out hz (len:=8) (cp:=8) (b:=C) (off:=9+A+2+p*8) (k:=k) (io.le oU.out aa) (Md.pZ aa (am HA.out) (am HA.out)) aa aa aa aa;rw[hz]at hR;injection hR with iE iU;have og:=ae (And.intro iE.symm iU.symm);clear iE iU;have H2:=ae h2;have ael:(tv:Int)<8:=aa;have kN:=ae Lw;clear hz hb h2 Lw;go_wp2_with fail;refine H2.out.mono ?_;rintro e w2 ⟨rfl,xU⟩;go_wp2_with fail;go_ret;obtain⟨e1,e2⟩:=og.out;subst e1 e2;exact⟨⟨aE,gy.trans MX.out.1 MX.out.2 xU⟩,aa,aa,kN.out⟩
 | true=>
  have hb:de true=1:=rfl;rw[hb];have hR:=HR.out;simp only[Bool.true_eq_false,if_false]at hR;obtain⟨⟨B,y2⟩,hy⟩: ∃q,io.au (A+1) (decide (16≤l-2)) y=q:=⟨_,rfl⟩
  obtain⟨h1,sB⟩:=m8 io qq.out hy (at_:=A) (j:=1) (len:=2) (cp:=2) (b:=C) (off:=9+A) rfl (k:=k+8) oU.out (Md.pZ rfl (am HA.out) (am HA.out)) aa aa aa;rw[hy]at hR;simp only at hR;have H1:=ae h1;have ZQ:=ae sB;have HRb:=ae hR;clear hy hR h1 sB hb;go_wp2_with fail;refine H1.out.mono ?_;rintro e w2 ⟨rfl,xU⟩;obtain⟨X2,Hw,fV,MV⟩:=gy.trans MX.out.1 MX.out.2 xU;have Av:=ae Hw;have BS:=ae (And.intro fV MV);clear Hw fV MV H1 xU;cases B with
  | false=>
   have hb:de false=0:=rfl;rw[hb];have hR:=HRb.out;simp only[if_true]at hR;obtain⟨⟨tv,z⟩,hz⟩: ∃q,Md.tree io (A+130+8*p) 3 (l-2-8) y2=q:=⟨_,rfl⟩
   obtain⟨h2,htv,Lw⟩:=wX io Av.out hz (len:=8) (cp:=8) (b:=C) (off:=9+A+130+p*8) (k:=k) (io.le ZQ.out aa) (Md.pZ aa (am HA.out) (am HA.out)) aa aa aa aa;rw[hz]at hR;injection hR with iE iU;have og:=ae (And.intro iE.symm iU.symm);clear iE iU;have H2:=ae h2;have ael:(tv:Int)<8:=aa;have kN:=ae Lw;clear hz hb h2 Lw;go_wp2_with fail;refine H2.out.mono ?_;rintro e w3 ⟨rfl,IW⟩;go_wp2_with fail;go_ret;obtain⟨e1,e2⟩:=og.out;subst e1 e2;exact⟨⟨aE,gy.trans BS.out.1 BS.out.2 IW⟩,aa,aa,kN.out⟩
  | true=>
   have hb:de true=1:=rfl;rw[hb];have hR:=HRb.out;simp only[Bool.true_eq_false,if_false]at hR;obtain⟨⟨tv,z⟩,hz⟩: ∃q,Md.tree io (A+258) 8 (l-2-16) y2=q:=⟨_,rfl⟩
   obtain⟨h2,htv,Lw⟩:=wX io Av.out hz (len:=256) (cp:=256) (b:=C) (off:=9+A+258) (k:=k) (io.le ZQ.out aa) (Md.pZ aa (am HA.out) (am HA.out)) aa aa aa aa;rw[hz]at hR;injection hR with iE iU;have og:=ae (And.intro iE.symm iU.symm);clear iE iU;have H2:=ae h2;have ael:(tv:Int)<256:=aa;have kN:=ae Lw;clear hz hb h2 Lw;go_wp2_with fail;refine H2.out.mono ?_;rintro e w3 ⟨rfl,IW⟩;go_wp2_with fail;go_ret;obtain⟨e1,e2⟩:=og.out;subst e1 e2;exact⟨⟨aE,gy.trans BS.out.1 BS.out.2 IW⟩,aa,aa,kN.out⟩
def gr(d:Nat):Nat:=if d<4 then d else 2*Lib.bitLen d-2+d/2^(Lib.bitLen d-2)%2
theorem sE(h4:4≤d)(h:d<4294967296):3≤Lib.bitLen d∧Lib.bitLen d≤32:=by
 rw[Lib.bitLen_shift 2 d h4 aa];have h5:d/2^2≠0:=aa;rw[Lib.bitLen_half (d/2^2) h5 aa];have h6:d/2^2/2<2^29:=aa;have h7: ∀(f x:Nat),x<2^f→Lib.bitLenAux 64 x≤f∨64<f:=fun f x hx=>by
  by_cases hf:f≤64
  ·left;rw[Lib.bitLenAux_fuel f x hx 64 hf];clear hx hf;induction f generalizing x with
   | zero=>exact Nat.le_refl _
   | succ f ih=>
    unfold Lib.bitLenAux;split;·omega
    ·have:=ih (x/2);omega
  ·right;omega
 have h8:=h7 29 _ h6;unfold Lib.bitLen;omega
theorem FA(h:d<4294967296):gr d<64:=by
 unfold gr;split;·omega
 ·have:=sE (d:=d) aa h;omega
theorem FB(x:Nat)(hx:x<4294967296):bits .and .u32 (x:Int) 1=((x%2:Nat):Int):=by rw[show(1:Int)=((1:Nat):Int)from rfl,u32_and_nat _ _ aa aa,nat_mask1]
theorem Q7(d:Nat)(hd:d<4294967296)(w:World):Calls prog 269 #[.int .u32 (d:Nat)] w fun e w'=>e= .returned (.int .i64 (gr d:Nat))∧w=w':=by
 by_cases h4:d<4
 ·have h4i:(d:Int)<4:=by omega
  have HS:Hid (gr d=d):=ae (by unfold gr;rw[if_pos h4]);rw[HS.out];go_enter func269,ntmps269;go_wp2_with fail;go_ret;exact⟨rfl,rfl⟩
 ·have h4i: ¬(d:Int)<4:=by omega
  obtain⟨n1,n2⟩:=sE (d:=d) aa hd;have HL:=ae (uo (d:Nat) w aa aa);have⟨S,hS⟩:=ex (gr d);rw[hS];unfold gr at hS;rw[if_neg h4]at hS;rw[Int.toNat_natCast]at HL;generalize Lib.bitLen d=n at*;have FC:(3:Int)≤(n:Int):=aa;have qt:(n:Int)≤32:=aa;have HS:=ae hS;clear hS;go_enter func269,ntmps269;go_wp2_with fail;refine HL.out.mono ?_;rintro e w1 ⟨rfl,rfl⟩;go_wp2_with fail;go_ret;refine⟨congrArg (fun n:Int=>Ending.returned (Value.int .i64 n)) ?_,rfl⟩;rw[←HS.out];have e:(d:Int)/2^(n-2)=((d/2^(n-2):Nat):Int):=ag;have hle:d/2^(n-2)≤d:=Nat.div_le_self _ _;rw[e,FB _ aa];unfold wrap64;omega
end Go.Proofs.YtfcaoggfnkhfiaaGreatDoor
