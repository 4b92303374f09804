import Derived.Test.YtfcaoggfnkhfiaaGreatDoorZ02
import Derived.Laws.CopyRow
import Derived.Laws.BitsLemmas
import Derived.Lib.MinMax
import Derived.Laws.BitsAllLaws
namespace Go.Proofs.YtfcaoggfnkhfiaaGreatDoor
set_option maxRecDepth 100000
set_option maxHeartbeats 8000000
open Go.RowKit Go.Proofs.Tryz
variable{a:Addr}{X:List Nat}{C L R at_ b c cp d i j k lc lp n n2 off p pb st tv:Nat}{r r':R4}{w w':Lo}
namespace Md
def yt(c:Nat):Nat:=if c=0 then 1024 else c
theorem Up(h:c<2048):Rc.fair (yt c)=yt c:=by unfold Rc.fair yt;split<;>split<;>omega
theorem ac4(h:c<2048):yt c<2048:=by unfold yt;split<;>omega
theorem ZR(h:c≠0):yt c=c:=by unfold yt;rw[au h]
end Md
def IK(at_:World->List Nat->Prop)(X:List Nat)(a:Addr)(bit:Bool)(p:Nat)(w:Lo)(e:Ending)(w':Lo):Prop:=
 e= .returned (.int .i64 (et bit))/\ ∃w1 X',aM X w w1/\at_ w1 X'/\(∀i∈X',i∈X\/w.heap.size<=i)/\w'=w1.setCell a (.int .u16 p)
def ahU(g:Nat)(s:Rc.St)(w:Lo)(X:List Nat):Prop:= ∃o cap,X=[g,o]/\ib w g o cap s
theorem aw{v:Value}(h:aM X w w')(hX:a.block ∉ X)(hc:w.cell? a=some v):w'.cell? a=some v:=by have hb:a.block<w.heap.size:=block_lt_of_cell hc;have e:=h.block _ hb hX;unfold World.cell? at hc ⊢;rw[e];exact hc
theorem qU{b:Bool}(h:aM X w w')(hX:a.block ∉ X)(hl:a.block<w.heap.size)(hc:w.frozen? a=b):w'.frozen? a=b:=by have e:=h.block _ hl hX;unfold World.frozen? at hc ⊢;rw[e];exact hc
theorem aM.pc{a b:Lo}(h:aM X (a.drewN n) b):aM X a b:=⟨h.os,h.tape,h.output,h.size,h.block⟩
theorem Uq(g o cap:Nat)(s:Rc.St)(b off n cp j c:Nat)(one:Bool)(w:Lo)(hE:ib w g o cap s)(hs:s.ok)(hk:1+s.k+2<=140737488355328)(hX:b ∉ [g,o])(hj:j<n)(hn:n<=cp)(Ae:cp<=9223372036854775807)
  (hc:w.cell? ⟨b,off+j,none⟩=some (.int .u16 c)) (hf:w.frozen? ⟨b,off+j,none⟩=false) (gZ:c<2048):
  Calls prog 233 #[.iface 217 (.pointer (some ⟨g,0,none⟩)),.slice (some ⟨b,off,none⟩) n cp,.int .i64 j,.bool one] w
   (IK (ahU g (Rc.St.scale 2 (s.pick (Md.yt c) one))) [g,o] ⟨b,off+j,none⟩ one (Rc.next (Md.yt c) one) w):=by
 have hm: ∀w,(method 451 217 (.pointer (some ⟨g,0,none⟩)) "Bit").run prog w= .ok (291,.pointer (some ⟨g,0,none⟩)) w:=λw=>ak;have zo:(j:Int)<n:=aa;have qV:(n:Int)<=9223372036854775807:=aa;have sZ:=ae (fun(m:Nat)=>show Calls prog 291 #[.pointer (some ⟨g,0,none⟩),.int .u16 (Md.yt c:Nat),.int .i64 (et one)] (w.drewN m) (Pd (w.drewN m) g o (et one) (Rc.next (Md.yt c) one) (Rc.St.scale 2 (s.pick (Md.yt c) one)))from by
  have II:=ZM g o cap s (BitVec.ofNat 16 (Md.yt c)) (et one) (w.drewN m) ⟨hE.aE,hE.own,hE.ne⟩ hs hk;have e0:(BitVec.ofNat 16 (Md.yt c)).toNat=Md.yt c:=by have:=Md.ac4 gZ;simp;omega
  have e1:(et one !=0)=one:=by cases one<;>rfl
  rw[e0,Md.Up gZ,e1]at II;exact II)
 have HX:=ae hX;have HC:=ae hc;have HF:=ae hf;clear hE hs hk hX hf;have⟨T,hT⟩:=ex (Rc.St.scale 2 (s.pick (Md.yt c) one));rw[hT]at sZ ⊢;have⟨N,hN⟩:=ex (Rc.next (Md.yt c) one);rw[hN]at sZ ⊢;clear hT hN;by_cases h0:c=0
 ·subst h0;rw[show Md.yt 0=1024 from rfl]at sZ;cases one
  all_goals
   simp only[et,Bool.false_eq_true,if_false,if_true]at sZ;go_enter func233,ntmps233;go_wp2;go_quiet (fail);go_wp2_with fail;refine(sZ _).mono ?_;rintro e w1 ⟨rfl,o',bW,vq,dm,Fw⟩;have xD:=aM.pc dm;have dE:=aw xD HX.out HC.out;have ZJ:=qU xD HX.out (block_lt_of_cell HC.out) HF.out;go_wp2;go_ret;exact⟨rfl,w1,[g,o'],xD,⟨o',bW,rfl,vq⟩,by intro i hi;simp at hi;rcases hi with rfl|rfl;exact .inl ah;rcases Fw with h|h;exact .inl fO;exact .inr h,rfl⟩
 ·rw[Md.ZR h0]at sZ;have h0i:(c:Int)≠0:=aa;have h0b:((c:Int)==0)=false:=beq_eq_false_iff_ne.2 h0i;cases one
  all_goals
   simp only[et,Bool.false_eq_true,if_false,if_true]at sZ;go_enter func233,ntmps233;go_wp2;go_quiet (fail);go_wp2_with fail;refine(sZ _).mono ?_;rintro e w1 ⟨rfl,o',bW,vq,dm,Fw⟩;have xD:=aM.pc dm;have dE:=aw xD HX.out HC.out;have ZJ:=qU xD HX.out (block_lt_of_cell HC.out) HF.out;go_wp2;go_ret;exact⟨rfl,w1,[g,o'],xD,⟨o',bW,rfl,vq⟩,by intro i hi;simp at hi;rcases hi with rfl|rfl;exact .inl ah;rcases Fw with h|h;exact .inl fO;exact .inr h,rfl⟩
namespace Md
def iK(C L i:Nat):Nat:=if i<2180 then C else L
def ic(i:Nat):Nat:=if i<432 then 8+i else if i<1844 then 9+i else if i<2180 then i-119 else i-2180
def qk(C L i:Nat):Addr:=⟨iK C L i,ic i,none⟩
def used(n i:Nat):Prop:=i<1716\/(1844<=i/\i<2180+768*n)
theorem Bm(C L i:Nat):iK C L i=C\/iK C L i=L:=by
 unfold iK;split;·exact .inl rfl
 ·exact .inr rfl
theorem ZS(fj:C≠L)(hi:used n i)(hj:used n j)(h:qk C L i=qk C L j):i=j:=by
 unfold used at hi hj;have h1:iK C L i=iK C L j:=aR Addr.block h;have h2:ic i=ic j:=aR Addr.off h;have h3:i<2180↔j<2180:=by
  unfold iK at h1;by_cases h4:i<2180<;>by_cases h5:j<2180<;>simp[h4,h5]at h1 ⊢;·exact fj h1
  ·exact fj h1.symm
 unfold ic at h2;by_cases a1:i<432<;>by_cases a2:i<1844<;>by_cases a3:i<2180<;>by_cases b1:j<432<;>by_cases b2:j<1844<;>by_cases b3:j<2180<;>simp only[a1,a2,a3,b1,b2,b3,if_true,if_false]at h2<;>omega
theorem Pg(fj:C≠L)(hk:k<8\/k=440):qk C L i≠⟨C,k,none⟩:=by
 intro h;have h1:iK C L i=C:=aR Addr.block h;have h2:ic i=k:=aR Addr.off h;have h3:i<2180:=by
  unfold iK at h1;by_cases h4:i<2180;·exact h4
  ·rw[au h4]at h1;exact absurd h1.symm fj
 unfold ic at h2;by_cases a1:i<432<;>by_cases a2:i<1844<;>simp only[a1,a2,h3,if_true,if_false]at h2<;>omega
def put(P:Nat->Nat)(i p:Nat):Nat->Nat:=λj=>if j=i then p else P j
end Md
structure Io where
 σ:Type
 t:TypeId
 g:Nat
 F:Nat
 at_:World->σ->List Nat->Prop
 ok:σ->Nat->Prop
 bit:σ->Nat->Bool->Bool×σ
 plain:σ->Nat->Nat->Nat×σ
 aU: ∀{w w' s X},at_ w s X->w.heap.size<=w'.heap.size->(∀i∈X,w'.heap[i]? =w.heap[i]?)->at_ w' s X
 lt: ∀{w s X},at_ w s X-> ∀i∈X,i<w.heap.size
 abw: ∀{s n p b},ok s (n+1)->1<=p->p<=2047->ok (bit s p b).2 n
 FW: ∀{s n x m},ok s (n+32)->m<=32->ok (plain s x m).2 n
 le: ∀{s n m},ok s n->m<=n->ok s m
 Ph: ∀{s n x m},ok s n->x<2^m->(plain s x m).1<2^m
 kind:F=292\/F=299
 ahW: ∀w,(method 451 t (.pointer (some ⟨g,0,none⟩)) "Plain").run prog w= .ok (F,.pointer (some ⟨g,0,none⟩)) w
 code: ∀(w:Lo) (s:σ) (X:List Nat) (b off n cp j c:Nat) (one:Bool),at_ w s X->ok s 1->b ∉ X->j<n->n<=cp->cp<=9223372036854775807->w.cell? ⟨b,off+j,none⟩=some (.int .u16 c)->w.frozen? ⟨b,off+j,none⟩=false->c<2048->
  Calls prog 233 #[.iface t (.pointer (some ⟨g,0,none⟩)),.slice (some ⟨b,off,none⟩) n cp,.int .i64 j,.bool one] w
   (IK (λw' X'=>at_ w' (bit s (Md.yt c) one).2 X') X ⟨b,off+j,none⟩ (bit s (Md.yt c) one).1 (Rc.next (Md.yt c) (bit s (Md.yt c) one).1) w)
 Ur: ∀(w:Lo) (s:σ) (X:List Nat) (x m:Nat),at_ w s X->ok s 32->x<4294967296->m<=32->
  Calls prog F #[.pointer (some ⟨g,0,none⟩),.int .u32 (x:Nat),.int .i64 (m:Nat)] w
   (λe w'=>e= .returned (.int .u32 ((plain s (x%2^m) m).1:Nat))/\ ∃X',aM X w w'/\at_ w' (plain s (x%2^m) m).2 X'/\ ∀i∈X',i∈X\/w.heap.size<=i)
abbrev Io.v(io:Io):Value:= .iface io.t (.pointer (some ⟨io.g,0,none⟩))
abbrev Io.S(io:Io):Type:=(Nat->Nat)×io.σ
def Io.aD(io:Io)(i:Nat)(b:Bool)(x:io.S):Bool×io.S:=((io.bit x.2 (x.1 i) b).1,(Md.put x.1 i (Rc.next (x.1 i) (io.bit x.2 (x.1 i) b).1),(io.bit x.2 (x.1 i) b).2))
def ao(g:Nat):Io where
 σ:=Rc.St
 t:=217
 g:=g
 F:=292
 at_ w s X:= ∃o cap,X=[g,o]/\ib w g o cap s
 ok s n:=s.ok/\1+s.k+2*n<=140737488355328
 bit s p b:=(b,Rc.St.scale 2 (s.pick p b))
 plain s x m:=(x,s.plain x m)
 aU:=by rintro w w' s X ⟨o,cap,rfl,h⟩ _ hk;exact⟨o,cap,rfl,h.aU (hk g ah) (hk o ah)⟩
 lt:=by
  rintro w s X ⟨o,cap,rfl,h⟩ i hi;simp at hi;rcases hi with rfl|rfl;·exact h.lt.1
  ·exact h.lt.2
 abw:=by rintro s n p b ⟨h1,h2⟩ h3 h4;obtain⟨hf,hr⟩:=s.od p b h1 h3 h4;have hk:=Rc.St.Pe 2 (s.pick p b);rw[Rc.St.ac0]at hk;exact⟨Rc.St.IG 2 _ hf aa,by show 1+(Rc.St.scale 2 (s.pick p b)).k+2*n<=_;omega⟩
 FW:=by rintro s n x m ⟨h1,h2⟩ h3;obtain⟨hf,hk⟩:=s.Bk h1 m x;exact⟨hf,by show 1+(s.plain x m).k+2*n<=_;omega⟩
 le:=by rintro s n m ⟨h1,h2⟩ h;exact⟨h1,aa⟩
 Ph:=by rintro s n x m _ h;exact h
 kind:= .inl rfl
 ahW w:=ak
 code:=by rintro w s X b off n cp j c one ⟨o,cap,rfl,h⟩ ⟨h1,h2⟩ hX hj hn Ae hc hf gZ;exact Uq g o cap s b off n cp j c one w h h1 aa hX hj hn Ae hc hf gZ
 Ur:=by
  rintro w s X x m ⟨o,cap,rfl,h⟩ ⟨h1,h2⟩ hx hm;have hp:=QB g o cap s (BitVec.ofNat 32 x) (m:Nat) w h h1 aa;have e0:(BitVec.ofNat 32 x).toNat=x:=aH;have e1:many (m:Nat)=m:=by unfold many;omega
  rw[e0,e1]at hp;refine hp.mono ?_;rintro e w' ⟨rfl,o',bW,hE,dm,ho⟩;exact⟨rfl,[g,o'],dm,⟨o',bW,rfl,hE⟩,by intro i hi;simp at hi;rcases hi with rfl|rfl;exact .inl ah;rcases ho with h|h;exact .inl fO;exact .inr h⟩
section
abbrev dO(lc lp pb st:Nat)(r:R4):List Value:=[.int .i64 lc,.int .i64 lp,.int .i64 pb,.int .i64 st,.int .i64 r.1,.int .i64 r.2.1,.int .i64 r.2.2.1,.int .i64 r.2.2.2]
structure dp(w:Lo)(C L lc lp pb st:Nat)(r:R4)(P:Nat->Nat):Prop where
 box: ∃T:List Value,w.heap[C]? =some (.cells (dO lc lp pb st r++T).toArray 171 (0,0))/\T.length=2053
 lits: ∃l:List Value,w.heap[L]? =some (.cells l.toArray 317 (0,0))/\l.length=768*2^(lc+lp)
 lit:w.cell? ⟨C,440,none⟩=some (.slice (some ⟨L,0,none⟩) (2^(lc+lp)) (2^(lc+lp)))
 ne:C≠L
 xF: ∀i,Md.used (2^(lc+lp)) i-> ∃c:Nat,w.cell? (Md.qk C L i)=some (.int .u16 c)/\Md.yt c=P i
 fair: ∀i,1<=P i/\P i<=2047
theorem Md.QC{c p:Nat}(h:yt c=p)(hp:p<=2047):c<2048:=by unfold yt at h;split at h<;>omega
section
variable{w w':Lo}{C L lc lp pb st:Nat}{r:R4}{P:Nat->Nat}
theorem dp.Hq(h:dp w C L lc lp pb st r P):C<w.heap.size:=by obtain⟨T,hT,_⟩:=h.box;exact(bU hT)
theorem dp.FX(h:dp w C L lc lp pb st r P):L<w.heap.size:=by obtain⟨T,hT,_⟩:=h.lits;exact(bU hT)
theorem dp.aU(h:dp w C L lc lp pb st r P)(hC:w'.heap[C]? =w.heap[C]?)(hL:w'.heap[L]? =w.heap[L]?):dp w' C L lc lp pb st r P:=by
 obtain⟨T,hT,pd⟩:=h.box;obtain⟨l,hl,xa⟩:=h.lits;refine⟨⟨T,hC.trans hT,pd⟩,⟨l,hL.trans hl,xa⟩,?_,h.ne,λi hi=> ?_,h.fair⟩;·have:=h.lit;unfold World.cell? at this ⊢;rw[hC];exact this
 ·obtain⟨c,hc,he⟩:=h.xF i hi;refine⟨c,?_,he⟩;unfold World.cell? at hc ⊢;have hb:w'.heap[(Md.qk C L i).block]? =w.heap[(Md.qk C L i).block]? :=by
   rcases Md.Bm C L i with e|e;·rw[show(Md.qk C L i).block=C from e];exact hC
   ·rw[show(Md.qk C L i).block=L from e];exact hL
  rw[hb];exact hc
theorem dp.kR(h:dp w C L lc lp pb st r P)(k:Nat):w.frozen? ⟨C,k,none⟩=false:=by obtain⟨T,hT,_⟩:=h.box;exact aS _ _ _ _ _ hT
theorem dp.ZT(h:dp w C L lc lp pb st r P)(k:Nat):w.frozen? ⟨L,k,none⟩=false:=by obtain⟨T,hT,_⟩:=h.lits;exact aS _ _ _ _ _ hT
theorem dp.ZU(h:dp w C L lc lp pb st r P)(i:Nat):w.frozen? (Md.qk C L i)=false:=by
 unfold Md.qk;rcases Md.Bm C L i with e|e;·rw[e];exact h.kR _
 ·rw[e];exact h.ZT _
theorem dp.cells(h:dp w C L lc lp pb st r P):w.cell? ⟨C,0,none⟩=some (.int .i64 lc)/\w.cell? ⟨C,1,none⟩=some (.int .i64 lp)/\w.cell? ⟨C,2,none⟩=some (.int .i64 pb)/\w.cell? ⟨C,3,none⟩=some (.int .i64 st)/\
  w.cell? ⟨C,4,none⟩=some (.int .i64 r.1)/\w.cell? ⟨C,5,none⟩=some (.int .i64 r.2.1)/\w.cell? ⟨C,6,none⟩=some (.int .i64 r.2.2.1)/\w.cell? ⟨C,7,none⟩=some (.int .i64 r.2.2.2):=by
 obtain⟨T,hT,_⟩:=h.box;refine⟨?_,?_,?_,?_,?_,?_,?_,?_⟩<;>(rw[aC w _ _ _ _ _ hT];simp)
theorem dp.QD(h:dp w C L lc lp pb st r P){i p:Nat}(hi:Md.used (2^(lc+lp)) i)(h1:1<=p)(h2:p<=2047):dp (w.setCell (Md.qk C L i) (.int .u16 p)) C L lc lp pb st r (Md.put P i p):=by
 obtain⟨T,hT,pd⟩:=h.box;obtain⟨l,hl,xa⟩:=h.lits;have cZ:(w.setCell (Md.qk C L i) (.int .u16 p)).cell? (Md.qk C L i)=some (.int .u16 p):=by obtain⟨c,hc,_⟩:=h.xF i hi;exact World.cell?_setCell_same _ _ _ hc
 have Us: ∀a:Addr,a≠Md.qk C L i->(w.setCell (Md.qk C L i) (.int .u16 p)).cell? a=w.cell? a:=λa ha=>World.cell?_setCell_other _ _ _ _ (λe=>ha e.symm);refine⟨?_,?_,?_,h.ne,λj hj=> ?_,λj=> ?_⟩
 ·by_cases h3:i<2180;·have hk:8<=Md.ic i:=(by unfold Md.ic Md.used at*;by_cases a1:i<432<;>by_cases a2:i<1844<;>simp only[a1,a2,h3,if_true,if_false]<;>omega);refine⟨T.set (Md.ic i-8) (.int .u16 p),?_,by rw[List.length_set];exact pd⟩;unfold Md.qk Md.iK;rw[ax h3,heap_set hT];rw[List.set_append_right _ _ uZ];rfl
  ·refine⟨T,?_,pd⟩;unfold Md.qk Md.iK;rw[au h3];exact(af _ _ _ _ h.ne).trans hT
 ·by_cases h3:i<2180;·refine⟨l,?_,xa⟩;unfold Md.qk Md.iK;rw[ax h3];exact(af _ _ _ _ (λe=>h.ne e.symm)).trans hl
  ·refine⟨l.set (Md.ic i) (.int .u16 p),?_,by rw[List.length_set];exact xa⟩;unfold Md.qk Md.iK;rw[au h3];exact heap_set hl _ _
 ·rw[Us _ (λe=>Md.Pg h.ne (.inr rfl) e.symm)];exact h.lit
 ·by_cases zo:j=i;·subst zo;refine⟨p,cZ,?_⟩;unfold Md.put Md.yt;rw[ax rfl,au aa]
  ·obtain⟨c,hc,he⟩:=h.xF j hj;refine⟨c,?_,?_⟩;·rw[Us _ (λe=>zo (Md.ZS h.ne hj hi e))];exact hc
   ·unfold Md.put;rw[au zo];exact he
 ·unfold Md.put;split;·exact⟨h1,h2⟩
  ·exact h.fair j
theorem dp.jT(h:dp w C L lc lp pb st r P){k st':Nat}{r':R4}{v:Value}(hk:k<8)(hh:(dO lc lp pb st r).set k v=dO lc lp pb st' r'):dp (w.setCell ⟨C,k,none⟩ v) C L lc lp pb st' r' P:=by
 obtain⟨T,hT,pd⟩:=h.box;obtain⟨l,hl,xa⟩:=h.lits;have Us: ∀a:Addr,a≠⟨C,k,none⟩->(w.setCell ⟨C,k,none⟩ v).cell? a=w.cell? a:=λa ha=>World.cell?_setCell_other _ _ _ _ (λe=>ha e.symm);refine⟨⟨T,?_,pd⟩,⟨l,(af _ _ _ _ (λe=>h.ne e.symm)).trans hl,xa⟩,?_,h.ne,λi hi=> ?_,h.fair⟩;·rw[heap_set hT,List.set_append_left _ _ uZ,hh]
 ·rw[Us _ (λe=>by have:=aR Addr.off e;simp at this;omega)];exact h.lit
 ·obtain⟨c,hc,he⟩:=h.xF i hi;exact⟨c,(Us _ (Md.Pg h.ne (.inl hk))).trans hc,he⟩
end
theorem Rc.np{p:Nat}(h1:1<=p)(h2:p<=2047)(b:Bool):1<=Rc.next p b/\Rc.next p b<=2047:=by unfold Rc.next;cases b<;>simp<;>omega
structure MS(io:Io)(w:Lo)(C L lc lp pb st:Nat)(r:R4)(x:io.S)(X:List Nat):Prop where
 mod:dp w C L lc lp pb st r x.1
 io:io.at_ w x.2 X
 vt:C ∉ X
 zp:L ∉ X
def iY(io:Io)(C L lc lp pb st:Nat)(r:R4)(x:io.S)(X:List Nat)(w w':Lo):Prop:=
 ∃X',MS io w' C L lc lp pb st r x X'/\aM (C::L::X) w w'/\ ∀i∈X',i∈X\/w.heap.size<=i
def lK(v:Value)(io:Io)(C L lc lp pb st:Nat)(r:R4)(x:io.S)(X:List Nat)(w:Lo)(e:Ending)(w':Lo):Prop:=e= .returned v/\iY io C L lc lp pb st r x X w w'
theorem aM.cJ{X:List Nat}{w w':Lo}(h:Below w.heap.size w w'):aM X w w':=⟨h.os,h.tape,h.output,h.size,λi hi _=>h.block i hi⟩
theorem iY.trans{io:Io}{C L lc lp pb st':Nat}{r':R4}{x':io.S}{X X1:List Nat}{w w1 w2:Lo}(dm:aM (C::L::X) w w1)(hX: ∀i∈X1,i∈X\/w.heap.size<=i)(h:iY io C L lc lp pb st' r' x' X1 w1 w2):iY io C L lc lp pb st' r' x' X w w2:=by
 obtain⟨X2,hM,dv,Pi⟩:=h;refine⟨X2,hM,dm.trans dv ?_,λi hi=> ?_⟩
 ·intro i hi;simp only[dc]at hi ⊢;rcases hi with rfl|rfl|hi;·exact .inl (.inl rfl)
  ·exact .inl (.inr (.inl rfl))
  ·rcases hX i hi with h|h;·exact .inl (.inr (.inr h))
   ·exact .inr h
 ·rcases Pi i hi with h|h;·exact hX i h
  ·exact .inr (a8 dm.size h)
theorem MS.below{io:Io}{w w':Lo}{C L lc lp pb st:Nat}{r:R4}{x:io.S}{X:List Nat}(h:MS io w C L lc lp pb st r x X)(hb:Below w.heap.size w w'):MS io w' C L lc lp pb st r x X:=
 ⟨h.mod.aU (hb.block _ h.mod.Hq) (hb.block _ h.mod.FX),io.aU h.io hb.size (λi hi=>hb.block i (io.lt h.io i hi)),h.vt,h.zp⟩
theorem MS.drewN{io:Io}{w:Lo}{C L lc lp pb st:Nat}{r:R4}{x:io.S}{X:List Nat}(h:MS io w C L lc lp pb st r x X)(n:Nat):MS io (w.drewN n) C L lc lp pb st r x X:=h.below (below_drewN (aP _ _) n)
section
variable{io:Io}{w:Lo}{C L lc lp pb st:Nat}{r:R4}{x:io.S}{X:List Nat}
theorem MS.bS(h:MS io w C L lc lp pb st r x X){b k:Nat}(hb:b ∉ C::L::X)(u:Value):MS io (w.setCell ⟨b,k,none⟩ u) C L lc lp pb st r x X:=by simp only[dc,not_or]at hb;exact⟨h.mod.aU (af _ _ _ _ (λe=>hb.1 e.symm)) (af _ _ _ _ (λe=>hb.2.1 e.symm)),io.aU h.io ah (λi hi=>af _ _ _ _ (λe=>hb.2.2 Fx)),h.vt,h.zp⟩
theorem MS.jT(h:MS io w C L lc lp pb st r x X){k st':Nat}{r':R4}{v:Value}(hk:k<8)(hh:(dO lc lp pb st r).set k v=dO lc lp pb st' r'):MS io (w.setCell ⟨C,k,none⟩ v) C L lc lp pb st' r' x X:=
 ⟨h.mod.jT hk hh,io.aU h.io ah (λi hi=>af _ _ _ _ (λe=>h.vt Fx)),h.vt,h.zp⟩
end
theorem FY(io:Io){C L lc lp pb st:Nat}{r:R4}{x:io.S}{X:List Nat}{w:Lo}(hM:MS io w C L lc lp pb st r x X)(bK:io.ok x.2 1){i b off n cp j:Nat}(hi:Md.used (2^(lc+lp)) i)(ha:Md.qk C L i=⟨b,off+j,none⟩)(hj:j<n)(hn:n<=cp)(Ae:cp<=9223372036854775807)(one:Bool):
  Calls prog 233 #[io.v,.slice (some ⟨b,off,none⟩) n cp,.int .i64 j,.bool one] w (lK (.int .i64 (et (io.aD i one x).1)) io C L lc lp pb st r (io.aD i one x).2 X w):=by
 obtain⟨c,hc,he⟩:=hM.mod.xF i hi;have Bn:=hM.mod.fair i;have hf:=hM.mod.ZU i;rw[ha]at hc hf;have hb:b=C\/b=L:=by have:=Md.Bm C L i;have e:Md.iK C L i=b:=aR Addr.block ha;rw[e]at this;exact this
 have lX:b ∉ X:=by
  rcases hb with rfl|rfl;·exact hM.vt
  ·exact hM.zp
 have Ed:=io.code w x.2 X b off n cp j c one hM.io bK lX hj hn Ae hc hf (Md.QC he Bn.2);rw[he]at Ed;refine Ed.mono ?_;rintro e w' ⟨rfl,w1,X',dm,cZ,ZV,rfl⟩;have hC:w1.heap[C]? =w.heap[C]? :=dm.block C hM.mod.Hq hM.vt;have hL:w1.heap[L]? =w.heap[L]? :=dm.block L hM.mod.FX hM.zp;have fc:=hM.mod.aU hC hL;obtain⟨n1,n2⟩:=Rc.np Bn.1 Bn.2 (io.bit x.2 (x.1 i) one).1;have fm:=fc.QD hi n1 n2;rw[ha]at fm;have vt:C ∉ X':=λh=>by
  rcases ZV C h with h|h;·exact hM.vt h
  ·have:=hM.mod.Hq;omega
 have zp:L ∉ X':=λh=>by
  rcases ZV L h with h|h;·exact hM.zp h
  ·have:=hM.mod.FX;omega
 have aoG:b ∉ X':=by
  rcases hb with rfl|rfl;·exact vt
  ·exact zp
 refine⟨rfl,X',⟨fm,io.aU cZ ah (λi hi=>af _ _ _ _ (λe=>aoG Fx)),vt,zp⟩,?_,ZV⟩;have dv:aM (C::L::X) w w1:=⟨dm.os,dm.tape,dm.output,dm.size,λk hk hX=>dm.block k hk (λh=>hX fO)⟩
 exact dv.setCell (p:=⟨b,off+j,none⟩) (.inl (by rcases hb with rfl|rfl<;>simp)) _
end
section
theorem jU{P:Program}{ops:Array Oper}{o:Oper}{a:Act}{w:Lo}{K:Act->World->Prop}{Q:Exit->Act->World->Prop}{E:Prop}(oV:o.guard=none)(d s:Operand)(dT sT:TypeId)
  (ho:o.op= .call {callee:= .builtin .copy,args:= #[d,s],argTypes:= #[dT,sT]}) (elem:TypeId) (hu:P.underlying dT=some (.slice elem)) (dF:(P.info? elem).map (·.size)=some 1)
  (g off QE n ac5 ac6:Nat) (hd:a.eval d= .slice (some ⟨g,off,none⟩) n ac5) (hs:a.eval s= .slice (some ⟨g,QE,none⟩) n ac6) (cur:List Value) (t:TypeId) (hg:w.heap[g]? =some (.cells cur.toArray t (0,0)))
  (cs:List Value) (hn:cs.length=n) (iO: ∀j,j<cs.length->cs[j]? =cur[QE+j]?) (bY:off+cs.length<=cur.length) (h1: ∀v∈cs,v.oneCell'=true)
  (h: ∀w',w'.heap[g]? =some (.cells (cur.take off++cs++cur.drop (off+cs.length)).toArray t (0,0))->aM [g] w w'->K (a.put o.dst (goInt cs.length)) w'):
  if Region.wanted o (yielded ops a.tmps)=true then Oper.wp P o a w K Q else E:=by
 have hw:Region.wanted o (yielded ops a.tmps)=true:=nH;rw[ax hw];by_cases h0:cs.length=0;·obtain rfl:cs=[]:=mm h0;have FZ:=run_copy_none (P:=P) w dT sT o.type elem (some ⟨g,off,none⟩) (some ⟨g,QE,none⟩) n ac5 n ac6 hu dF (by simp at hn;rw[<-hn];rfl);unfold Oper.wp;simp[execOp,ho,resolve,invoke,builtin,hd,hs,FZ,Result.andThen];exact h w (by simpa using hg) (aM.refl _ _)
 ·have FZ:=run_copy_row (P:=P) w dT sT o.type elem g off n ac5 ⟨g,QE,none⟩ n ac6 cur.toArray t cs hu dF hg (by rw[hn];exact(Nat.min_self n).symm) (by
   intro j v hj;have qu:j<cs.length:=(List.getElem?_eq_some_iff.1 hj).1;have e:((⟨g,QE,none⟩:Addr).add j)=⟨g,QE+j,none⟩:=oa;rw[e,aC w g _ _ _ _ hg,List.getElem?_toArray,<-iO j qu,hj]) (by simpa using bY) h1
  unfold Oper.wp;simp[execOp,ho,resolve,invoke,builtin,hd,hs,FZ,Result.andThen];refine h _ (by simpa using setRow_heap w g _ _ t _ hg) ⟨rfl,rfl,rfl,ah,λi _ hX=>setRow_other w g i _ (by simpa using hX)⟩
section
variable{w w':Lo}{C L lc lp pb st st':Nat}{r r':R4}{P:Nat->Nat}
theorem dp.Ag(h:dp w C L lc lp pb st r P){T:List Value}(hT:w.heap[C]? =some (.cells (dO lc lp pb st r++T).toArray 171 (0,0)))(hT':w'.heap[C]? =some (.cells (dO lc lp pb st' r'++T).toArray 171 (0,0)))(hL:w'.heap[L]? =w.heap[L]?):dp w' C L lc lp pb st' r' P:=by
 obtain⟨T2,ua,pd⟩:=h.box;obtain⟨l,hl,xa⟩:=h.lits;have hTT:T.length=2053:=by rw[hT]at ua;injection ua with h1;injection h1 with h1 _ _;have:=aR Array.size h1;simp at this;omega
 have IL: ∀k,8<=k->w'.cell? ⟨C,k,none⟩=w.cell? ⟨C,k,none⟩:=λk hk=>by rw[aC w' _ _ _ _ _ hT',aC w _ _ _ _ _ hT,List.getElem?_toArray,List.getElem?_toArray,lH uZ,lH uZ];rfl
 refine⟨⟨T,hT',hTT⟩,⟨l,hL.trans hl,xa⟩,(IL 440 ar).trans h.lit,h.ne,λi hi=> ?_,h.fair⟩;obtain⟨c,hc,he⟩:=h.xF i hi;refine⟨c,?_,he⟩;rw[<-hc];by_cases h3:i<2180
 ·have ha:Md.qk C L i=⟨C,Md.ic i,none⟩:=by unfold Md.qk Md.iK;rw[ax h3]
  rw[ha];exact IL _ (by unfold Md.ic Md.used at*;by_cases a1:i<432<;>by_cases a2:i<1844<;>simp only[a1,a2,h3,if_true,if_false]<;>omega)
 ·have ha:Md.qk C L i=⟨L,Md.ic i,none⟩:=by unfold Md.qk Md.iK;rw[au h3]
  rw[ha];unfold World.cell?;rw[hL]
end
theorem Ah(g n:Nat)(h:n<=3)(w:Lo):(Instr.sliceAt 152 (.pointer (some ⟨g,4,none⟩)) (some (.int .i64 1)) (some (.int .i64 (n+1:Nat))) none).run prog w= .ok (.slice (some ⟨g,5,none⟩) n 3) w:=by have hs:(sizeOf (prog.elem 152)).run prog w= .ok 1 w:=ak;rw[run_sliceAt_array_lh w 152 ⟨g,4,none⟩ ZH .i64 .i64 1 (n+1:Nat) ar aa (by rw[Im];omega),hs,Im];simp only[Result.andThen,slicedAt,Int.toNat_natCast,Nat.mul_one];rw[au ar,show(1:Int).toNat=1 from rfl,Addr.add_mid,Nat.add_sub_cancel]
theorem F0(g n:Nat)(h:n<=4)(w:Lo):(Instr.sliceAt 152 (.pointer (some ⟨g,4,none⟩)) none (some (.int .i64 n)) none).run prog w= .ok (.slice (some ⟨g,4,none⟩) n 4) w:=by have hs:(sizeOf (prog.elem 152)).run prog w= .ok 1 w:=ak;rw[run_sliceAt_array_h w 152 ⟨g,4,none⟩ ZH .i64 n aa (by rw[Im];omega),hs,Im];simp only[Result.andThen,slicedAt,Int.toNat_natCast,Nat.mul_one,Nat.sub_zero];rw[au ar];simp[Addr.add]
def ie(r:R4)(which:Nat)(d:Int):R4:=match which with
 | 0=>(d,r.2.1,r.2.2.1,r.2.2.2)
 | 1=>(d,r.1,r.2.2.1,r.2.2.2)
 | 2=>(d,r.1,r.2.1,r.2.2.2)
 | _=>(d,r.1,r.2.1,r.2.2.1)
def og(C L lc lp pb st:Nat)(r:R4)(P:Nat->Nat)(w:Lo)(e:Ending)(w':Lo):Prop:=e= .returned (.tuple #[])/\dp w' C L lc lp pb st r P/\aM [C] w w'
theorem ZW{C L lc lp pb st:Nat}{r:R4}{P:Nat->Nat}{w:Lo}(hM:dp w C L lc lp pb st r P)(d:Int):Calls prog 259 #[PF C,.int .i64 0,.int .i64 d] w (og C L lc lp pb st (d,r.2.1,r.2.2.1,r.2.2.2) P w):=by
 obtain⟨T,hT,pd⟩:=hM.box;have HT:=ae hT;have HTL:=ae pd;have HM:=ae hM;have q1: ∀w,(Instr.sliceAt 152 (.pointer (some ⟨C,4,none⟩)) (some (.int .i64 1)) (some (.int .i64 1)) none).run prog w= .ok (.slice (some ⟨C,5,none⟩) 0 3) w:=λw=>Ah C 0 ar w;have q2: ∀w,(Instr.sliceAt 152 (.pointer (some ⟨C,4,none⟩)) none (some (.int .i64 0)) none).run prog w= .ok (.slice (some ⟨C,4,none⟩) 0 4) w:=λw=>F0 C 0 ar w;have ub:IntKind.i64.wrap 1=1:=ar;have yu:w.drew.heap[C]? =some (.cells (dO lc lp pb st r++T).toArray 171 (0,0)):=hT;have hlen:(dO lc lp pb st r++T).length=2061:=by simp[pd]
 have bY:5+0<=(dO lc lp pb st r++T).length:=aa;clear hM hT pd hlen;go_enter func259,ntmps259;go_upto_region 0 with fail;refine wp_region_held_drew (S:=λ_=>True) ak trivial (λhS=> ?_);refine ag 0 hS (h:=ag 1 hS (h:=ag 2 hS (h:=ag 3 hS (h:=ag 4 hS (h:=ag 5 hS (h:=ag 6 hS (h:=ag 7 hS (h:=ag 8 hS (h:=ag 9 hS (h:=ag 10 hS (h:= ?_)))))))))));refine aO 11 (λK hK=> ?_);refine jU rfl (.tmp 11) (.tmp 16) 172 172 rfl 3 underlying172 ak C 5 4 0 _ _ rfl rfl (dO lc lp pb st r++T) 171 yu ([]) rfl ah bY ah ?_;intro w4 dq bM;simp only[Act.put];refine hK _ _ trivial (λ_=> ?_);clear hK K;refine wpAnyH_done ak ?_ _;have ig:w4.heap[C]? =some (.cells (dO lc lp pb st (r.1,r.2.1,r.2.2.1,r.2.2.2)++T).toArray 171 (0,0)):=dq;have dm:aM [C] w w4:=⟨bM.os,bM.tape,bM.output,bM.size,bM.block⟩
 have kf:dp w4 C L lc lp pb st (r.1,r.2.1,r.2.2.1,r.2.2.2) P:=HM.Ag HT.out ig (dm.block L HM.FX Fy);obtain⟨_,_,_,_,c4,_⟩:=kf.cells;have f4:=kf.kR 4;have Dz:=ae kf;have pf:=ae dm;clear yu bY dq bM ig dm kf q1 q2 ub;go_wp2_with fail;refine bodyPost_ret_by (results_none rfl _ _ _) rfl ⟨rfl,?_,?_⟩;·exact Dz.jT (k:=4) (st':=st) (r':=(d,r.2.1,r.2.2.1,r.2.2.2)) ar rfl
 ·exact pf.setCell (p:=⟨C,4,none⟩) (.inl ah) _
theorem ZX{C L lc lp pb st:Nat}{r:R4}{P:Nat->Nat}{w:Lo}(hM:dp w C L lc lp pb st r P)(d:Int):Calls prog 259 #[PF C,.int .i64 1,.int .i64 d] w (og C L lc lp pb st (d,r.1,r.2.2.1,r.2.2.2) P w):=by
 obtain⟨T,hT,pd⟩:=hM.box;have HT:=ae hT;have HTL:=ae pd;have HM:=ae hM;have q1: ∀w,(Instr.sliceAt 152 (.pointer (some ⟨C,4,none⟩)) (some (.int .i64 1)) (some (.int .i64 2)) none).run prog w= .ok (.slice (some ⟨C,5,none⟩) 1 3) w:=λw=>Ah C 1 ar w;have q2: ∀w,(Instr.sliceAt 152 (.pointer (some ⟨C,4,none⟩)) none (some (.int .i64 1)) none).run prog w= .ok (.slice (some ⟨C,4,none⟩) 1 4) w:=λw=>F0 C 1 ar w;have ub:IntKind.i64.wrap 2=2:=ar;have yu:w.drew.heap[C]? =some (.cells (dO lc lp pb st r++T).toArray 171 (0,0)):=hT;have hlen:(dO lc lp pb st r++T).length=2061:=by simp[pd]
 have bY:5+1<=(dO lc lp pb st r++T).length:=aa;clear hM hT pd hlen;go_enter func259,ntmps259;go_upto_region 0 with fail;refine wp_region_held_drew (S:=λ_=>True) ak trivial (λhS=> ?_);refine ag 0 hS (h:=ag 1 hS (h:=ag 2 hS (h:=ag 3 hS (h:=ag 4 hS (h:=ag 5 hS (h:=ag 6 hS (h:=ag 7 hS (h:=ag 8 hS (h:=ag 9 hS (h:=ag 10 hS (h:= ?_)))))))))));refine aO 11 (λK hK=> ?_);refine jU rfl (.tmp 11) (.tmp 16) 172 172 rfl 3 underlying172 ak C 5 4 1 _ _ rfl rfl (dO lc lp pb st r++T) 171 yu ([Value.int .i64 r.1]) rfl (by intro j hj;match j,hj with|0,_=>rfl) bY (by intro v hv;simp at hv;subst hv;rfl) ?_;intro w4 dq bM;simp only[Act.put];refine hK _ _ trivial (λ_=> ?_);clear hK K;refine wpAnyH_done ak ?_ _;have ig:w4.heap[C]? =some (.cells (dO lc lp pb st (r.1,r.1,r.2.2.1,r.2.2.2)++T).toArray 171 (0,0)):=dq;have dm:aM [C] w w4:=⟨bM.os,bM.tape,bM.output,bM.size,bM.block⟩
 have kf:dp w4 C L lc lp pb st (r.1,r.1,r.2.2.1,r.2.2.2) P:=HM.Ag HT.out ig (dm.block L HM.FX Fy);obtain⟨_,_,_,_,c4,_⟩:=kf.cells;have f4:=kf.kR 4;have Dz:=ae kf;have pf:=ae dm;clear yu bY dq bM ig dm kf q1 q2 ub;go_wp2_with fail;refine bodyPost_ret_by (results_none rfl _ _ _) rfl ⟨rfl,?_,?_⟩;·exact Dz.jT (k:=4) (st':=st) (r':=(d,r.1,r.2.2.1,r.2.2.2)) ar rfl
 ·exact pf.setCell (p:=⟨C,4,none⟩) (.inl ah) _
theorem ZY{C L lc lp pb st:Nat}{r:R4}{P:Nat->Nat}{w:Lo}(hM:dp w C L lc lp pb st r P)(d:Int):Calls prog 259 #[PF C,.int .i64 2,.int .i64 d] w (og C L lc lp pb st (d,r.1,r.2.1,r.2.2.2) P w):=by
 obtain⟨T,hT,pd⟩:=hM.box;have HT:=ae hT;have HTL:=ae pd;have HM:=ae hM;have q1: ∀w,(Instr.sliceAt 152 (.pointer (some ⟨C,4,none⟩)) (some (.int .i64 1)) (some (.int .i64 3)) none).run prog w= .ok (.slice (some ⟨C,5,none⟩) 2 3) w:=λw=>Ah C 2 ar w;have q2: ∀w,(Instr.sliceAt 152 (.pointer (some ⟨C,4,none⟩)) none (some (.int .i64 2)) none).run prog w= .ok (.slice (some ⟨C,4,none⟩) 2 4) w:=λw=>F0 C 2 ar w;have ub:IntKind.i64.wrap 3=3:=ar;have yu:w.drew.heap[C]? =some (.cells (dO lc lp pb st r++T).toArray 171 (0,0)):=hT;have hlen:(dO lc lp pb st r++T).length=2061:=by simp[pd]
 have bY:5+2<=(dO lc lp pb st r++T).length:=aa;clear hM hT pd hlen;go_enter func259,ntmps259;go_upto_region 0 with fail;refine wp_region_held_drew (S:=λ_=>True) ak trivial (λhS=> ?_);refine ag 0 hS (h:=ag 1 hS (h:=ag 2 hS (h:=ag 3 hS (h:=ag 4 hS (h:=ag 5 hS (h:=ag 6 hS (h:=ag 7 hS (h:=ag 8 hS (h:=ag 9 hS (h:=ag 10 hS (h:= ?_)))))))))));refine aO 11 (λK hK=> ?_);refine jU rfl (.tmp 11) (.tmp 16) 172 172 rfl 3 underlying172 ak C 5 4 2 _ _ rfl rfl (dO lc lp pb st r++T) 171 yu ([Value.int .i64 r.1,Value.int .i64 r.2.1]) rfl (by intro j hj;match j,hj with|0,_|1,_=>rfl) bY (by intro v hv;simp at hv;rcases hv with rfl|rfl<;>rfl) ?_;intro w4 dq bM;simp only[Act.put];refine hK _ _ trivial (λ_=> ?_);clear hK K;refine wpAnyH_done ak ?_ _;have ig:w4.heap[C]? =some (.cells (dO lc lp pb st (r.1,r.1,r.2.1,r.2.2.2)++T).toArray 171 (0,0)):=dq;have dm:aM [C] w w4:=⟨bM.os,bM.tape,bM.output,bM.size,bM.block⟩
 have kf:dp w4 C L lc lp pb st (r.1,r.1,r.2.1,r.2.2.2) P:=HM.Ag HT.out ig (dm.block L HM.FX Fy);obtain⟨_,_,_,_,c4,_⟩:=kf.cells;have f4:=kf.kR 4;have Dz:=ae kf;have pf:=ae dm;clear yu bY dq bM ig dm kf q1 q2 ub;go_wp2_with fail;refine bodyPost_ret_by (results_none rfl _ _ _) rfl ⟨rfl,?_,?_⟩;·exact Dz.jT (k:=4) (st':=st) (r':=(d,r.1,r.2.1,r.2.2.2)) ar rfl
 ·exact pf.setCell (p:=⟨C,4,none⟩) (.inl ah) _
theorem ZZ{C L lc lp pb st:Nat}{r:R4}{P:Nat->Nat}{w:Lo}(hM:dp w C L lc lp pb st r P)(d:Int):Calls prog 259 #[PF C,.int .i64 3,.int .i64 d] w (og C L lc lp pb st (d,r.1,r.2.1,r.2.2.1) P w):=by
 obtain⟨T,hT,pd⟩:=hM.box;have HT:=ae hT;have HTL:=ae pd;have HM:=ae hM;have q1: ∀w,(Instr.sliceAt 152 (.pointer (some ⟨C,4,none⟩)) (some (.int .i64 1)) (some (.int .i64 4)) none).run prog w= .ok (.slice (some ⟨C,5,none⟩) 3 3) w:=λw=>Ah C 3 ar w;have q2: ∀w,(Instr.sliceAt 152 (.pointer (some ⟨C,4,none⟩)) none (some (.int .i64 3)) none).run prog w= .ok (.slice (some ⟨C,4,none⟩) 3 4) w:=λw=>F0 C 3 ar w;have ub:IntKind.i64.wrap 4=4:=ar;have yu:w.drew.heap[C]? =some (.cells (dO lc lp pb st r++T).toArray 171 (0,0)):=hT;have hlen:(dO lc lp pb st r++T).length=2061:=by simp[pd]
 have bY:5+3<=(dO lc lp pb st r++T).length:=aa;clear hM hT pd hlen;go_enter func259,ntmps259;go_upto_region 0 with fail;refine wp_region_held_drew (S:=λ_=>True) ak trivial (λhS=> ?_);refine ag 0 hS (h:=ag 1 hS (h:=ag 2 hS (h:=ag 3 hS (h:=ag 4 hS (h:=ag 5 hS (h:=ag 6 hS (h:=ag 7 hS (h:=ag 8 hS (h:=ag 9 hS (h:=ag 10 hS (h:= ?_)))))))))));refine aO 11 (λK hK=> ?_);refine jU rfl (.tmp 11) (.tmp 16) 172 172 rfl 3 underlying172 ak C 5 4 3 _ _ rfl rfl (dO lc lp pb st r++T) 171 yu ([Value.int .i64 r.1,Value.int .i64 r.2.1,Value.int .i64 r.2.2.1]) rfl (by intro j hj;match j,hj with|0,_|1,_|2,_=>rfl) bY Ly ?_;intro w4 dq bM;simp only[Act.put];refine hK _ _ trivial (λ_=> ?_);clear hK K;refine wpAnyH_done ak ?_ _;have ig:w4.heap[C]? =some (.cells (dO lc lp pb st (r.1,r.1,r.2.1,r.2.2.1)++T).toArray 171 (0,0)):=dq;have dm:aM [C] w w4:=⟨bM.os,bM.tape,bM.output,bM.size,bM.block⟩
 have kf:dp w4 C L lc lp pb st (r.1,r.1,r.2.1,r.2.2.1) P:=HM.Ag HT.out ig (dm.block L HM.FX Fy);obtain⟨_,_,_,_,c4,_⟩:=kf.cells;have f4:=kf.kR 4;have Dz:=ae kf;have pf:=ae dm;clear yu bY dq bM ig dm kf q1 q2 ub;go_wp2_with fail;refine bodyPost_ret_by (results_none rfl _ _ _) rfl ⟨rfl,?_,?_⟩;·exact Dz.jT (k:=4) (st':=st) (r':=(d,r.1,r.2.1,r.2.2.1)) ar rfl
 ·exact pf.setCell (p:=⟨C,4,none⟩) (.inl ah) _
theorem xG{C L lc lp pb st:Nat}{r:R4}{P:Nat->Nat}{w:Lo}(hM:dp w C L lc lp pb st r P)(n:Nat)(hn:n<=3)(d:Int):Calls prog 259 #[PF C,.int .i64 n,.int .i64 d] w (og C L lc lp pb st (ie r n d) P w):=by
 rcases(by omega:n=0\/n=1\/n=2\/n=3)with rfl|rfl|rfl|rfl;·exact ZW hM d
 ·exact ZX hM d
 ·exact ZY hM d
 ·exact ZZ hM d
end
theorem qW(n:Int)(k:Nat)(hk:k<=62):bits .and .i64 n ((2^k-1:Nat):Int)=n%((2^k:Nat):Int):=by
 have h1:1<=2^k:=ko;have h2:2^k<=2^62:=fk aa hk;have hm:(BitVec.ofInt 64 ((2^k-1:Nat):Int)).toNat=2^k-1:=by rw[BitVec.toNat_ofInt];omega
 have hd:(18446744073709551616:Int)=((2^k:Nat):Int)*((2^(64-k):Nat):Int):=by
  have:2^k*2^(64-k)=18446744073709551616:=by rw[<-Nat.pow_add,show k+(64-k)=64 by omega]
  rw[<-Int.natCast_mul,this];rfl
 have key:((BitVec.ofInt 64 n &&& BitVec.ofInt 64 ((2^k-1:Nat):Int)).toNat:Int)=n%((2^k:Nat):Int):=by rw[BitVec.toNat_and,hm,Nat.and_two_pow_sub_one_eq_mod,BitVec.toNat_ofInt];rw[Int.natCast_emod,Int.toNat_of_nonneg (Int.emod_nonneg _ ar)];exact Int.emod_emod_of_dvd n ⟨_,hd⟩
 show IntKind.i64.wrap ((BitVec.ofInt 64 n &&& BitVec.ofInt 64 ((2^k-1:Nat):Int)).toNat:Nat)=n%((2^k:Nat):Int);have h3:0<=n%((2^k:Nat):Int):=Int.emod_nonneg _ aa;have h4:n%((2^k:Nat):Int)<((2^k:Nat):Int):=Int.emod_lt_of_pos _ aa;rw[key,IntKind.wrap_i64];omega
theorem nt(n:Int):bits .and .i64 n 1=n%2:=qW n 1 ar
namespace Md
def bg(v:Int)(i:Nat):Bool:=decide (v/2^i%2=1)
def dC(io:Io)(at_:Nat)(v:Int):Nat->Nat->io.S->Nat×io.S
 | 0,m,x=>(m,x)
 | n+1,m,x=>dC io at_ v n (2*m+(io.aD (at_+m) (bg v n) x).1.toNat) (io.aD (at_+m) (bg v n) x).2
def tree(io:Io)(at_:Nat)(n:Nat)(v:Int)(x:io.S):Nat×io.S:=((dC io at_ v n 1 x).1-2^n,(dC io at_ v n 1 x).2)
theorem tD(io:Io)(at_:Nat)(v:Int): ∀n m x,m*2^n<=(dC io at_ v n m x).1/\(dC io at_ v n m x).1<(m+1)*2^n
 | 0,m,x=>by unfold dC;omega
 | n+1,m,x=>by
  unfold dC;obtain⟨h1,h2⟩:=tD io at_ v n (2*m+(io.aD (at_+m) (bg v n) x).1.toNat) (io.aD (at_+m) (bg v n) x).2;have hb:(io.aD (at_+m) (bg v n) x).1.toNat<=1:=by cases(io.aD (at_+m) (bg v n) x).1<;>decide
  refine⟨a8 ?_ h1,db h2 ?_⟩;·rw[cS,dR (2^n) 2,<-qG];exact qF _ aa
  ·rw[cS,dR (2^n) 2,<-qG];exact qF _ aa
theorem Z1(io:Io)(at_:Nat)(n:Nat)(v:Int)(x:io.S):2^n<=(dC io at_ v n 1 x).1/\(tree io at_ n v x).1<2^n:=by have h:=tD io at_ v n 1 x;unfold tree;omega
def kY(io:Io)(at_:Nat)(v:Int):Nat->Nat->Nat->Nat->io.S->Nat×io.S
 | 0,_,_,g,x=>(g,x)
 | k+1,i,m,g,x=>kY io at_ v k (i+1) (2*m+(io.aD (at_+m) (bg v i) x).1.toNat) (g+(io.aD (at_+m) (bg v i) x).1.toNat*2^i) (io.aD (at_+m) (bg v i) x).2
def rev(io:Io)(at_:Nat)(n:Nat)(v:Int)(x:io.S):Nat×io.S:=kY io at_ v n 0 1 0 x
theorem IM(io:Io)(at_:Nat)(v:Int): ∀k i m g x,g<2^i->(kY io at_ v k i m g x).1<2^(i+k)
 | 0,i,m,g,x,h=>h
 | k+1,i,m,g,x,h=>by
  unfold kY;have:=IM io at_ v k (i+1) (2*m+(io.aD (at_+m) (bg v i) x).1.toNat) (g+(io.aD (at_+m) (bg v i) x).1.toNat*2^i) (io.aD (at_+m) (bg v i) x).2 (by
   rw[cS];cases(io.aD (at_+m) (bg v i) x).1<;>simp<;>omega)
  rw[show i+(k+1)=i+1+k by omega];exact this
theorem ac8(io:Io)(at_:Nat)(n:Nat)(v:Int)(x:io.S):(rev io at_ n v x).1<2^n:=by have:=IM io at_ v n 0 1 0 x ar;rw[Nat.zero_add]at this;exact this
structure Z3(C L n2 at_ len b off:Nat):Prop where
 used: ∀m,m<len->Md.used n2 (at_+m)
 qk: ∀m,m<len->Md.qk C L (at_+m)=⟨b,off+m,none⟩
end Md
theorem Io.sB(io:Io){x:io.S}{b:Bool}(h:io.ok x.2 (n+1))(hf:1<=x.1 i/\x.1 i<=2047):io.ok (io.aD i b x).2.2 n:=io.abw h hf.1 hf.2
theorem Z4(io:Io){x:io.S}(hM:MS io w C L lc lp pb st r x X){len:Nat}(bK:io.ok x.2 n)(uc:Md.Z3 C L (2^(lc+lp)) at_ len b off)(hn:n<=8)(hl:2^n<=len)(hc:len<=cp)(Ae:cp<=9223372036854775807)(v:Int):
  Calls prog 268 #[io.v,.slice (some ⟨b,off,none⟩) len cp,.int .i64 n,.int .i64 v] w (lK (.int .i64 ((Md.tree io at_ n v x).1:Nat)) io C L lc lp pb st r (Md.tree io at_ n v x).2 X w):=by
 have qV:(n:Int)<=8:=aa;have mS:=λy=>nt y;go_enter func268,ntmps268;go_wp2_with fail;go_loopw [9,10] (λms i wr=> ∃(j m:Nat) (x':io.S) (X':List Nat),j<=n/\ms= .int .i64 m/\i= .int .i64 ((j:Int)-1)/\2^(n-j)<=m/\m<2^(n-j)*2/\Hid (io.ok x'.2 j)/\Hid (Md.dC io at_ v j m x'=Md.dC io at_ v n 1 x)/\Hid (MS io wr C L lc lp pb st r x' X'/\aM (C::L::X) w wr/\ ∀i∈X',i∈X\/w.heap.size<=i)) (λ_ i _=>(intOf i+1).toNat);·exact⟨n,1,x,X,aF _,rfl,aA,ah,ah,ae bK,ae rfl,ae ⟨hM,aM.refl _ _,λi hi=> .inl hi⟩⟩
 ·
  obtain⟨j,m,x',X',hj,rfl,rfl,fc,fm,uT,HT,HM⟩:=hrel;cases j with
  | zero=>
   have Z5:2^n<=2^8:=fk aa hn;rw[Nat.sub_zero]at fc fm;have HR:Hid ((Md.tree io at_ n v x).1=m-2^n/\(Md.tree io at_ n v x).2=x'):=ae (by unfold Md.tree;rw[<-HT.out];exact⟨rfl,rfl⟩);have HI:Hid (wrap64 ((m:Int)-wrap64 (2^n))=((m-2^n:Nat):Int)):=ae (by
    have e:(2:Int)^n=((2^n:Nat):Int):=ah;rw[e];have e1:wrap64 ((2^n:Nat):Int)=((2^n:Nat):Int):=(by unfold wrap64;omega);rw[e1];unfold wrap64;omega)
   clear Z5 fc fm;go_wp2;go_ret;rw[HR.1,HR.2,HI.out];exact⟨rfl,X',HM.1,HM.2.1,HM.2.2⟩
  | succ j=>
   have vu:m<len:=(by have e:2^(n-(j+1))*2=2^(n-j):=oX;have:2^(n-j)<=2^n:=fk aa aa;omega);have Z5:m<2^8*2:=db fm (qF _ (fk aa aa));have tE:=ae (FY io HM.1 (io.le uT.out aa) (uc.used m vu) (uc.qk m vu) vu hc Ae (Md.bg v j));have Hr:=HM.1.mod.fair (at_+m);have fS:=ae (io.sB (i:=at_+m) (b:=Md.bg v j) uT.out Hr);have nK:Hid (Md.dC io at_ v j (2*m+(io.aD (at_+m) (Md.bg v j) x').1.toNat) (io.aD (at_+m) (Md.bg v j) x').2=Md.dC io at_ v n 1 x):=ae (by rw[<-HT.out];rfl);have mT:=ae fc;have F1:=ae fm;obtain⟨⟨B,y⟩,hy⟩: ∃z,io.aD (at_+m) (Md.bg v j) x'=z:=⟨_,rfl⟩
   rw[hy]at tE fS nK;simp only at tE fS nK;clear hy fc fm Hr;go_wp2_with fail;refine tE.mono ?_;rintro e w2 ⟨rfl,X2,pW,dv,Pi⟩;have hw:iY io C L lc lp pb st r y X w w2:=iY.trans HM.2.1 HM.2.2 ⟨X2,pW,dv,Pi⟩;have HW:=ae hw;have hB:et B=(B.toNat:Int):=(by cases B<;>rfl);have hBl:B.toNat<=1:=(by cases B<;>decide);rw[hB];have tF:(m:Int)<512:=aa;have hBi:(B.toNat:Int)<=1:=aa;clear pW dv Pi hw hB;go_wp2_with fail;obtain⟨X3,oO,dB,tG⟩:=HW.out;have e2:2^(n-j)=2^(n-(j+1))*2:=oX;exact⟨⟨j,2*m+B.toNat,y,X3,aa,aA,aA,av mT.out,av F1.out,fS,nK,ae ⟨oO,dB,tG⟩⟩,jQ⟩
theorem L4(g i:Nat)(B:Bool)(hg:g<2^i)(hi:i<=8):bits .or .i64 (g:Int) (((B.toNat*2^i:Nat)):Int)=((g+B.toNat*2^i:Nat):Int):=by
 have h2:2^i<=2^8:=fk aa hi;have hB:B.toNat*2^i<=256:=by cases B<;>simp<;>omega
 have e1:(BitVec.ofInt 64 (g:Int)).toNat=g:=by rw[BitVec.toNat_ofInt];omega
 have e2:(BitVec.ofInt 64 ((B.toNat*2^i:Nat):Int)).toNat=B.toNat*2^i:=by rw[BitVec.toNat_ofInt];omega
 show IntKind.i64.wrap ((BitVec.ofInt 64 (g:Int) ||| BitVec.ofInt 64 ((B.toNat*2^i:Nat):Int)).toNat:Nat)=_;rw[BitVec.toNat_or,e1,e2,Nat.or_comm,dR,<-Nat.two_pow_add_eq_or_of_lt hg,IntKind.wrap_i64,dR,Nat.add_comm];omega
theorem ac9(io:Io){x:io.S}(hM:MS io w C L lc lp pb st r x X){len:Nat}(bK:io.ok x.2 n)(uc:Md.Z3 C L (2^(lc+lp)) at_ len b off)(hn:n<=5)(hl:2^n<=len)(hc:len<=cp)(Ae:cp<=9223372036854775807)(v:Int):
  Calls prog 270 #[io.v,.slice (some ⟨b,off,none⟩) len cp,.int .i64 n,.int .i64 v] w (lK (.int .i64 ((Md.rev io at_ n v x).1:Nat)) io C L lc lp pb st r (Md.rev io at_ n v x).2 X w):=by
 have qV:(n:Int)<=5:=aa;have mS:=λy=>nt y;go_enter func270,ntmps270;go_wp2_with fail;go_loopw [9,10,14] (λms gs i wr=> ∃(j m g:Nat) (x':io.S) (X':List Nat),j<=n/\ms= .int .i64 m/\gs= .int .i64 g/\i= .int .i64 j/\2^j<=m/\m<2^j*2/\g<2^j/\Hid (io.ok x'.2 (n-j))/\Hid (Md.kY io at_ v (n-j) j m g x'=Md.rev io at_ n v x)/\Hid (MS io wr C L lc lp pb st r x' X'/\aM (C::L::X) w wr/\ ∀i∈X',i∈X\/w.heap.size<=i)) (λ_ _ i _=>n-(intOf i).toNat);·exact⟨0,1,0,x,X,cI _,rfl,rfl,rfl,ah,ah,ah,ae bK,ae rfl,ae ⟨hM,aM.refl _ _,λi hi=> .inl hi⟩⟩
 ·
  obtain⟨j,m,g,x',X',hj,rfl,rfl,rfl,fc,fm,hg,uT,HT,HM⟩:=hrel;by_cases hjn:j<n
  ·have zo:(j:Int)<n:=(by omega);have L6:2^j*2<=2^n:=(by rw[<-cS];exact fk aa aa);have tc:2^n<=2^5:=fk aa hn;have vu:m<len:=aa;have tE:=ae (FY io HM.1 (io.le uT.out aa) (uc.used m vu) (uc.qk m vu) vu hc Ae (Md.bg v j));have Hr:=HM.1.mod.fair (at_+m);have ho:=uT.out;rw[show n-j=(n-(j+1))+1 by omega]at ho;have fS:=ae (io.sB (i:=at_+m) (b:=Md.bg v j) ho Hr);have nK:Hid (Md.kY io at_ v (n-(j+1)) (j+1) (2*m+(io.aD (at_+m) (Md.bg v j) x').1.toNat) (g+(io.aD (at_+m) (Md.bg v j) x').1.toNat*2^j) (io.aD (at_+m) (Md.bg v j) x').2=Md.rev io at_ n v x):=ae (by rw[<-HT.out,show n-j=(n-(j+1))+1 by omega];rfl);have bF:=ae (ap fc (ap fm hg));have axz:m<32:=aa;have axA:g<32:=aa;obtain⟨⟨B,y⟩,hy⟩: ∃z,io.aD (at_+m) (Md.bg v j) x'=z:=⟨_,rfl⟩
   rw[hy]at tE fS nK;simp only at tE fS nK;clear hy fc fm Hr ho L6 tc hg;have axB:(j:Int)<=5:=aa;go_wp2_with fail;refine tE.mono ?_;rintro e w2 ⟨rfl,X2,pW,dv,Pi⟩;have hw:iY io C L lc lp pb st r y X w w2:=iY.trans HM.2.1 HM.2.2 ⟨X2,pW,dv,Pi⟩;have HW:=ae hw;have hB:et B=(B.toNat:Int):=(by cases B<;>rfl);have hBl:B.toNat<=1:=(by cases B<;>decide);rw[hB];have tF:(m:Int)<32:=aa;have hBi:(B.toNat:Int)<=1:=aa;clear pW dv Pi hw hB;go_wp2_with fail;obtain⟨X3,oO,dB,tG⟩:=HW.out;have hb:=bF.out;have hp8:2^j<=2^5:=fk aa aa;have e2:2^(j+1)=2^j*2:=cS _ _;have e3:wrap64 ((B.toNat:Int)*2^j)=((B.toNat*2^j:Nat):Int):=(by have:B.toNat*2^j<=32:=(by cases B<;>simp<;>omega);rw[show(2:Int)^j=((2^j:Nat):Int) by simp,<-Int.natCast_mul];unfold wrap64;omega);have hBj:B.toNat*2^j<=2^j:=(by cases B<;>simp);exact⟨⟨j+1,2*m+B.toNat,g+B.toNat*2^j,y,X3,aa,aA,by rw[e3,L4 g j B hb.2.2 aa],aA,aa,aa,aa,fS,nK,ae ⟨oO,dB,tG⟩⟩,jQ⟩
  ·obtain rfl:j=n:=(by omega);have hR:=HT.out;rw[lJ]at hR;have HR:Hid (Md.rev io at_ j v x=(g,x')):=ae hR.symm;clear hR fc fm hg;go_wp2;go_ret;rw[HR.out];exact⟨rfl,X',HM.1,HM.2.1,HM.2.2⟩
theorem Io.Ee(io:Io)(at_:Nat)(v:Int): ∀n k m (x:io.S),io.ok x.2 (n+k)->(∀i,1<=x.1 i/\x.1 i<=2047)->io.ok (Md.dC io at_ v n m x).2.2 k
 | 0,k,m,x,h,hf=>by rw[Nat.zero_add]at h;exact h
 | n+1,k,m,x,h,hf=>by
  unfold Md.dC;have h2:io.ok (io.aD (at_+m) (Md.bg v n) x).2.2 (n+k):=io.sB (by rw[show n+k+1=n+1+k by omega];exact h) (hf _);refine Io.Ee io at_ v n k _ _ h2 (λi=> ?_);have hn:=Rc.np (hf (at_+m)).1 (hf (at_+m)).2 (io.bit x.2 (x.1 (at_+m)) (Md.bg v n)).1;have hi:=hf i;unfold Io.aD Md.put;simp only;split;·exact hn
  ·exact hi
theorem Io.IP(io:Io)(at_:Nat)(v:Int): ∀n k i m g (x:io.S),io.ok x.2 (n+k)->(∀i,1<=x.1 i/\x.1 i<=2047)->io.ok (Md.kY io at_ v n i m g x).2.2 k
 | 0,k,i,m,g,x,h,hf=>by rw[Nat.zero_add]at h;exact h
 | n+1,k,i,m,g,x,h,hf=>by
  unfold Md.kY;have h2:io.ok (io.aD (at_+m) (Md.bg v i) x).2.2 (n+k):=io.sB (by rw[show n+k+1=n+1+k by omega];exact h) (hf _);refine Io.IP io at_ v n k _ _ _ _ h2 (λj=> ?_);have hn:=Rc.np (hf (at_+m)).1 (hf (at_+m)).2 (io.bit x.2 (x.1 (at_+m)) (Md.bg v i)).1;have hi:=hf j;unfold Io.aD Md.put;simp only;split;·exact hn
  ·exact hi
theorem Ai(io:Io){x:io.S}(hM:MS io w C L lc lp pb st r x X){len:Nat}{v:Int}{z:io.S}(hz:Md.tree io at_ n v x=(tv,z))(bK:io.ok x.2 (n+k))(uc:Md.Z3 C L (2^(lc+lp)) at_ len b off)(hn:n<=8)(hl:2^n<=len)(hc:len<=cp)(Ae:cp<=9223372036854775807):
  Calls prog 268 #[io.v,.slice (some ⟨b,off,none⟩) len cp,.int .i64 n,.int .i64 v] w (lK (.int .i64 tv) io C L lc lp pb st r z X w)/\tv<2^n/\io.ok z.2 k:=by
 have h:=Z4 io hM (io.le bK aa) uc hn hl hc Ae v;have h2:=(Md.Z1 io at_ n v x).2;have h3:=Io.Ee io at_ v n k 1 x bK hM.mod.fair;have h4:(Md.dC io at_ v n 1 x).2=z:=aR Prod.snd hz;rw[hz]at h h2;rw[h4]at h3;exact⟨h,h2,h3⟩
theorem Ut(io:Io){x:io.S}(hM:MS io w C L lc lp pb st r x X){len:Nat}{v:Int}{z:io.S}(hz:Md.rev io at_ n v x=(tv,z))(bK:io.ok x.2 (n+k))(uc:Md.Z3 C L (2^(lc+lp)) at_ len b off)(hn:n<=5)(hl:2^n<=len)(hc:len<=cp)(Ae:cp<=9223372036854775807):
  Calls prog 270 #[io.v,.slice (some ⟨b,off,none⟩) len cp,.int .i64 n,.int .i64 v] w (lK (.int .i64 tv) io C L lc lp pb st r z X w)/\tv<2^n/\io.ok z.2 k:=by
 have h:=ac9 io hM (io.le bK aa) uc hn hl hc Ae v;have h2:=Md.ac8 io at_ n v x;have h3:=Io.IP io at_ v n k 0 1 0 x bK hM.mod.fair;have h4:(Md.kY io at_ v n 0 1 0 x).2=z:=aR Prod.snd hz;rw[hz]at h h2;rw[h4]at h3;exact⟨h,h2,h3⟩
theorem pg(io:Io){x:io.S}(hM:MS io w C L lc lp pb st r x X){len:Nat}{one B:Bool}{y:io.S}(hz:io.aD i one x=(B,y))(hi:i=at_+j)(bK:io.ok x.2 (k+1))(uc:Md.Z3 C L (2^(lc+lp)) at_ len b off)(hj:j<len)(hn:len<=cp)(Ae:cp<=9223372036854775807):
  Calls prog 233 #[io.v,.slice (some ⟨b,off,none⟩) len cp,.int .i64 j,.bool one] w (lK (.int .i64 (et B)) io C L lc lp pb st r y X w)/\io.ok y.2 k:=by
 subst hi;have h:=FY io hM (io.le bK aa) (uc.used j hj) (uc.qk j hj) hj hn Ae one;have h3:=io.sB (i:=at_+j) (b:=one) bK (hM.mod.fair _);rw[hz]at h h3;exact⟨h,h3⟩
theorem Uu(io:Io){x:io.S}(hM:MS io w C L lc lp pb st r x X){v m q:Nat}{s2:io.σ}(hz:io.plain x.2 (v%2^m) m=(q,s2))(bK:io.ok x.2 (k+32))(hv:v<4294967296)(hm:m<=32):
  Calls prog io.F #[.pointer (some ⟨io.g,0,none⟩),.int .u32 v,.int .i64 m] w (lK (.int .u32 q) io C L lc lp pb st r (x.1,s2) X w)/\q<2^m/\io.ok s2 k:=by
 have h:=io.Ur w x.2 X v m hM.io (io.le bK aa) hv hm;have h2:=io.FW (x:=v%2^m) bK hm;have h3:=io.Ph (x:=v%2^m) (m:=m) bK (Nat.mod_lt _ (Nat.pow_pos ar));rw[hz]at h h2 h3;refine⟨h.mono ?_,h3,h2⟩;rintro e w' ⟨rfl,X',dm,cZ,ZV⟩;have hC:w'.heap[C]? =w.heap[C]? :=dm.block C hM.mod.Hq hM.vt;have hL:w'.heap[L]? =w.heap[L]? :=dm.block L hM.mod.FX hM.zp;refine⟨rfl,X',⟨hM.mod.aU hC hL,cZ,λh=> ?_,λh=> ?_⟩,⟨dm.os,dm.tape,dm.output,dm.size,λi hi hX=>dm.block i hi (λh=>hX fO)⟩,ZV⟩
 ·rcases ZV C h with h|h;·exact hM.vt h
  ·have:=hM.mod.Hq;omega
 ·rcases ZV L h with h|h;·exact hM.zp h
  ·have:=hM.mod.FX;omega
theorem Md.oh{len:Nat}(ho:off=8+at_)(h2:at_+len<=432):Md.Z3 C L n2 at_ len C off:=
 ⟨λm hm=> .inl aa,λm hm=>by
  unfold Md.qk Md.iK Md.ic;rw[ax aa,ax aa];rw[show 8+(at_+m)=off+m by omega]⟩
theorem Md.sC{len:Nat}(ho:off=9+at_)(h1:432<=at_)(h2:at_+len<=1716):Md.Z3 C L n2 at_ len C off:=
 ⟨λm hm=> .inl aa,λm hm=>by
  unfold Md.qk Md.iK Md.ic;rw[ax aa,au aa,ax aa];rw[show 9+(at_+m)=off+m by omega]⟩
theorem Md.IQ{len:Nat}(ho:off+119=at_)(h1:1844<=at_)(h2:at_+len<=2180):Md.Z3 C L n2 at_ len C off:=
 ⟨λm hm=> .inr ⟨aa,aa⟩,λm hm=>by
  unfold Md.qk Md.iK Md.ic;rw[ax aa,au aa,au aa,ax aa];rw[show at_+m-119=off+m by omega]⟩
theorem Md.Uv{len:Nat}(ho:off+2180=at_)(h2:at_+len<=2180+768*n2):Md.Z3 C L n2 at_ len L off:=
 ⟨λm hm=> .inr ⟨aa,aa⟩,λm hm=>by
  unfold Md.qk Md.iK Md.ic;rw[au aa,au aa,au aa,au aa];rw[show at_+m-2180=off+m by omega]⟩
namespace Md
def len(io:Io)(A p:Nat)(l:Int)(x:io.S):Nat×io.S:=
 let y:=io.aD A (decide (8<=l-2)) x
 if y.1=false then(2+(tree io (A+2+8*p) 3 (l-2) y.2).1,(tree io (A+2+8*p) 3 (l-2) y.2).2)
 else
  let z:=io.aD (A+1) (decide (16<=l-2)) y.2
  if z.1=false then(10+(tree io (A+130+8*p) 3 (l-2-8) z.2).1,(tree io (A+130+8*p) 3 (l-2-8) z.2).2)
  else(18+(tree io (A+258) 8 (l-2-16) z.2).1,(tree io (A+258) 8 (l-2-16) z.2).2)
end Md
def ph(Q:Prop)(D:Ending->World->Prop)(e:Ending)(w':Lo):Prop:=D e w'/\Q
theorem L8(io:Io){x:io.S}(hM:MS io w C L lc lp pb st r x X){A:Nat}{l:Int}{Z:io.S}(hR:Md.len io A p l x=(R,Z))(bK:io.ok x.2 (k+10))(hA:A=432\/A=946)(hp:p<16)(IR:0<=l)(zq:l<=300):
  Calls prog 257 #[.pointer (some ⟨C,9+A,none⟩),io.v,.int .i64 p,.int .i64 l] w (ph (2<=R/\R<=273/\io.ok Z.2 k) (lK (.int .i64 R) io C L lc lp pb st r Z X w)):=by
 have ud:(p:Int)<16:=aa;have HA:Hid (A=432\/A=946):=ae hA;unfold Md.len at hR;obtain⟨⟨B,y⟩,hy⟩: ∃z,io.aD A (decide (8<=l-2)) x=z:=⟨_,rfl⟩
 obtain⟨h1,lL⟩:=pg io hM hy (at_:=A) (j:=0) (len:=2) (cp:=2) (b:=C) (off:=9+A) rfl (k:=k+9) bK (Md.sC rfl aa aa) aa aa aa;rw[hy]at hR;simp only at hR;have H1:=ae h1;have mU:=ae lL;have HR:=ae hR;clear hA bK hy hR h1 lL;go_enter func257,ntmps257;go_wp2_with fail;refine H1.mono ?_;rintro e w1 ⟨rfl,X1,ij,gW,hX1⟩;have mT:=ae ij;have zr:=ae (ap gW hX1);clear ij gW hX1 H1;cases B with
 | false=>
  have hb:et false=0:=rfl;rw[hb];have hR:=HR.out;simp only[if_true]at hR;obtain⟨⟨tv,z⟩,hz⟩: ∃q,Md.tree io (A+2+8*p) 3 (l-2) y=q:=⟨_,rfl⟩
  obtain⟨h2,htv,Hs⟩:=Ai io mT.out hz (len:=8) (cp:=8) (b:=C) (off:=9+A+2+p*8) (k:=k) (io.le mU.out aa) (Md.sC aa (av HA.out) (av HA.out)) aa aa aa aa;rw[hz]at hR;injection hR with lr kh;have qX:=ae (ap lr.symm kh.symm);clear lr kh;have H2:=ae h2;have ahY:(tv:Int)<8:=aa;have fS:=ae Hs;clear hz hb h2 Hs;go_wp2_with fail;refine H2.mono ?_;rintro e w2 ⟨rfl,ld⟩;go_wp2;go_ret;obtain⟨e1,e2⟩:=qX.out;subst e1 e2;exact⟨⟨aA,iY.trans zr.1 zr.2 ld⟩,aa,aa,fS.out⟩
 | true=>
  have hb:et true=1:=rfl;rw[hb];have hR:=HR.out;simp only[Bool.true_eq_false,if_false]at hR;obtain⟨⟨B,y2⟩,hy⟩: ∃q,io.aD (A+1) (decide (16<=l-2)) y=q:=⟨_,rfl⟩
  obtain⟨h1,lL⟩:=pg io mT.out hy (at_:=A) (j:=1) (len:=2) (cp:=2) (b:=C) (off:=9+A) rfl (k:=k+8) mU.out (Md.sC rfl (av HA.out) (av HA.out)) aa aa aa;rw[hy]at hR;simp only at hR;have H1:=ae h1;have abx:=ae lL;have HRb:=ae hR;clear hy hR h1 lL hb;go_wp2_with fail;refine H1.mono ?_;rintro e w2 ⟨rfl,ld⟩;obtain⟨X2,pW,dv,Pi⟩:=iY.trans zr.1 zr.2 ld;have F1:=ae pW;have uU:=ae (ap dv Pi);clear pW dv Pi H1 ld;cases B with
  | false=>
   have hb:et false=0:=rfl;rw[hb];have hR:=HRb.out;simp only[if_true]at hR;obtain⟨⟨tv,z⟩,hz⟩: ∃q,Md.tree io (A+130+8*p) 3 (l-2-8) y2=q:=⟨_,rfl⟩
   obtain⟨h2,htv,Hs⟩:=Ai io F1.out hz (len:=8) (cp:=8) (b:=C) (off:=9+A+130+p*8) (k:=k) (io.le abx.out aa) (Md.sC aa (av HA.out) (av HA.out)) aa aa aa aa;rw[hz]at hR;injection hR with lr kh;have qX:=ae (ap lr.symm kh.symm);clear lr kh;have H2:=ae h2;have ahY:(tv:Int)<8:=aa;have fS:=ae Hs;clear hz hb h2 Hs;go_wp2_with fail;refine H2.mono ?_;rintro e w3 ⟨rfl,ql⟩;go_wp2;go_ret;obtain⟨e1,e2⟩:=qX.out;subst e1 e2;exact⟨⟨aA,iY.trans uU.1 uU.2 ql⟩,aa,aa,fS.out⟩
  | true=>
   have hb:et true=1:=rfl;rw[hb];have hR:=HRb.out;simp only[Bool.true_eq_false,if_false]at hR;obtain⟨⟨tv,z⟩,hz⟩: ∃q,Md.tree io (A+258) 8 (l-2-16) y2=q:=⟨_,rfl⟩
   obtain⟨h2,htv,Hs⟩:=Ai io F1.out hz (len:=256) (cp:=256) (b:=C) (off:=9+A+258) (k:=k) (io.le abx.out aa) (Md.sC aa (av HA.out) (av HA.out)) aa aa aa aa;rw[hz]at hR;injection hR with lr kh;have qX:=ae (ap lr.symm kh.symm);clear lr kh;have H2:=ae h2;have ahY:(tv:Int)<256:=aa;have fS:=ae Hs;clear hz hb h2 Hs;go_wp2_with fail;refine H2.mono ?_;rintro e w3 ⟨rfl,ql⟩;go_wp2;go_ret;obtain⟨e1,e2⟩:=qX.out;subst e1 e2;exact⟨⟨aA,iY.trans uU.1 uU.2 ql⟩,aa,aa,fS.out⟩
def fT(d:Nat):Nat:=if d<4 then d else 2*Lib.bitLen d-2+d/2^(Lib.bitLen d-2)%2
theorem vy(h4:4<=d)(h:d<4294967296):3<=Lib.bitLen d/\Lib.bitLen d<=32:=by
 rw[Lib.bitLen_shift 2 d h4 aa];have h5:d/2^2≠0:=aa;rw[Lib.bitLen_half (d/2^2) h5 aa];have h6:d/2^2/2<2^29:=aa;have h7: ∀(f x:Nat),x<2^f->Lib.bitLenAux 64 x<=f\/64<f:=λf x hx=>by
  by_cases hf:f<=64
  ·left;rw[Lib.bitLenAux_fuel f x hx 64 hf];clear hx hf;induction f generalizing x with
   | zero=>exact aF _
   | succ f ih=>
    unfold Lib.bitLenAux;split;·omega
    ·have:=ih (x/2);omega
  ·right;omega
 have h8:=h7 29 _ h6;unfold Lib.bitLen;omega
theorem Bo(h:d<4294967296):fT d<64:=by
 unfold fT;split;·omega
 ·have:=vy (d:=d) aa h;omega
theorem IV(x:Nat)(hx:x<4294967296):bits .and .u32 (x:Int) 1=((x%2:Nat):Int):=by rw[show(1:Int)=((1:Nat):Int)from rfl,u32_and_nat _ _ aa aa,nat_mask1]
theorem Uw(d:Nat)(hd:d<4294967296)(w:Lo):Calls prog 269 #[.int .u32 d] w λe w'=>e= .returned (.int .i64 (fT d:Nat))/\w=w':=by
 by_cases h4:d<4
 ·have h4i:(d:Int)<4:=by omega
  have HS:Hid (fT d=d):=ae (by unfold fT;rw[ax h4]);rw[HS.out];go_enter func269,ntmps269;go_wp2;go_ret;exact⟨rfl,rfl⟩
 ·have h4i: ¬(d:Int)<4:=by omega
  obtain⟨n1,n2⟩:=vy (d:=d) aa hd;have HL:=ae (xH (d:Nat) w aa aa);have⟨S,hS⟩:=ex (fT d);rw[hS];unfold fT at hS;rw[au h4]at hS;rw[Int.toNat_natCast]at HL;generalize Lib.bitLen d=n at*;have DE:3<=(n:Int):=aa;have yv:(n:Int)<=32:=aa;have HS:=ae hS;clear hS;go_enter func269,ntmps269;go_wp2_with fail;refine HL.mono ?_;rintro e w1 ⟨rfl,rfl⟩;go_wp2;go_ret;refine⟨aR (λn:Int=>Ending.returned (Value.int .i64 n)) ?_,rfl⟩;rw[<-HS.out];have e:(d:Int)/2^(n-2)=((d/2^(n-2):Nat):Int):=ah;have hle:d/2^(n-2)<=d:=Nat.div_le_self _ _;rw[e,IV _ aa];unfold wrap64;omega
namespace Md
def d6(io:Io)(l:Nat)(dd:Int)(x:io.S):Nat×io.S:=
 let d:Nat:=((dd-1)%4294967296).toNat
 let y:=tree io (1460+64*min (l-2) 3) 6 (fT d:Nat) x
 if y.1<4 then(y.1+1,y.2)
 else if y.1<14 then
  let z:=rev io (1716+32*y.1) (y.1/2-1) (d:Nat) y.2
  ((2+y.1%2)*2^(y.1/2-1)+z.1+1,z.2)
 else
  let q:=io.plain y.2.2 (d/16%2^(y.1/2-1-4)) (y.1/2-1-4)
  let z:=rev io 2164 4 (d:Nat) (y.2.1,q.2)
  ((2+y.1%2)*2^(y.1/2-1)+q.1%2^(y.1/2-1-4)*16+z.1+1,z.2)
end Md
theorem Z6(io:Io){x:io.S}(hM:MS io w C L lc lp pb st r x X){l:Nat}{dd:Int}{Z:io.S}(hR:Md.d6 io l dd x=(R,Z))(bK:io.ok x.2 (k+42))(hl:2<=l)(zq:l<=300)(hd0:0<=dd)(Dl:dd<=4294967295):
  Calls prog 258 #[.pointer (some ⟨C,1469,none⟩),io.v,.int .i64 l,.int .i64 dd] w (ph (1<=R/\R<=4294967296/\io.ok Z.2 k) (lK (.int .i64 R) io C L lc lp pb st r Z X w)):=by
 have⟨D,hD'⟩:=ex (((dd-1)%4294967296).toNat:Nat);have hD:D<4294967296:=aa;have hDi:IntKind.u32.wrap (dd-1)=(D:Int):=kA;unfold Md.d6 at hR;rw[hD']at hR;have tF:min (IntKind.i64.wrap ((l:Int)-2)) 3=((min (l-2) 3:Nat):Int):=by rw[IntKind.wrap_i64];omega
 have⟨K,hK⟩:=ex (min (l-2) 3);have hK3:K<=3:=aa;rw[hK]at hR tF;obtain⟨⟨slot,y⟩,hy⟩: ∃q,Md.tree io (1460+64*K) 6 (fT D:Nat) x=q:=⟨_,rfl⟩
 obtain⟨h1,xc,lL⟩:=Ai io (hM.drewN 1) hy (len:=64) (cp:=64) (b:=C) (off:=1469+K*64) (k:=k+36) (io.le bK aa) (Md.sC aa aa aa) aa aa aa aa;simp only[hy]at hR;have HT:=ae h1;have HR:=ae hR;have uT:=ae lL;have aoN:(slot:Int)<64:=aa;have hKi:(K:Int)<4:=aa;clear hR h1 lL hy bK;have bu:True:=trivial;go_enter func258,ntmps258;go_upto_region 2 with fail;refine wp_region_held_drew (S:=λ_=>True) ak bu (λhS=> ?_);refine ag 0 hS (h:=ag 1 hS (h:=ag 2 hS (h:=ag 3 hS (h:=ag 4 hS (h:=ag 5 hS (h:=ag 6 hS (h:=ag 7 hS (h:=ag 8 hS (h:=ag 9 hS (h:= ?_))))))))));refine aO 10 (λK hK=> ?_);go_simp;refine(Uw D hD _).mono ?_;rintro e x4 ⟨rfl,rfl⟩;go_wp2_with fail;refine hK _ _ bu (λ_=> ?_);clear hK K;refine aO 11 (λK hK=> ?_);go_simp;refine HT.mono ?_;rintro e x5 ⟨rfl,X1,ij,gW,hX1⟩;have g5:=ae (ap gW hX1);clear gW hX1;go_wp2_with fail;refine hK _ _ trivial (λ_=> ?_);clear hK K;refine ag 12 trivial (h:= ?_);refine wpAnyH_done ak ?_ _;have mT:=ae ij;clear hS bu ij HT;have hR:=HR.out;by_cases h4:slot<4
 ·have h4i:(slot:Int)<4:=by omega
  rw[ax h4]at hR;injection hR with lr kh;have qX:=ae (ap lr.symm kh.symm);clear lr kh h4;go_wp2;go_ret;obtain⟨e1,e2⟩:=qX.out;subst e1 e2;exact⟨⟨aA,X1,mT.out,aM.pc g5.1,g5.2⟩,aa,aa,io.le uT.out aa⟩
 ·have h4i: ¬(slot:Int)<4:=by omega
  rw[au h4]at hR;have⟨n,hn⟩:=ex (slot/2-1);have qV:(slot:Int)/2-1=(n:Int):=aa;have Ux:n<=30:=aa;have QF:2^n<=2^30:=fk aa Ux;obtain⟨TOP,hT⟩: ∃T,(2+slot%2)*2^n=T:=⟨_,rfl⟩
  have Z7:TOP<=3*2^30:=by rw[<-hT];exact Nat.mul_le_mul aa QF
  have ahO:wrap64 (wrap64 (2+bits .and .i64 (slot:Int) 1)*2^n)=(TOP:Int):=by rw[nt,show(2:Int)+(slot:Int)%2=((2+slot%2:Nat):Int) by omega];have e1:wrap64 ((2+slot%2:Nat):Int)=((2+slot%2:Nat):Int):=(by unfold wrap64;omega);rw[e1,show(2:Int)^n=((2^n:Nat):Int) by simp,<-Int.natCast_mul,hT];unfold wrap64;omega
  have hTi:(TOP:Int)<=3221225472:=aa;rw[hn,hT]at hR;by_cases TF:slot<14
  ·have ah0:(slot:Int)<14:=(by omega);rw[ax TF]at hR;obtain⟨⟨t,z⟩,hz⟩: ∃q,Md.rev io (1716+32*slot) n (D:Nat) y=q:=⟨_,rfl⟩
   have h2n:2^n<=2^5:=fk aa aa;obtain⟨h2,ht,Hs⟩:=Ut io mT.out hz (len:=32) (cp:=32) (b:=C) (off:=1725+(slot-4)*32) (k:=k) (io.le uT.out aa) (Md.IQ aa aa aa) aa aa aa aa;simp only[hz]at hR;injection hR with lr kh;have qX:=ae (ap lr.symm kh.symm);have H2:=ae h2;have fS:=ae Hs;have hti:(t:Int)<32:=aa;have HN:=ae hn;have Hn:=ae (ap Z7 ht);clear lr kh h4 hn Ux QF hT Z7 h2n ht h2 Hs hz TF;go_wp2_with fail;refine H2.mono ?_;rintro e x6 ⟨rfl,Dm⟩;go_wp2;go_ret;obtain⟨e1,e2⟩:=qX.out;subst e1 e2;exact⟨⟨aA,iY.trans (aM.pc g5.1) g5.2 Dm⟩,aa,av Hn.out,fS.out⟩
  ·have ah0: ¬(slot:Int)<14:=(by omega);rw[au TF]at hR;have⟨m,hm⟩:=ex (n-4);have tF:(n:Int)-4=(m:Int):=aa;have aoP:m<=26:=aa;have ah2:2^m<=2^26:=fk aa aoP;have Ld:1<=2^m:=ko;rw[hm]at hR;have⟨M,hM'⟩:=ex (2^m-1);have aud:((2:Int)^m-1)%4294967296=(M:Int):=(by rw[show(2:Int)^m=((2^m:Nat):Int) by simp];omega);have⟨V,hV⟩:=ex (D/16%2^m);have ah3:V<2^m:=(by rw[<-hV];exact Nat.mod_lt _ aa);have hand:bits .and .u32 ((D:Int)/16) (M:Int)=V:=(by rw[show(D:Int)/16=((D/16:Nat):Int) by omega,u32_and_nat _ _ aa aa,<-hM',Nat.and_two_pow_sub_one_eq_mod,hV]);have hVm:V%2^m=V:=mY ah3;rw[hV]at hR;obtain⟨⟨q,s2⟩,hq⟩: ∃z,io.plain y.2 V m=z:=⟨_,rfl⟩
   obtain⟨h2,oP,Hs⟩:=Uu io mT.out (v:=V) (m:=m) (q:=q) (s2:=s2) (k:=k+4) (by rw[hVm];exact hq) uT.out aa aa;simp only[hq]at hR;rw[mY oP]at hR;have hqi:(q:Int)<67108864:=aa;have auf:bits .and .u32 (q:Int) (M:Int)=(q:Int):=(by rw[u32_and_nat _ _ aa aa,<-hM',Nat.and_two_pow_sub_one_eq_mod,mY oP]);obtain⟨⟨t,z⟩,hz⟩: ∃q,Md.rev io 2164 4 (D:Nat) (y.1,s2)=q:=⟨_,rfl⟩
   simp only[hz]at hR;injection hR with lr kh;have qX:=ae (ap lr.symm kh.symm);have HZ:=ae hz;have fS:=ae Hs;have Hn:=ae (ap Z7 oP);have aug:=io.ahW;have H26:=ae ah2;rcases io.kind with hF|hF
   all_goals
    have H2:=ae h2;rw[hF]at H2
   all_goals
    clear lr kh hn Ux QF hT Z7 h2 Hs hz TF hm ah2 hM' hV ah3 hVm hq oP Ld h4;go_wp2_with fail;refine H2.mono ?_;rintro e x6 ⟨rfl,Dm⟩;obtain⟨X2,pW,dv,Pi⟩:=iY.trans (aM.pc g5.1) g5.2 Dm;obtain⟨h3,ht,OV⟩:=Ut io pW HZ.out (len:=16) (cp:=16) (b:=C) (off:=2045) (k:=k) (io.le fS.out aa) (Md.IQ aa aa aa) aa aa aa aa;have H3:=ae h3;have hti:(t:Int)<16:=aa;have HT3:=ae (ap ht OV);have uU:=ae (ap dv Pi);clear dv Pi pW Dm h3 ht OV;go_wp2_with fail;refine H3.mono ?_;rintro e x7 ⟨rfl,hw7⟩;go_wp2;go_ret;obtain⟨e1,e2⟩:=qX.out;subst e1 e2;have h26:=H26.out;have htt:=Hn.out;exact⟨⟨aA,iY.trans uU.1 uU.2 hw7⟩,aa,av HT3.out,HT3.2⟩
def fU(st:Nat):Nat:=if st<4 then 0 else if st<10 then st-3 else st-6
def xI(lc lp:Nat)(H:An):Nat:=H.length%2^lp*2^lc+(if 0<H.length then(H.getD (H.length-1) 0).toNat else 0)/2^(8-lc)
theorem F3(H:An)(lj:lc<=8):xI lc lp H<2^(lc+lp):=by
 unfold xI;have h1:H.length%2^lp<2^lp:=Nat.mod_lt _ (Nat.pow_pos ar);have h2:(if 0<H.length then(H.getD (H.length-1) 0).toNat else 0)/2^(8-lc)<2^lc:=by
  rw[Nat.div_lt_iff_lt_mul (Nat.pow_pos ar),<-Nat.pow_add,show lc+(8-lc)=8 by omega];split;·exact(H.getD (H.length-1) 0).toNat_lt
  ·decide
 have h3:(H.length%2^lp+1)*2^lc<=2^lp*2^lc:=qF _ h1;rw[Nat.pow_add,dR (2^lc)];rw[Nat.add_mul]at h3;omega
theorem F4(st:Nat)(_:st<12)(w:Lo):Calls prog 256 #[.int .i64 st] w λe w'=>e= .returned (.int .i64 (fU st:Nat))/\w=w':=by
 have⟨S,hS⟩:=ex (fU st);rw[hS];unfold fU at hS;by_cases h1:st<4;·rw[ax h1]at hS;subst hS;have Z8:(st:Int)<4:=aa;go_enter func256,ntmps256;go_wp2;go_ret;exact⟨rfl,rfl⟩
 ·have Z8: ¬(st:Int)<4:=by omega
  rw[au h1]at hS;by_cases h2:st<10;·have h2i:(st:Int)<10:=(by omega);rw[ax h2]at hS;have HS:=ae hS;clear hS;go_enter func256,ntmps256;go_wp2;go_ret;have:=HS.out;exact⟨aA,rfl⟩
  ·have h2i: ¬(st:Int)<10:=(by omega);rw[au h2]at hS;have HS:=ae hS;clear hS;go_enter func256,ntmps256;go_wp2;go_ret;have:=HS.out;exact⟨aA,rfl⟩
theorem pj(st a b:Nat)(w:Lo):Calls prog 260 #[.int .i64 st,.int .i64 a,.int .i64 b] w λe w'=>e= .returned (.int .i64 ((if st<7 then a else b:Nat):Int))/\w=w':=by
 by_cases h1:st<7
 ·have Z8:(st:Int)<7:=by omega
  rw[ax h1];go_enter func260,ntmps260;go_wp2;go_ret;exact⟨rfl,rfl⟩
 ·have Z8: ¬(st:Int)<7:=by omega
  rw[au h1];go_enter func260,ntmps260;go_wp2;go_ret;exact⟨rfl,rfl⟩
def Ef(v:Value)(w:Lo)(e:Ending)(w':Lo):Prop:=e= .returned v/\Below w.heap.size w w'
theorem gK{a:Int}(h0: -9223372036854775808<=a)(h1:a<=9223372036854775807):wrap64 a=a:=by unfold wrap64;omega
theorem Pj{u K:Nat}(lj:lc<=4)(Dn:lp<=4)(hu:u<256)(hK:n%2^lp*2^lc+u/2^(8-lc)=K):wrap64 (wrap64 (bits .and .i64 (n:Int) (wrap64 (wrap64 (2^lp)-1))*2^lc)+(u:Int)/2^(8-lc))=(K:Int):=by
 have h1:1<=2^lp:=ko;have h2:2^lp<=2^4:=fk aa Dn;have h3:2^lc<=2^4:=fk aa lj;have e1:wrap64 ((2:Int)^lp)=((2^lp:Nat):Int):=by rw[show(2:Int)^lp=((2^lp:Nat):Int) by simp];exact gK aa aa
 have e2:wrap64 (((2^lp:Nat):Int)-1)=((2^lp-1:Nat):Int):=by rw[gK aa aa];omega
 have e3:(n:Int)%((2^lp:Nat):Int)=((n%2^lp:Nat):Int):=aa;have h4:n%2^lp<2^lp:=Nat.mod_lt _ h1;have h5:n%2^lp*2^lc<=16*16:=Nat.mul_le_mul aa aa;have e4:((n%2^lp:Nat):Int)*2^lc=((n%2^lp*2^lc:Nat):Int):=ah;have e5:(u:Int)/2^(8-lc)=((u/2^(8-lc):Nat):Int):=ah;have h6:u/2^(8-lc)<=u:=Nat.div_le_self _ _;rw[e1,e2,qW _ _ aa,e3,e4,e5];generalize n%2^lp*2^lc=N at*;generalize u/2^(8-lc)=U at*;rw[gK (a:=(N:Int)) aa aa,gK aa aa];omega
theorem Z9{P:Nat->Nat}(hM:dp w C L lc lp pb st r P)(lj:lc<=4)(Dn:lp<=4)(A:As)(H:An)(c:Nat)(hB:Bytes w A H)(hc:H.length<=c)(hH:H.length<=1000000000):
  Calls prog 255 #[PF C,.slice A H.length c] w (Ef (.int .i64 (xI lc lp H:Nat)) w):=by
 obtain⟨c0,c1,_⟩:=hM.cells;have⟨K,hK⟩:=ex (xI lc lp H);rw[hK];unfold xI at hK;have oj:(H.length:Int)<=c:=aa;have hHi:(H.length:Int)<=1000000000:=aa;by_cases h0:0<H.length
 ·have h0i:0<(H.length:Int):=by omega
  rw[ax h0]at hK;obtain⟨b,off,rfl,_,cZ⟩:=hB.addr h0;have cx:=cZ (H.length-1) aa;rw[<-dQ]at cx;generalize H.getD (H.length-1) 0=u at*;have⟨y,hy⟩:=ex (H.length-1);rw[hy]at cx;have hyi:(H.length:Int)-1=(y:Int):=aa;have i':(y:Int)<H.length:=aa;have HK:=ae hK;clear hK cZ hB hy;go_enter func255,ntmps255;go_wp2;go_quiet (fail);go_wp2;go_ret;have e:=Pj lj Dn (u:=u.toNat) u.toNat_lt HK.out;have e0:wrap64 (u.toNat:Int)=u.toNat:=gK aa (av u.toNat_lt);refine⟨?_,below_drewN (aP _ _) _⟩;show Ending.returned (Value.int .i64 _)=_;rw[e0,e]
 ·have h0i: ¬0<(H.length:Int):=by omega
  rw[au h0]at hK;have HK:=ae hK;clear hK hB;go_enter func255,ntmps255;go_wp2;go_quiet (fail);go_wp2;go_ret;have e:=Pj lj Dn (u:=0) ar HK.out;rw[show(((0:Nat):Nat):Int)/2^(8-lc)=0 by simp,Int.add_zero]at e;refine⟨?_,below_drewN (aP _ _) _⟩;show Ending.returned (Value.int .i64 _)=_;exact aR (λn:Int=>Ending.returned (Value.int .i64 n)) e
theorem Bp{W1:Lo}{v0 v1 v2 v3 v4:Value}(h:(w.alloc (.cells #[v0,v1,v2,v3,v4] 183)).alloc (.cells #[.int .i64 0,.int .u8 0,.int .i64 0,.int .i64 0,.int .i64 0] 183)=W1):
  (W1.cell? ⟨w.heap.size,0,none⟩=some v0/\W1.cell? ⟨w.heap.size,1,none⟩=some v1/\W1.cell? ⟨w.heap.size,2,none⟩=some v2/\W1.cell? ⟨w.heap.size,3,none⟩=some v3/\W1.cell? ⟨w.heap.size,4,none⟩=some v4)/\
  W1.heap[w.heap.size+1]? =some (.cells [Value.int .i64 0,.int .u8 0,.int .i64 0,.int .i64 0,.int .i64 0].toArray 183 (0,0)):=by
 have h0:W1.heap[w.heap.size]? =some (.cells [v0,v1,v2,v3,v4].toArray 183 (0,0)):=by rw[<-h];exact(ee _ _ _ ah).trans (bz w _)
 have h1:W1.heap[w.heap.size+1]? =some (.cells [Value.int .i64 0,.int .u8 0,.int .i64 0,.int .i64 0,.int .i64 0].toArray 183 (0,0)):=by rw[<-h];have h:=bz (w.alloc (.cells #[v0,v1,v2,v3,v4] 183)) (.cells #[.int .i64 0,.int .u8 0,.int .i64 0,.int .i64 0,.int .i64 0] 183);simpa using h
 refine⟨⟨?_,?_,?_,?_,?_⟩,h1⟩<;>(rw[aC W1 _ _ _ _ _ h0];rfl)
theorem qZ{io:Io}{x:io.S}(h:iY io C L lc lp pb st r x X (w.drewN n) w'):iY io C L lc lp pb st r x X w w':=by obtain⟨X',hM,dm,hX⟩:=h;exact⟨X',hM,aM.pc dm,hX⟩
theorem MS.front{io:Io}{x:io.S}(h:MS io w C L lc lp pb st r x X)(hm:dp w' C L lc lp pb st r' x.1)(ho:aM [C] w w'):MS io w' C L lc lp pb st r' x X:=
 ⟨hm,io.aU h.io ho.size (λi hi=>ho.block i (io.lt h.io i hi) (λe=>h.vt Fx)),h.vt,h.zp⟩
theorem Uy(io:Io){x:io.S}(hM:MS io w C L lc lp pb st r x X)(hp:p<16)(kk:Int)(b:UInt8)(l d q:Int)(IR:0<=l)(zq:l<=300)(hd0:0<=d)(Dl:d<=4294967295)
  {n dd:Nat} {y Z:io.S} (lr:Md.len io 432 p l x=(n,y)) (kh:Md.d6 io n d y=(dd,Z)) (bK:io.ok x.2 (k+52)):
  Calls prog 235 #[PF C,io.v,.int .i64 p,mq kk b l d q] w (ph (2<=n/\n<=273/\1<=dd/\dd<=4294967296/\io.ok Z.2 k) (lK (mq 1 0 (n:Nat) (dd:Nat) 0) io C L lc lp pb (if st<7 then 7 else 10) (ie r 3 (dd:Nat)) Z X w)):=by
 have⟨ls,Uz⟩:=ex ((if st<7 then 7 else 10));rw[Uz];have L9:=ae Uz;obtain⟨r',Pm⟩: ∃r',ie r 3 (dd:Nat)=r':=⟨_,rfl⟩
 rw[Pm];have HR':=ae Pm;have⟨Q,hQ⟩:=ex ((2<=n/\n<=273/\1<=dd/\dd<=4294967296/\io.ok Z.2 k));rw[hQ];have HQ:=ae hQ;clear Uz Pm hQ;have jR:Hid (∀i∈C::L::X,i<w.heap.size):=ae (by
  intro i hi;simp only[dc]at hi;rcases hi with rfl|rfl|hi;·exact hM.mod.Hq
  ·exact hM.mod.FX
  ·exact io.lt hM.io i hi)
 have⟨bs,qT⟩:=ex (w.heap.size+1);have kX:=ae qT;clear qT;have⟨W1,ek⟩:=ex ((w.alloc (.cells #[.int .i64 kk,.int .u8 b.toNat,.int .i64 l,.int .i64 d,.int .i64 q] 183)).alloc (.cells #[.int .i64 0,.int .u8 0,.int .i64 0,.int .i64 0,.int .i64 0] 183));have aI:aq w W1:=by rw[<-ek];exact(az).alloc ah _
 have ij:=hM.below aI;obtain⟨Y9,oN⟩:=Bp ek;rw[kX.out]at oN;have xd:=ae ek;have mT:=ae ij;have gT:=ae Y9;have lV:=ae oN;have bF:=ae aI;have ne1:C≠bs:=λe=>by have:=jR.out C ah;have:=kX.out;omega
 have TG:bs≠C:=λe=>ne1 e.symm;have ki:Hid (w.heap.size ∉ C::L::X/\bs ∉ C::L::X):=ae ⟨λh=>av (jR _ h),λh=>Fz⟩;clear ek ij Y9 oN aI hM;have gC:=ae (L8 io (mT.drewN 1) lr (k:=k+42) bK (.inl rfl) hp IR zq);have qy:=ae kh;have ud:(p:Int)<16:=aa;have bu:=gT.2.2.1;clear lr kh bK;go_enter func235,ntmps235;go_upto_region 1 with fail;rw[xd.out,kX.out];refine wp_region_held_drew (S:=λw2=>w2.cell? ⟨w.heap.size,2,none⟩=some (.int .i64 l)) ak bu (λhS=> ?_);refine ag 0 hS (h:=ag 1 hS (h:=ag 2 hS (h:=ag 3 hS (h:=ag 4 hS (h:=ag 5 hS (h:=bN 6 hS (h:= ?_)))))));refine aO 7 (λK hK=> ?_);go_simp;refine gC.mono ?_;rintro e x4 ⟨⟨rfl,yw⟩,DE,yv,ok4⟩;obtain⟨X4,Ma,lq,hX4⟩:=(show iY io C L lc lp pb st r y X W1 x4 from qZ yw)
 have Mb:=ae lq;have g4:=aw Mb.out ki.1 gT.2.2.1;have Dz:=ae Ma;have HX4:=ae hX4;have QG:=ae ok4;have Za:=ae (ap DE yv);have axG:(n:Int)<=273:=aa;clear Ma lq hX4 ok4 DE yv;go_wp2_with fail;refine hK _ _ g4 (λ_=> ?_);clear hK K;refine ag 8 g4 (h:= ?_);refine wpAnyH_done ak ?_ _;have g4':=aw Mb.out ki.1 gT.2.2.2.1;clear hS g4 bu gC;have ah7:=ae (Z6 io (Dz.drewN 1) qy.out QG.out Za.1 (av Za.out) hd0 Dl);have bu:=g4';have axH:=HX4;go_upto_region 2 with fail;refine wp_region_held_drew (S:=λw2=>w2.cell? ⟨w.heap.size,3,none⟩=some (.int .i64 d)) ak bu (λhS=> ?_);refine ag 0 hS (h:=ag 1 hS (h:=ag 2 hS (h:=ag 3 hS (h:=ag 4 hS (h:=ag 5 hS (h:=bN 6 hS (h:= ?_)))))));refine aO 7 (λK hK=> ?_);go_simp;refine ah7.mono ?_;rintro e x5 ⟨⟨rfl,TH⟩,Dl,Lf,ok5⟩;obtain⟨X5,p',ra,hX5⟩:=iY.trans Mb.out HX4.out (show iY io C L lc lp pb st r Z X4 x4 x5 from qZ TH);have ah9:=ae ra;have g5:=aw ah9.out ki.1 gT.2.2.2.1;have UA:=ae p';have HX5:=ae hX5;have IW:=ae ok5;have HD5:=ae (ap Dl Lf);clear p' ra hX5 ok5 Dl Lf TH;go_wp2_with fail;refine hK _ _ g5 (λ_=> ?_);clear hK K;refine ag 8 g5 (h:= ?_);refine wpAnyH_done ak ?_ _;clear hS g5 bu ah7 g4';have Ht:=ae (xG UA.mod 3 aa (dd:Nat));rw[HR'.out]at Ht;have ia:Hid (∀i∈X5,i∈X\/W1.heap.size<=i):=HX5;go_wp2_with fail;refine Ht.mono ?_;rintro e x6 ⟨rfl,hm6,lf⟩;have Do:=UA.front hm6 lf;have lY:aM (C::L::X) W1 x6:=ah9.trans lf (λi hi=> .inl (by simp at hi;simp[hi]));have u':=ae Do;have pf:=ae lY;obtain⟨_,_,_,c3,_⟩:=Do.mod.cells;have f3:=Do.mod.kR 3;have Mc:=pj st 7 10 x6;rw[L9.out]at Mc;have TI:=ae Mc;have oN:=(pf.block bs qI ki.2).trans lV.out;have z0:x6.cell? ⟨bs,0,none⟩=some (.int .i64 0):=AO;have z1:x6.cell? ⟨bs,1,none⟩=some (.int .u8 0):=AO;have z2:x6.cell? ⟨bs,2,none⟩=some (.int .i64 0):=AO;have z3:x6.cell? ⟨bs,3,none⟩=some (.int .i64 0):=AO;have z4:x6.cell? ⟨bs,4,none⟩=some (.int .i64 0):=AO;have zf: ∀i,x6.frozen? ⟨bs,i,none⟩=false:=λi=>aS _ _ _ _ _ oN;have IY:=zf 0;have IZ:=zf 1;have UB:=zf 2;have UC:=zf 3;have zf4:=zf 4;clear oN zf;clear hm6 lf Do lY Mc Ht;go_wp2_with fail;refine TI.mono ?_;rintro e x7 ⟨rfl,rfl⟩;go_wp2_with fail;refine bA (v:=mq 1 0 (n:Nat) (dd:Nat) 0) (by simp[results,results235,go_sem,z0,z1,z2,z3,z4]) rfl ⟨⟨rfl,X5,?_,?_,?_⟩,by rw[<-HQ.out];exact⟨Za.1,Za.2,HD5.1,HD5.2,IW.out⟩⟩
 ·have lX:bs ∉ C::L::X5:=λh=>by
   simp only[dc]at h;rcases h with h|h|h;·exact TG h
   ·have:=jR.out L ah;have:=kX.out;omega
   ·rcases ia.out _ h with h|h;·have:=jR.out bs fO;have:=kX.out;omega
    ·have:=(bU lV.out);omega
  exact(((((u'.jT (k:=3) (st':=ls) (r':=r') ar rfl).bS lX _).bS lX _).bS lX _).bS lX _).bS lX _
 ·have h0:aM (C::L::X) w x6:=(aM.cJ bF.out).trans pf.out (λi hi=> .inl hi);have hn:bs∈C::L::X\/w.heap.size<=bs:= .inr (av kX.out);exact(((((h0.setCell (p:=⟨C,3,none⟩) (.inl ah) _).setCell (p:=⟨bs,0,none⟩) hn _).setCell (p:=⟨bs,1,none⟩) hn _).setCell (p:=⟨bs,2,none⟩) hn _).setCell (p:=⟨bs,3,none⟩) hn _).setCell (p:=⟨bs,4,none⟩) hn _
 ·intro i hi;rcases ia.out i hi with h|h;·exact .inl h
  ·exact .inr (a8 bF.size h)
theorem df{io:Io}{st':Nat}{x':io.S}{X1:List Nat}{w1 w2:Lo}(ho:aM (C::L::X) w w1/\ ∀i∈X1,i∈X\/w.heap.size<=i)(h:iY io C L lc lp pb st' r' x' X1 (w1.drewN n) w2):iY io C L lc lp pb st' r' x' X w w2:=iY.trans ho.1 ho.2 (qZ h)
namespace Md
def which(io:Io)(st:Nat)(q:Int)(x:io.S):Nat×io.S:=
 let a:=io.aD (204+st) (q !=0) x
 if a.1=false then(0,a.2)
 else
  let b:=io.aD (216+st) (q !=1) a.2
  if b.1=false then(1,b.2)
  else
   let c:=io.aD (228+st) (q !=2) b.2
   (2+c.1.toNat,c.2)
def zt(io:Io)(st p:Nat)(l q:Int)(x:io.S):(Nat×Nat)×io.S:=
 let w:=which io st q x
 if w.1=0 then
  let s:=io.aD (240+16*st+p) (l !=1) w.2
  if s.1=false then((0,1),s.2)
  else
   let n:=len io 946 p l s.2
   ((0,n.1),n.2)
 else
  let n:=len io 946 p l w.2
  ((w.1,n.1),n.2)
end Md
theorem UD(io:Io){x:io.S}(hM:MS io w C L lc lp pb st r x X)(da:st<12){wh:Nat}{q:Int}{Z:io.S}(hR:Md.which io st q x=(wh,Z))(bK:io.ok x.2 (k+3)):
  Calls prog 261 #[PF C,io.v,.int .i64 q] w (ph (wh<=3/\io.ok Z.2 k) (lK (.int .i64 wh) io C L lc lp pb st r Z X w)):=by
 have⟨Q,hQ⟩:=ex ((wh<=3/\io.ok Z.2 k));rw[hQ];have HQ:=ae hQ;have Me:(st:Int)<12:=aa;have jm:=ae da;unfold Md.which at hR;obtain⟨⟨A,y⟩,hy⟩: ∃z,io.aD (204+st) (q !=0) x=z:=⟨_,rfl⟩
 obtain⟨h1,lL⟩:=pg io (hM.drewN 1) hy (at_:=204) (j:=st) (len:=12) (cp:=12) (b:=C) (off:=212) rfl (k:=k+2) bK (Md.oh rfl aa) da aa aa;simp only[hy]at hR;have H1:=ae h1;have mU:=ae lL;have HR:=ae hR;have aia:aM (C::L::X) w w/\ ∀i∈X,i∈X\/w.heap.size<=i:=⟨aM.refl _ _,λi hi=> .inl hi⟩
 have adf:=ae aia;have bu:=hM.mod.cells.2.2.2.1;have ju:=bu;clear hy hR h1 lL bK hQ hM da aia;go_enter func261,ntmps261;go_upto_region 2 with fail;refine wp_region_held_drew (S:=λw2=>w2.cell? ⟨C,3,none⟩=some (.int .i64 st)) ak bu (λhS=> ?_);refine ag 0 hS (h:=ag 1 hS (h:=ag 2 hS (h:=ag 3 hS (h:=ag 4 hS (h:=ag 5 hS (h:=ag 6 hS (h:=ag 7 hS (h:=bN 8 hS (h:=ag 9 hS (h:=ag 10 hS (h:= ?_)))))))))));refine aO 11 (λK hK=> ?_);go_simp;refine H1.mono ?_;rintro e x1 ⟨rfl,UE⟩;obtain⟨X1,Mf,Eg,UF⟩:=df adf.out UE;have Mg:=ae Mf;have vz:=ae (ap Eg UF);have gx1:=Mf.mod.cells.2.2.2.1;clear Mf Eg UF UE;go_wp2_with fail;refine hK _ _ gx1 (λ_=> ?_);clear hK K;refine ag 12 gx1 (h:=ag 13 gx1 (h:= ?_));refine wpAnyH_done ak ?_ _;clear hS bu ju H1;cases A with
 | false=>
  have hR:=HR.out;simp only[if_true]at hR;injection hR with lr kh;have qX:=ae (ap lr.symm kh.symm);clear lr kh;rw[show et false=0 from rfl];go_wp2;go_ret;obtain⟨e1,e2⟩:=qX.out;subst e1 e2;exact⟨⟨rfl,X1,Mg.out,vz.1,vz.2⟩,by rw[<-HQ.out];exact⟨aa,io.le mU.out aa⟩⟩
 | true=>
  have hR:=HR.out;simp only[Bool.true_eq_false,if_false]at hR;obtain⟨⟨B,y2⟩,hy⟩: ∃z,io.aD (216+st) (q !=1) y=z:=⟨_,rfl⟩
  obtain⟨h1,lL⟩:=pg io (Mg.drewN 1) hy (at_:=216) (j:=st) (len:=12) (cp:=12) (b:=C) (off:=224) rfl (k:=k+1) mU.out (Md.oh rfl aa) jm.out aa aa;simp only[hy]at hR;have H1:=ae h1;have fS:=ae lL;have qy:=ae hR;clear hy hR h1 lL;rw[show et true=1 from rfl];have bu:=Mg.mod.cells.2.2.2.1;go_upto_region 4 with fail;refine wp_region_held_drew (S:=λw2=>w2.cell? ⟨C,3,none⟩=some (.int .i64 st)) ak bu (λhS=> ?_);refine ag 0 hS (h:=ag 1 hS (h:=ag 2 hS (h:=ag 3 hS (h:=ag 4 hS (h:=ag 5 hS (h:=ag 6 hS (h:=ag 7 hS (h:=bN 8 hS (h:=ag 9 hS (h:=ag 10 hS (h:= ?_)))))))))));refine aO 11 (λK hK=> ?_);go_simp;refine H1.mono ?_;rintro e x2 ⟨rfl,UG⟩;obtain⟨X2,Mh,Eh,UH⟩:=df vz.out UG;have QH:=ae Mh;have qn:=ae (ap Eh UH);have gx2:=Mh.mod.cells.2.2.2.1;clear Mh Eh UH UG;go_wp2_with fail;refine hK _ _ gx2 (λ_=> ?_);clear hK K;refine ag 12 gx2 (h:=ag 13 gx2 (h:= ?_));refine wpAnyH_done ak ?_ _;clear hS bu H1;cases B with
  | false=>
   have hR:=qy.out;simp only[if_true]at hR;injection hR with lr kh;have qX:=ae (ap lr.symm kh.symm);clear lr kh;rw[show et false=0 from rfl];go_wp2;go_ret;obtain⟨e1,e2⟩:=qX.out;subst e1 e2;exact⟨⟨rfl,X2,QH.out,qn.1,qn.2⟩,by rw[<-HQ.out];exact⟨aa,io.le fS.out aa⟩⟩
  | true=>
   have hR:=qy.out;simp only[Bool.true_eq_false,if_false]at hR;obtain⟨⟨D,y3⟩,hy⟩: ∃z,io.aD (228+st) (q !=2) y2=z:=⟨_,rfl⟩
   obtain⟨h1,lL⟩:=pg io (QH.drewN 1) hy (at_:=228) (j:=st) (len:=12) (cp:=12) (b:=C) (off:=236) rfl (k:=k) fS.out (Md.oh rfl aa) jm.out aa aa;simp only[hy]at hR;injection hR with lr kh;have qX:=ae (ap lr.symm kh.symm);have H1:=ae h1;have Mi:=ae lL;clear hy lr kh h1 lL;rw[show et true=1 from rfl];have bu:=QH.mod.cells.2.2.2.1;go_upto_region 1 with fail;refine wp_region_held_drew (S:=λw2=>w2.cell? ⟨C,3,none⟩=some (.int .i64 st)) ak bu (λhS=> ?_);refine ag 0 hS (h:=ag 1 hS (h:=ag 2 hS (h:=ag 3 hS (h:=ag 4 hS (h:=ag 5 hS (h:=ag 6 hS (h:=ag 7 hS (h:=bN 8 hS (h:=ag 9 hS (h:=ag 10 hS (h:= ?_)))))))))));refine aO 11 (λK hK=> ?_);go_simp;refine H1.mono ?_;rintro e x3 ⟨rfl,aib⟩;obtain⟨X3,adg,abF,aic⟩:=df qn.out aib;have aoR:=ae adg;have aid:=ae (ap abF aic);have gx3:=adg.mod.cells.2.2.2.1;clear adg abF aic aib;go_wp2_with fail;refine hK _ _ gx3 (λ_=> ?_);clear hK K;refine ag 12 gx3 (h:=ag 13 gx3 (h:= ?_));refine wpAnyH_done ak ?_ _;clear hS bu H1;have hB:et D=(D.toNat:Int):=(by cases D<;>rfl);have hBl:D.toNat<=1:=(by cases D<;>decide);go_wp2;go_ret;obtain⟨e1,e2⟩:=qX.out;subst e1 e2;refine⟨⟨?_,X3,aoR.out,aid.1,aid.2⟩,by rw[<-HQ.out];exact⟨aa,Mi.out⟩⟩;refine aR (λn:Int=>Ending.returned (Value.int .i64 n)) ?_;simp only[hB,IntKind.wrap_i64];omega
theorem z'(io:Io){x:io.S}(hM:MS io w C L lc lp pb st r x X)(da:st<12)(hp:p<16)(kk:Int)(b:UInt8)(l d q:Int)(IR:0<=l)(zq:l<=300)
  {wh n:Nat} {Z:io.S} (hR:Md.zt io st p l q x=((wh,n),Z)) (bK:io.ok x.2 (k+14)):
  Calls prog 236 #[PF C,io.v,.int .i64 p,mq kk b l d q] w (ph (wh<=3/\1<=n/\n<=273/\(n=1->wh=0)/\io.ok Z.2 k) (lK (mq 2 0 (n:Nat) 0 (wh:Nat)) io C L lc lp pb (if st<7 then(if n=1 then 9 else 8)else 11) (ie r wh (r4 r.1 r.2.1 r.2.2.1 r.2.2.2 wh)) Z X w)):=by
 have⟨ls,Uz⟩:=ex ((if st<7 then(if n=1 then 9 else 8)else 11));rw[Uz];have L9:=ae Uz;obtain⟨r',Pm⟩: ∃r',ie r wh (r4 r.1 r.2.1 r.2.2.1 r.2.2.2 wh)=r':=⟨_,rfl⟩
 rw[Pm];have HR':=ae Pm;have⟨Q,hQ⟩:=ex ((wh<=3/\1<=n/\n<=273/\(n=1->wh=0)/\io.ok Z.2 k));rw[hQ];have HQ:=ae hQ;clear Uz Pm hQ;have jR:Hid (∀i∈C::L::X,i<w.heap.size):=ae (by
  intro i hi;simp only[dc]at hi;rcases hi with rfl|rfl|hi;·exact hM.mod.Hq
  ·exact hM.mod.FX
  ·exact io.lt hM.io i hi)
 have⟨bs,qT⟩:=ex (w.heap.size+1);have kX:=ae qT;clear qT;have⟨W1,ek⟩:=ex ((w.alloc (.cells #[.int .i64 kk,.int .u8 b.toNat,.int .i64 l,.int .i64 d,.int .i64 q] 183)).alloc (.cells #[.int .i64 0,.int .u8 0,.int .i64 0,.int .i64 0,.int .i64 0] 183));have aI:aq w W1:=by rw[<-ek];exact(az).alloc ah _
 have ij:=hM.below aI;obtain⟨Y9,oN⟩:=Bp ek;rw[kX.out]at oN;have xd:=ae ek;have mT:=ae ij;have gT:=ae Y9;have lV:=ae oN;have bF:=ae aI;have ne1:C≠bs:=λe=>by have:=jR.out C ah;have:=kX.out;omega
 have TG:bs≠C:=λe=>ne1 e.symm;have ki:Hid (w.heap.size ∉ C::L::X/\bs ∉ C::L::X):=ae ⟨λh=>av (jR _ h),λh=>Fz⟩;clear ek ij Y9 oN aI hM;unfold Md.zt at hR;obtain⟨⟨v,y⟩,hy⟩: ∃z,Md.which io st q x=z:=⟨_,rfl⟩
 simp only[hy]at hR;have HWH:=ae (UD io mT.out da hy (k:=k+11) bK);have ud:(p:Int)<16:=aa;have Me:(st:Int)<12:=aa;have jM:=gT.2.2.2.2;have HR:=ae hR;clear hy hR bK;go_enter func236,ntmps236;go_upto_region 1 with fail;rw[xd.out,kX.out];go_wp2_with fail;refine HWH.mono ?_;rintro e x4 ⟨⟨rfl,yw⟩,hv3,ok4⟩;obtain⟨X4,Ma,lq,hX4⟩:=yw;have Dz:=ae Ma;have vA:=ae (ap lq hX4);have QG:=ae ok4;have bu:=ap Ma.mod.cells.2.2.2.1 (aw lq ki.1 gT.2.2.1);clear Ma lq hX4 ok4 HWH jM;by_cases hv:v=0
 ·subst hv;have hR:=HR.out;rw[ax rfl]at hR;obtain⟨⟨B,y2⟩,hy⟩: ∃z,io.aD (240+16*st+p) (l !=1) y=z:=⟨_,rfl⟩
  obtain⟨h1,lL⟩:=pg io (Dz.drewN 1) hy (at_:=240+16*st) (j:=p) (len:=16) (cp:=16) (b:=C) (off:=248+st*16) rfl (k:=k+10) QG.out (Md.oh aa aa) hp aa aa;simp only[hy]at hR;have tE:=ae h1;have IW:=ae lL;have qy:=ae hR;clear hy hR h1 lL;go_upto_region 2 with fail;refine wp_region_held_drew (S:=λw2=>w2.cell? ⟨C,3,none⟩=some (.int .i64 st)/\w2.cell? ⟨w.heap.size,2,none⟩=some (.int .i64 l)) ak bu (λhS=> ?_);refine ag 0 hS (h:=ag 1 hS (h:=ag 2 hS (h:=ag 3 hS (h:=ag 4 hS (h:=ag 5 hS (h:=ag 6 hS (h:=ag 7 hS (h:=bN 8 hS (h:=ag 9 hS (h:=ag 10 hS (h:=ag 11 hS (h:= ?_))))))))))));refine ag 12 hS (h:=ag 13 hS (h:=ag 14 hS (h:=bN 15 hS (h:=ag 16 hS (h:= ?_)))));refine aO 17 (λK hK=> ?_);go_simp;refine tE.mono ?_;rintro e x5 ⟨rfl,TH⟩;obtain⟨X5,p',ra,hX5⟩:=df vA.out TH;have UA:=ae p';have Bq:=ae (ap ra hX5);have g5:=ap p'.mod.cells.2.2.2.1 (aw ra ki.1 gT.2.2.1);clear p' ra hX5 TH;go_wp2_with fail;refine hK _ _ g5 (λ_=> ?_);clear hK K;refine ag 18 g5 (h:=ag 19 g5 (h:= ?_));refine wpAnyH_done ak ?_ _;clear hS bu tE g5;cases B with
  | false=>
   have hR:=qy.out;simp only[if_true]at hR;injection hR with lr kh;injection lr with lr TJ;have qX:Hid (wh=0/\n=1/\Z=y2):=ae ⟨lr.symm,TJ.symm,kh.symm⟩;clear lr kh TJ;rw[show et false=0 from rfl];obtain⟨_,_,_,c3,_⟩:=UA.mod.cells;have f3:=UA.mod.kR 3;have Mc:=pj st 9 11 x5;rw[show(if st<7 then 9 else 11)=ls from by rw[<-L9.out,qX.2.1];rfl]at Mc;have TI:=ae Mc;have pf:Hid (aM (C::L::X) W1 x5):=ae Bq.1;have ia:Hid (∀i∈X5,i∈X\/W1.heap.size<=i):=ae Bq.2;have HRR:Hid (r'=r):=ae (by rw[<-HR'.out,qX.1];rfl);have oN:=(pf.block bs qI ki.2).trans lV.out;have z0:x5.cell? ⟨bs,0,none⟩=some (.int .i64 0):=AQ;have z1:x5.cell? ⟨bs,1,none⟩=some (.int .u8 0):=AQ;have z2:x5.cell? ⟨bs,2,none⟩=some (.int .i64 0):=AQ;have z3:x5.cell? ⟨bs,3,none⟩=some (.int .i64 0):=AQ;have z4:x5.cell? ⟨bs,4,none⟩=some (.int .i64 0):=AQ;have zf: ∀i,x5.frozen? ⟨bs,i,none⟩=false:=λi=>aS _ _ _ _ _ oN;have IY:=zf 0;have IZ:=zf 1;have UB:=zf 2;have UC:=zf 3;have zf4:=zf 4;clear oN zf;clear Mc;go_wp2_with fail;refine TI.mono ?_;rintro e x8 ⟨rfl,rfl⟩;go_wp2_with fail;rw[qX.2.2,HRR.out];refine bA (v:=mq 2 0 (n:Nat) 0 (wh:Nat)) (by simp[results,results236,go_sem,qX.1,qX.2.1,z0,z1,z2,z3,z4]) rfl ⟨⟨rfl,X5,?_,?_,?_⟩,by rw[<-HQ.out,qX.2.2];have:=qX.out;exact⟨aa,aa,aa,aa,io.le IW.out aa⟩⟩
   ·have lX:bs ∉ C::L::X5:=λh=>by
     simp only[dc]at h;rcases h with h|h|h;·exact TG h
     ·have:=jR.out L ah;have:=kX.out;omega
     ·rcases ia.out _ h with h|h;·have:=jR.out bs fO;have:=kX.out;omega
      ·have:=(bU lV.out);omega
    exact(((((UA.jT (k:=3) (st':=ls) (r':=r) ar rfl).bS lX _).bS lX _).bS lX _).bS lX _).bS lX _
   ·have h0:aM (C::L::X) w x5:=(aM.cJ bF.out).trans pf.out (λi hi=> .inl hi);have hn:bs∈C::L::X\/w.heap.size<=bs:= .inr (av kX.out);exact(((((h0.setCell (p:=⟨C,3,none⟩) (.inl ah) _).setCell (p:=⟨bs,0,none⟩) hn _).setCell (p:=⟨bs,1,none⟩) hn _).setCell (p:=⟨bs,2,none⟩) hn _).setCell (p:=⟨bs,3,none⟩) hn _).setCell (p:=⟨bs,4,none⟩) hn _
   ·intro i hi;rcases ia.out i hi with h|h;·exact .inl h
    ·exact .inr (a8 bF.size h)
  | true=>
   have hR:=qy.out;simp only[Bool.true_eq_false,if_false]at hR;obtain⟨⟨n2,z⟩,hz⟩: ∃q,Md.len io 946 p l y2=q:=⟨_,rfl⟩
   simp only[hz]at hR;injection hR with lr kh;injection lr with lr TJ;subst lr kh TJ;have HZ:=ae hz;clear hz;rw[show et true=1 from rfl];have bu:=aw Bq.1 ki.1 gT.2.2.1;have gC:=ae (L8 io (UA.drewN 1) HZ.out (k:=k) (io.le IW.out aa) (.inr rfl) hp IR zq);go_upto_region 5 with fail;refine wp_region_held_drew (S:=λw2=>w2.cell? ⟨w.heap.size,2,none⟩=some (.int .i64 l)) ak bu (λhS=> ?_);refine ag 0 hS (h:=ag 1 hS (h:=ag 2 hS (h:=ag 3 hS (h:=ag 4 hS (h:=ag 5 hS (h:=bN 6 hS (h:= ?_)))))));refine aO 7 (λK hK=> ?_);go_simp;refine gC.mono ?_;rintro e x6 ⟨⟨rfl,Dm⟩,DE,yv,ok6⟩;obtain⟨X6,Do,lY,hX6⟩:=df Bq.out Dm;have g6:=aw lY ki.1 gT.2.2.1;have u':=ae Do;have Pn:=ae (ap lY hX6);have ZD:=ae ok6;have TC:=ae (ap DE yv);have aoT:(n2:Int)<=273:=aa;clear Do lY hX6 ok6 DE yv Dm;go_wp2_with fail;refine hK _ _ g6 (λ_=> ?_);clear hK K;refine ag 8 g6 (h:= ?_);refine wpAnyH_done ak ?_ _;clear hS bu gC g6;obtain⟨_,_,_,_,c4,c5,c6,c7⟩:=u'.mod.cells;have Ht:=ae (xG u'.mod 0 aa (r4 r.1 r.2.1 r.2.2.1 r.2.2.2 0));rw[HR'.out]at Ht;have ia:Hid (∀i∈X6,i∈X\/W1.heap.size<=i):=ae Pn.2;have UI:x6.cell? ⟨C,4+0,none⟩=some (.int .i64 (r4 r.1 r.2.1 r.2.2.1 r.2.2.2 0)):=by
    have h3:0<=3:=aa;rcases(by omega:0=0\/0=1\/0=2\/0=3)with h|h|h|h;·rw[h];exact c4
    ·rw[h];exact c5
    ·rw[h];exact c6
    ·rw[h];exact c7
   have⟨RQ,hRQ⟩:=ex (r4 r.1 r.2.1 r.2.2.1 r.2.2.2 0);rw[hRQ]at UI Ht;clear hRQ c4 c5 c6 c7;go_wp2_with fail;refine Ht.mono ?_;rintro e x7 ⟨rfl,QI,te⟩;have B':=u'.front QI te;have UJ:aM (C::L::X) W1 x7:=Pn.1.trans te (λi hi=> .inl (by simp at hi;simp[hi]));have HM7:=ae B';have pf:=ae UJ;obtain⟨_,_,_,c3,_⟩:=B'.mod.cells;have f3:=B'.mod.kR 3;have Mc:=pj st 8 11 x7;rw[show(if st<7 then 8 else 11)=ls from by rw[<-L9.out];split;rw[au (av TC.1)];rfl]at Mc;have TI:=ae Mc;have oN:=(pf.block bs qI ki.2).trans lV.out;have z0:x7.cell? ⟨bs,0,none⟩=some (.int .i64 0):=nI;have z1:x7.cell? ⟨bs,1,none⟩=some (.int .u8 0):=nI;have z2:x7.cell? ⟨bs,2,none⟩=some (.int .i64 0):=nI;have z3:x7.cell? ⟨bs,3,none⟩=some (.int .i64 0):=nI;have z4:x7.cell? ⟨bs,4,none⟩=some (.int .i64 0):=nI;have zf: ∀i,x7.frozen? ⟨bs,i,none⟩=false:=λi=>aS _ _ _ _ _ oN;have IY:=zf 0;have IZ:=zf 1;have UB:=zf 2;have UC:=zf 3;have zf4:=zf 4;clear oN zf;clear QI te B' UJ Mc Ht UI;go_wp2_with fail;refine TI.mono ?_;rintro e x8 ⟨rfl,rfl⟩;go_wp2_with fail;refine bA (v:=mq 2 0 (n2:Nat) 0 ((0:Nat):Int)) (by simp[results,results236,go_sem,z0,z1,z2,z3,z4]) rfl ⟨⟨rfl,X6,?_,?_,?_⟩,by rw[<-HQ.out];have:=TC.out;exact⟨aa,aa,aa,aa,ZD.out⟩⟩
   ·have lX:bs ∉ C::L::X6:=λh=>by
     simp only[dc]at h;rcases h with h|h|h;·exact TG h
     ·have:=jR.out L ah;have:=kX.out;omega
     ·rcases ia.out _ h with h|h;·have:=jR.out bs fO;have:=kX.out;omega
      ·have:=(bU lV.out);omega
    exact(((((HM7.jT (k:=3) (st':=ls) (r':=r') ar rfl).bS lX _).bS lX _).bS lX _).bS lX _).bS lX _
   ·have h0:aM (C::L::X) w x7:=(aM.cJ bF.out).trans pf.out (λi hi=> .inl hi);have hn:bs∈C::L::X\/w.heap.size<=bs:= .inr (av kX.out);exact(((((h0.setCell (p:=⟨C,3,none⟩) (.inl ah) _).setCell (p:=⟨bs,0,none⟩) hn _).setCell (p:=⟨bs,1,none⟩) hn _).setCell (p:=⟨bs,2,none⟩) hn _).setCell (p:=⟨bs,3,none⟩) hn _).setCell (p:=⟨bs,4,none⟩) hn _
   ·intro i hi;rcases ia.out i hi with h|h;·exact .inl h
    ·exact .inr (a8 bF.size h)
 ·have hR:=HR.out;rw[au hv]at hR;have hvb:((v:Int)==0)=false:=beq_eq_false_iff_ne.2 aa;have hvi:(v:Int)<4:=aa;obtain⟨⟨n2,z⟩,hz⟩: ∃q,Md.len io 946 p l y=q:=⟨_,rfl⟩
  simp only[hz]at hR;injection hR with lr kh;injection lr with lr TJ;subst lr kh TJ;have HZ:=ae hz;clear hz;go_upto_region 2 with fail;refine wp_region_held_drew (S:=λw2=>w2.cell? ⟨C,3,none⟩=some (.int .i64 st)/\w2.cell? ⟨w.heap.size,2,none⟩=some (.int .i64 l)) ak bu (λhS=> ?_);refine ag 0 hS (h:=ag 1 hS (h:=ag 2 hS (h:=dD 3 hS (h:=dD 4 hS (h:=dD 5 hS (h:=dD 6 hS (h:=dD 7 hS (h:=dD 8 hS (h:=dD 9 hS (h:=dD 10 hS (h:=dD 11 hS (h:= ?_))))))))))));refine dD 12 hS (h:=dD 13 hS (h:=dD 14 hS (h:=dD 15 hS (h:=dD 16 hS (h:=dD 17 hS (h:=dD 18 hS (h:=ag 19 hS (h:= ?_))))))));refine wpAnyH_done ak ?_ _;clear hS bu;have bu:=aw vA.1 ki.1 gT.2.2.1;have gC:=ae (L8 io (Dz.drewN 2) HZ.out (k:=k) (io.le QG.out aa) (.inr rfl) hp IR zq);go_upto_region 5 with fail;refine wp_region_held_drew (S:=λw2=>w2.cell? ⟨w.heap.size,2,none⟩=some (.int .i64 l)) ak bu (λhS=> ?_);refine ag 0 hS (h:=ag 1 hS (h:=ag 2 hS (h:=ag 3 hS (h:=ag 4 hS (h:=ag 5 hS (h:=bN 6 hS (h:= ?_)))))));refine aO 7 (λK hK=> ?_);go_simp;refine gC.mono ?_;rintro e x6 ⟨⟨rfl,Dm⟩,DE,yv,ok6⟩;obtain⟨X6,Do,lY,hX6⟩:=df vA.out Dm;have g6:=aw lY ki.1 gT.2.2.1;have u':=ae Do;have Pn:=ae (ap lY hX6);have ZD:=ae ok6;have TC:=ae (ap DE yv);have aoT:(n2:Int)<=273:=aa;clear Do lY hX6 ok6 DE yv Dm;go_wp2_with fail;refine hK _ _ g6 (λ_=> ?_);clear hK K;refine ag 8 g6 (h:= ?_);refine wpAnyH_done ak ?_ _;clear hS bu gC g6;obtain⟨_,_,_,_,c4,c5,c6,c7⟩:=u'.mod.cells;have Ht:=ae (xG u'.mod v aa (r4 r.1 r.2.1 r.2.2.1 r.2.2.2 v));rw[HR'.out]at Ht;have ia:Hid (∀i∈X6,i∈X\/W1.heap.size<=i):=ae Pn.2;have UI:x6.cell? ⟨C,4+v,none⟩=some (.int .i64 (r4 r.1 r.2.1 r.2.2.1 r.2.2.2 v)):=by
   have h3:v<=3:=aa;rcases(by omega:v=0\/v=1\/v=2\/v=3)with h|h|h|h;·rw[h];exact c4
   ·rw[h];exact c5
   ·rw[h];exact c6
   ·rw[h];exact c7
  have⟨RQ,hRQ⟩:=ex (r4 r.1 r.2.1 r.2.2.1 r.2.2.2 v);rw[hRQ]at UI Ht;clear hRQ c4 c5 c6 c7;go_wp2_with fail;refine Ht.mono ?_;rintro e x7 ⟨rfl,QI,te⟩;have B':=u'.front QI te;have UJ:aM (C::L::X) W1 x7:=Pn.1.trans te (λi hi=> .inl (by simp at hi;simp[hi]));have HM7:=ae B';have pf:=ae UJ;obtain⟨_,_,_,c3,_⟩:=B'.mod.cells;have f3:=B'.mod.kR 3;have Mc:=pj st 8 11 x7;rw[show(if st<7 then 8 else 11)=ls from by rw[<-L9.out];split;rw[au (av TC.1)];rfl]at Mc;have TI:=ae Mc;have oN:=(pf.block bs qI ki.2).trans lV.out;have z0:x7.cell? ⟨bs,0,none⟩=some (.int .i64 0):=nI;have z1:x7.cell? ⟨bs,1,none⟩=some (.int .u8 0):=nI;have z2:x7.cell? ⟨bs,2,none⟩=some (.int .i64 0):=nI;have z3:x7.cell? ⟨bs,3,none⟩=some (.int .i64 0):=nI;have z4:x7.cell? ⟨bs,4,none⟩=some (.int .i64 0):=nI;have zf: ∀i,x7.frozen? ⟨bs,i,none⟩=false:=λi=>aS _ _ _ _ _ oN;have IY:=zf 0;have IZ:=zf 1;have UB:=zf 2;have UC:=zf 3;have zf4:=zf 4;clear oN zf;clear QI te B' UJ Mc Ht UI;go_wp2_with fail;refine TI.mono ?_;rintro e x8 ⟨rfl,rfl⟩;go_wp2_with fail;refine bA (v:=mq 2 0 (n2:Nat) 0 (v:Int)) (by simp[results,results236,go_sem,z0,z1,z2,z3,z4]) rfl ⟨⟨rfl,X6,?_,?_,?_⟩,by rw[<-HQ.out];have:=TC.out;exact⟨aa,aa,aa,aa,ZD.out⟩⟩
  ·have lX:bs ∉ C::L::X6:=λh=>by
    simp only[dc]at h;rcases h with h|h|h;·exact TG h
    ·have:=jR.out L ah;have:=kX.out;omega
    ·rcases ia.out _ h with h|h;·have:=jR.out bs fO;have:=kX.out;omega
     ·have:=(bU lV.out);omega
   exact(((((HM7.jT (k:=3) (st':=ls) (r':=r') ar rfl).bS lX _).bS lX _).bS lX _).bS lX _).bS lX _
  ·have h0:aM (C::L::X) w x7:=(aM.cJ bF.out).trans pf.out (λi hi=> .inl hi);have hn:bs∈C::L::X\/w.heap.size<=bs:= .inr (av kX.out);exact(((((h0.setCell (p:=⟨C,3,none⟩) (.inl ah) _).setCell (p:=⟨bs,0,none⟩) hn _).setCell (p:=⟨bs,1,none⟩) hn _).setCell (p:=⟨bs,2,none⟩) hn _).setCell (p:=⟨bs,3,none⟩) hn _).setCell (p:=⟨bs,4,none⟩) hn _
  ·intro i hi;rcases ia.out i hi with h|h;·exact .inl h
   ·exact .inr (a8 bF.size h)
theorem adj(x:UInt8)(j:Nat):(bits .and .u8 ((x.toNat:Nat)/2^j) 1==1)=Md.bg (x.toNat:Nat) j:=by have hle:x.toNat/2^j<=x.toNat:=Nat.div_le_self _ _;have hx:=x.toNat_lt;have e:(x.toNat:Int)/2^j=((x.toNat/2^j:Nat):Int):=ah;unfold Md.bg;rw[e,show(1:Int)=((1:Nat):Int)from rfl,u8_and_nat _ _ aa aa,nat_mask1,Bool.eq_iff_iff];simp
namespace Md
def iZ(io:Io)(T like:Nat)(v:Int):Nat->Nat->Bool->io.S->Nat×io.S
 | 0,m,_,x=>(m,x)
 | n+1,m,al,x=>
  iZ io T like v n (2*m+(io.aD (T+(if al then m+(256+256*(like/2^n%2))else m)) (bg v n) x).1.toNat) (al&&((io.aD (T+(if al then m+(256+256*(like/2^n%2))else m)) (bg v n) x).1.toNat==like/2^n%2))
   (io.aD (T+(if al then m+(256+256*(like/2^n%2))else m)) (bg v n) x).2
def lM(H:An)(a:Int):Nat:=if a<=(H.length:Int)then(H.getD (H.length-a.toNat) 0).toNat else 0
def lit(io:Io)(lc lp st:Nat)(a:Int)(H:An)(v:Int)(x:io.S):UInt8×io.S:=
 (UInt8.ofNat (iZ io (2180+768*xI lc lp H) (lM H a) v 8 1 (decide (7<=st)) x).1,(iZ io (2180+768*xI lc lp H) (lM H a) v 8 1 (decide (7<=st)) x).2)
theorem Br(H:An)(a:Int):lM H a<256:=by
 unfold lM;split;·exact(H.getD _ 0).toNat_lt
 ·decide
end Md
theorem adk(io:Io){x:io.S}(hM:MS io w C L lc lp pb st r x X)(lj:lc<=4)(Dn:lp<=4)(da:st<12)(hr:1<=r.1)(A:As)(H:An)(c:Nat)(hB:Bytes w A H)(hc:H.length<=c)(hH:H.length<=1000000000)
  (kk:Int) (b:UInt8) (l d q:Int) {R:UInt8} {Z:io.S} (hR:Md.lit io lc lp st r.1 H (b.toNat:Nat) x=(R,Z)) (bK:io.ok x.2 (k+8)):
  Calls prog 234 #[PF C,io.v,.slice A H.length c,mq kk b l d q] w (ph (io.ok Z.2 k) (lK (mq 0 R 0 0 0) io C L lc lp pb (fU st) r Z X w)):=by
 have⟨ls,Uz⟩:=ex (fU st);rw[Uz];have L9:=ae Uz;clear Uz;have⟨bs,qT⟩:=ex (w.heap.size+1);have kX:=ae qT;clear qT;have hHi:(H.length:Int)<=1000000000:=aa;have oj:(H.length:Int)<=c:=aa;have⟨W1,ek⟩:=ex ((w.alloc (.cells #[.int .i64 kk,.int .u8 b.toNat,.int .i64 l,.int .i64 d,.int .i64 q] 183)).alloc (.cells #[.int .i64 0,.int .u8 0,.int .i64 0,.int .i64 0,.int .i64 0] 183));have jR:Hid (∀i∈C::L::X,i<w.heap.size):=ae (by
  intro i hi;simp only[dc]at hi;rcases hi with rfl|rfl|hi;·exact hM.mod.Hq
  ·exact hM.mod.FX
  ·exact io.lt hM.io i hi)
 have aI:aq w W1:=by rw[<-ek];exact(az).alloc ah _
 have ij:=hM.below aI;have xd:=ae ek;have mT:=ae ij;have abH:=ij.mod.lit;have vC: ∀w',aq W1 w'->w'.cell? ⟨C,440,none⟩=some (.slice (some ⟨L,0,none⟩) (2^(lc+lp):Nat) (2^(lc+lp):Nat)):=λw' h=>(h.cell (p:=⟨C,440,none⟩) ij.mod.Hq).trans abH;have F5:=ae vC;have gx:=ae (hB.below aI);have sX:=F3 (lp:=lp) H (show lc<=8 by omega);have⟨K,hK⟩:=ex (xI lc lp H);have aii:=ae (fun(n:Nat)=>show Calls prog 255 #[PF C,.slice A H.length c] (W1.drewN n) (Ef (.int .i64 (K:Nat)) (W1.drewN n))from by
  rw[<-hK];exact Z9 (mT.drewN n).mod lj Dn A H c (gx.drewN n) hc hH)
 rw[hK]at sX;unfold Md.lit at hR;rw[hK]at hR;injection hR with lr kh;have HR:=ae (ap lr kh);have bF:=ae aI;have aoV:(K:Int)<((2^(lc+lp):Nat):Int):=aa;have h2s:2^(lc+lp)<=2^8:=fk aa aa;have I0:=ae (ap sX h2s);obtain⟨N2,uV⟩: ∃N,2^(lc+lp)=N:=⟨_,rfl⟩
 have I1:=ae uV;rw[uV]at F5 aoV;clear ek ij abH vC hB aI hK sX lr kh h2s hM uV;have bu:aq W1 (W1.drewN 1):=below_drewN (aP _ _) _;go_enter func234,ntmps234;go_upto_region 1 with fail;rw[xd.out,kX.out];refine wp_region_held_drew (S:=λw2=>aq W1 w2) ak bu (λhS=> ?_);refine ag 0 hS (h:=ag 1 hS (h:=ag 2 hS (h:=cC 3 F5.out hS (h:=ag 4 hS (h:=ag 5 hS (h:= ?_))))));refine aO 6 (λK hK=> ?_);go_simp;refine(aii _).mono ?_;rintro e x4 ⟨rfl,kb4⟩;have g4:=aQ bu kb4;go_wp2_with fail;refine hK _ _ g4 (λ_=> ?_);clear hK K;refine ag 7 g4 (h:=ag 8 g4 (h:=ag 9 g4 (h:= ?_)));refine wpAnyH_done ak ?_ _;have Dz:=ae (mT.below g4);have C':=ae (aQ bF.out g4);have aoW:=ae (gx.below g4);have Mj:Hid (W1.heap.size<=x4.heap.size):=ae g4.size;have yx:W1.cell? ⟨w.heap.size,1,none⟩=some (.int .u8 b.toNat):=by
  have h:W1.heap[w.heap.size]? =some (.cells [Value.int .i64 kk,.int .u8 b.toNat,.int .i64 l,.int .i64 d,.int .i64 q].toArray 183 (0,0)):=by rw[<-xd.out];exact(ee _ _ _ ah).trans (bz w _)
  rw[aC W1 _ _ _ _ _ h];rfl
 have uW:Hid (x4.cell? ⟨w.heap.size,1,none⟩=some (.int .u8 b.toNat)):=ae ((g4.cell (p:=⟨w.heap.size,1,none⟩) (by rw[<-xd.out];simp;omega)).trans yx);have lV:Hid (x4.heap[bs]? =some (.cells [Value.int .i64 0,.int .u8 0,.int .i64 0,.int .i64 0,.int .i64 0].toArray 183 (0,0))):=ae (by rw[<-kX.out];exact(g4.block _ (by rw[<-xd.out];simp)).trans (by rw[<-xd.out];have h:=bz (w.alloc (.cells #[.int .i64 kk,.int .u8 b.toNat,.int .i64 l,.int .i64 d,.int .i64 q] 183)) (.cells #[.int .i64 0,.int .u8 0,.int .i64 0,.int .i64 0,.int .i64 0] 183);simpa using h));obtain⟨_,_,_,c3,c4,_⟩:=Dz.mod.cells;have⟨LK,DF⟩:=ex (Md.lM H r.1);have adl:LK<256:=by rw[<-DF];exact Md.Br H r.1
 have Mk:=ae DF;rw[DF]at HR;clear hS g4 kb4 bu yx DF aii F5 mT;go_upto_if 35 with fail;go_cut [10] (λPo wx=>x4=wx/\Po= .int .i64 LK);case first=>
  by_cases Pp:r.1<=(H.length:Int)
  ·obtain⟨z,hz⟩: ∃z:Nat,(H.length:Int)-r.1=(z:Int):=⟨((H.length:Int)-r.1).toNat,aa⟩
   have hzl:(z:Int)<H.length:=aa;obtain⟨bb,off,rfl,_,cZ⟩:=aoW.addr aa;have cx:=cZ z aa;rw[<-dQ]at cx;have adm:Hid (((H.getD z 0).toNat:Int)=(LK:Int)):=ae (by
    rw[<-Mk.out];unfold Md.lM;rw[ax Pp,show H.length-r.1.toNat=z by omega])
   generalize H.getD z 0=u at*;clear cZ;go_wp2_with fail;go_meet;exact⟨rfl,aR (Value.int .i64) (by rw[<-adm.out];exact gK aa (av u.toNat_lt))⟩
  ·have adm:Hid (0=(LK:Int)):=ae (by
    rw[<-Mk.out];unfold Md.lM;rw[au Pp];rfl)
   go_wp2_with fail;go_meet;exact⟨rfl,aR (Value.int .i64) adm.out⟩
 case rest=>
  obtain⟨rfl,rfl⟩:=hcut;have mS:=λy=>nt y;have hub:=λj=>adj b j;have aoX:Hid (768*K+768<=768*2^(lc+lp)):=ae (by have:=I0.1;rw[I1.out]at this ⊢;omega);go_upto_region 8 with fail;have aij:(decide (7<=(st:Int)))=decide (7<=st):=decide_eq_decide.2 aa;rw[aij];have⟨AL,hAL⟩:=ex (decide (7<=st));rw[hAL]at HR ⊢;clear aij hAL c3 c4;go_wp2_with fail;go_loopw [12,13,14] (λas_ ms i wr=> ∃(j m:Nat) (al:Bool) (x':io.S) (X':List Nat),j<=8/\as_= .bool al/\ms= .int .i64 m/\i= .int .i64 ((j:Int)-1)/\2^(8-j)<=m/\m<2^(8-j)*2/\Hid (io.ok x'.2 (k+j))/\Hid (Md.iZ io (2180+768*K) LK (b.toNat:Nat) j m al x'=Md.iZ io (2180+768*K) LK (b.toNat:Nat) 8 1 AL x)/\Hid (MS io wr C L lc lp pb st r x' X'/\aM (C::L::X) x4 wr/\ ∀i∈X',i∈X\/x4.heap.size<=i)) (λ_ _ i _=>(intOf i+1).toNat);·exact⟨8,1,AL,x,X,aF _,rfl,rfl,aA,ar,ar,ae bK,ae rfl,ae ⟨Dz.out,aM.refl _ _,λi hi=> .inl hi⟩⟩
  ·
   obtain⟨j,m,al,x',X',hj,rfl,rfl,rfl,fc,fm,uT,HT,HM⟩:=hrel;have ki:w.heap.size ∉ C::L::X:=λh=>av (jR _ h);cases j with
   | zero=>
    have HRR:Hid (Z=x'/\R=UInt8.ofNat m):=ae (by
     have h:=HR.out;rw[<-HT.out]at h;exact⟨h.2.symm,h.1.symm⟩)
    obtain⟨_,_,_,c3,_⟩:=HM.1.mod.cells;have f3:=HM.1.mod.kR 3;have Ml:=F4 st da wr;rw[L9.out]at Ml;have ue:=ae Ml;have yw:=C'.size;have oN:=(HM.2.1.block (bs) qI (λh=>Fz)).trans lV.out;have z0:wr.cell? ⟨bs,0,none⟩=some (.int .i64 0):=AU;have z1:wr.cell? ⟨bs,1,none⟩=some (.int .u8 0):=AU;have z2:wr.cell? ⟨bs,2,none⟩=some (.int .i64 0):=AU;have z3:wr.cell? ⟨bs,3,none⟩=some (.int .i64 0):=AU;have z4:wr.cell? ⟨bs,4,none⟩=some (.int .i64 0):=AU;have zf: ∀i,wr.frozen? ⟨bs,i,none⟩=false:=λi=>aS _ _ _ _ _ oN;have IY:=zf 0;have IZ:=zf 1;have UB:=zf 2;have UC:=zf 3;have zf4:=zf 4;have ne1:C≠bs:=λe=>(by have:=jR.out C ah;have:=kX.out;omega);have TG:bs≠C:=λe=>ne1 e.symm;clear Ml yw oN zf;go_wp2_with fail;refine ue.mono ?_;rintro e w2 ⟨rfl,rfl⟩;have hRv:(R.toNat:Int)=(m:Int)%256:=(by rw[HRR.2,fN];simp);go_wp2_with fail;refine bA (v:=mq 0 R 0 0 0) (by simp[results,results234,go_sem,hRv,z0,z1,z2,z3,z4]) rfl ⟨⟨rfl,X',?_,?_,?_⟩,?_⟩
    ·have qT:=kX.out;have F6:=(bU lV.out)
     have lX:bs ∉ C::L::X':=λh=>by
      simp only[dc]at h;rcases h with h|h|h;·exact TG h
      ·have:=jR.out L ah;omega
      ·rcases HM.2.2 _ h with h|h;·have:=jR.out bs fO;omega
       ·omega
     rw[HRR.1];exact(((((HM.1.jT (k:=3) (st':=ls) (r':=r) ar rfl).bS lX _).bS lX _).bS lX _).bS lX _).bS lX _
    ·have qT:=kX.out;have h0:aM (C::L::X) w wr:=(aM.cJ C'.out).trans HM.2.1 (λi hi=> .inl hi);have hn:bs∈C::L::X\/w.heap.size<=bs:= .inr aa;exact(((((h0.setCell (p:=⟨C,3,none⟩) (.inl ah) _).setCell (p:=⟨bs,0,none⟩) hn _).setCell (p:=⟨bs,1,none⟩) hn _).setCell (p:=⟨bs,2,none⟩) hn _).setCell (p:=⟨bs,3,none⟩) hn _).setCell (p:=⟨bs,4,none⟩) hn _
    ·intro i hi;rcases HM.2.2 i hi with h|h;·exact .inl h
     ·exact .inr (a8 C'.size h)
    ·rw[HRR.1];exact uT.out
   | succ j=>
    have axJ:wr.cell? ⟨w.heap.size,1,none⟩=some (.int .u8 b.toNat):=aw HM.2.1 ki uW.out;have ol:m<256:=(by have e:2^(8-(j+1))*2=2^(8-j):=oX;have:2^(8-j)<=2^8:=fk aa aa;omega);have⟨lb,adn⟩:=ex (LK/2^j%2);have abJ:lb=0\/lb=1:=aa;have UK:(LK:Int)/2^j%2=(lb:Int):=(by rw[<-adn];simp);have⟨jj,hjj⟩:=ex ((if al then m+(256+256*lb)else m));have aoY:jj<768:=(by rw[<-hjj];split<;>omega);obtain⟨⟨B,y⟩,hz⟩: ∃z,io.aD (2180+768*K+jj) (Md.bg (b.toNat:Nat) j) x'=z:=⟨_,rfl⟩
    obtain⟨h1,lL⟩:=pg io HM.1 hz (at_:=2180+768*K) (j:=jj) (len:=768) (cp:=768) (b:=L) (off:=K*768) rfl (k:=k+j) uT.out (Md.Uv aa (by have:=aoX.out;omega)) aoY aa aa;have nK:Hid (Md.iZ io (2180+768*K) LK (b.toNat:Nat) j (2*m+B.toNat) (al&&(B.toNat==lb)) y=Md.iZ io (2180+768*K) LK (b.toNat:Nat) 8 1 AL x):=ae (by
     rw[<-HT.out];conv=>rhs;unfold Md.iZ
     rw[adn,hjj,hz])
    have H1:=ae h1;have mU:=ae lL;have bF:=ae fc;have dG:=ae fm;have tF:(m:Int)<256:=aa;have hj8:(j:Int)<8:=aa;have h2: ∀B:Bool,B.toNat<=1:=λB=>(by cases B<;>decide);have e2:2^(8-j)=2^(8-(j+1))*2:=oX;have HE2:=ae e2;clear h1 lL fc fm hz adn ol e2;cases al;case false=>
     simp only[Bool.false_eq_true,if_false]at hjj;subst hjj;rcases abJ with rfl|rfl
     ·skip;go_wp2_with fail;refine H1.mono ?_;rintro e w2 ⟨rfl,ld⟩;have rf:=ae (iY.trans HM.2.1 HM.2.2 ld);clear ld;cases B;case false=>rw[show et false=0 from rfl];go_wp2_with fail;obtain⟨X3,oO,dB,tG⟩:=rf.out;exact⟨⟨j,2*m+0,false,y,X3,aa,rfl,aA,aA,qJ,qK,mU,nK,ae ⟨oO,dB,tG⟩⟩,jQ⟩
      case true=>rw[show et true=1 from rfl];go_wp2_with fail;obtain⟨X3,oO,dB,tG⟩:=rf.out;exact⟨⟨j,2*m+1,false,y,X3,aa,rfl,aA,aA,qJ,qK,mU,nK,ae ⟨oO,dB,tG⟩⟩,jQ⟩
     ·skip;go_wp2_with fail;refine H1.mono ?_;rintro e w2 ⟨rfl,ld⟩;have rf:=ae (iY.trans HM.2.1 HM.2.2 ld);clear ld;cases B;case false=>rw[show et false=0 from rfl];go_wp2_with fail;obtain⟨X3,oO,dB,tG⟩:=rf.out;exact⟨⟨j,2*m+0,false,y,X3,aa,rfl,aA,aA,qJ,qK,mU,nK,ae ⟨oO,dB,tG⟩⟩,jQ⟩
      case true=>rw[show et true=1 from rfl];go_wp2_with fail;obtain⟨X3,oO,dB,tG⟩:=rf.out;exact⟨⟨j,2*m+1,false,y,X3,aa,rfl,aA,aA,qJ,qK,mU,nK,ae ⟨oO,dB,tG⟩⟩,jQ⟩
    case true=>
     simp only[if_true]at hjj;rcases abJ with rfl|rfl
     ·have aoZ:(m:Int)+256=(jj:Int):=(by omega);go_wp2_with fail;refine H1.mono ?_;rintro e w2 ⟨rfl,ld⟩;have rf:=ae (iY.trans HM.2.1 HM.2.2 ld);clear ld;cases B;case false=>rw[show et false=0 from rfl];go_wp2_with fail;obtain⟨X3,oO,dB,tG⟩:=rf.out;exact⟨⟨j,2*m+0,true,y,X3,aa,rfl,aA,aA,qJ,qK,mU,nK,ae ⟨oO,dB,tG⟩⟩,jQ⟩
      case true=>rw[show et true=1 from rfl];go_wp2_with fail;obtain⟨X3,oO,dB,tG⟩:=rf.out;exact⟨⟨j,2*m+1,false,y,X3,aa,rfl,aA,aA,qJ,qK,mU,nK,ae ⟨oO,dB,tG⟩⟩,jQ⟩
     ·have aoZ:(m:Int)+512=(jj:Int):=(by omega);go_wp2_with fail;refine H1.mono ?_;rintro e w2 ⟨rfl,ld⟩;have rf:=ae (iY.trans HM.2.1 HM.2.2 ld);clear ld;cases B;case false=>rw[show et false=0 from rfl];go_wp2_with fail;obtain⟨X3,oO,dB,tG⟩:=rf.out;exact⟨⟨j,2*m+0,false,y,X3,aa,rfl,aA,aA,qJ,qK,mU,nK,ae ⟨oO,dB,tG⟩⟩,jQ⟩
      case true=>rw[show et true=1 from rfl];go_wp2_with fail;obtain⟨X3,oO,dB,tG⟩:=rf.out;exact⟨⟨j,2*m+1,true,y,X3,aa,rfl,aA,aA,qJ,qK,mU,nK,ae ⟨oO,dB,tG⟩⟩,jQ⟩
end Go.Proofs.YtfcaoggfnkhfiaaGreatDoor
