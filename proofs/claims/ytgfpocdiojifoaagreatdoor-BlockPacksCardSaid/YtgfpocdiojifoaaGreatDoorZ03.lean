import Derived.Test.YtgfpocdiojifoaaGreatDoorZ02
import Derived.Laws.CopyRow
import Derived.Laws.BitsLemmas
import Derived.Lib.MinMax
namespace Go.Proofs.YtgfpocdiojifoaaGreatDoor
set_option maxRecDepth 100000
set_option maxHeartbeats 8000000
open Go.RowKit Go.Proofs.Tryz
variable{a:Addr}{X:List Nat}{C L R at_ b c cp d i j k lc lp n n2 off pb st tv:Nat}{r:R4}{w w':World}
namespace Md
def tW(c:Nat):Nat:=if c=0 then 1024 else c
theorem OL(h:c<2048):Rc.fair (tW c)=tW c:=by unfold Rc.fair tW;split<;>split<;>omega
theorem YO(h:c<2048):tW c<2048:=by unfold tW;split<;>omega
theorem T7(h:c≠0):tW c=c:=by unfold tW;rw[if_neg h]
end Md
def DI(at_:World→List Nat→Prop)(X:List Nat)(a:Addr)(bit:Bool)(p:Nat)(w:World)(e:Ending)(w':World):Prop:=
 e= .returned (.int .i64 (dl bit))∧ ∃w1 X',az X w w1∧at_ w1 X'∧(∀i∈X',i∈X∨w.heap.size≤i)∧w'=w1.setCell a (.int .u16 (p:Nat))
def acg(g:Nat)(s:Rc.St)(w:World)(X:List Nat):Prop:= ∃o cap,X=[g,o]∧fk w g o cap s
theorem ao{v:Value}(h:az X w w')(hX:a.block ∉ X)(hc:w.cell? a=some v):w'.cell? a=some v:=by have hb:a.block<w.heap.size:=block_lt_of_cell hc;have e:=h.block _ hb hX;unfold World.cell? at hc ⊢;rw[e];exact hc
theorem nG{b:Bool}(h:az X w w')(hX:a.block ∉ X)(hl:a.block<w.heap.size)(hc:w.frozen? a=b):w'.frozen? a=b:=by have e:=h.block _ hl hX;unfold World.frozen? at hc ⊢;rw[e];exact hc
theorem az.mh{a b:World}(h:az X (a.drewN n) b):az X a b:=⟨h.os,h.tape,h.output,h.size,h.block⟩
theorem OM(g o cap:Nat)(s:Rc.St)(b off n cp j c:Nat)(one:Bool)(w:World)(hE:fk w g o cap s)(hs:s.ok)(hk:1+s.k+2≤140737488355328)(hX:b ∉ [g,o])(hj:j<n)(hn:n≤cp)(wl:cp≤9223372036854775807)
  (hc:w.cell? ⟨b,off+j,none⟩=some (.int .u16 (c:Nat))) (hf:w.frozen? ⟨b,off+j,none⟩=false) (pG:c<2048):
  Calls prog 203 #[.iface 196 (.pointer (some ⟨g,0,none⟩)),.slice (some ⟨b,off,none⟩) n cp,.int .i64 (j:Nat),.bool one] w
   (DI (acg g (Rc.St.scale 2 (s.pick (Md.tW c) one))) [g,o] ⟨b,off+j,none⟩ one (Rc.next (Md.tW c) one) w):=by
 have hm: ∀w,(method 421 196 (.pointer (some ⟨g,0,none⟩)) "Bit").run prog w= .ok (255,.pointer (some ⟨g,0,none⟩)) w:=fun w=>ak;have yL:(j:Int)<(n:Int):=aa;have sO:(n:Int)≤9223372036854775807:=aa;have pr:=hdd (fun(m:Nat)=>show Calls prog 255 #[.pointer (some ⟨g,0,none⟩),.int .u16 (Md.tW c:Nat),.int .i64 (dl one)] (w.drewN m) (JR (w.drewN m) g o (dl one) (Rc.next (Md.tW c) one) (Rc.St.scale 2 (s.pick (Md.tW c) one)))from by
  have DG:=T0 g o cap s (BitVec.ofNat 16 (Md.tW c)) (dl one) (w.drewN m) ⟨hE.ax,hE.own,hE.ne⟩ hs hk;have e0:(BitVec.ofNat 16 (Md.tW c)).toNat=Md.tW c:=by have:=Md.YO pG;simp;omega
  have e1:(dl one !=0)=one:=by cases one<;>rfl
  rw[e0,Md.OL pG,e1]at DG;exact DG)
 have HX:=hdd hX;have HC:=hdd hc;have HF:=hdd hf;clear hE hs hk hX hf;have⟨T,hT⟩:=ex (Rc.St.scale 2 (s.pick (Md.tW c) one));rw[hT]at pr ⊢;have⟨N,hN⟩:=ex (Rc.next (Md.tW c) one);rw[hN]at pr ⊢;clear hT hN;by_cases h0:c=0
 ·subst h0;rw[show Md.tW 0=1024 from rfl]at pr;cases one
  all_goals
   simp only[dl,Bool.false_eq_true,if_false,if_true]at pr;go_enter func203,ntmps203;go_wp2_with fail;go_quiet (fail);go_wp2_with fail;refine(pr.out _).mono ?_;rintro e w1 ⟨rfl,o',bw,rt,bU,AT⟩;have td:=az.mh bU;have fY:=ao td HX.out HC.out;have KT:=nG td HX.out (block_lt_of_cell HC.out) HF.out;go_wp2_with fail;go_ret;exact⟨rfl,w1,[g,o'],td,⟨o',bw,rfl,rt⟩,by intro i hi;simp at hi;rcases hi with rfl | rfl;exact .inl ae;rcases AT with h | h;exact .inl dS;exact .inr h,rfl⟩
 ·rw[Md.T7 h0]at pr;have h0i:((c:Nat):Int)≠0:=aa;have h0b:(((c:Nat):Int)==0)=false:=beq_eq_false_iff_ne.2 h0i;cases one
  all_goals
   simp only[dl,Bool.false_eq_true,if_false,if_true]at pr;go_enter func203,ntmps203;go_wp2_with fail;go_quiet (fail);go_wp2_with fail;refine(pr.out _).mono ?_;rintro e w1 ⟨rfl,o',bw,rt,bU,AT⟩;have td:=az.mh bU;have fY:=ao td HX.out HC.out;have KT:=nG td HX.out (block_lt_of_cell HC.out) HF.out;go_wp2_with fail;go_ret;exact⟨rfl,w1,[g,o'],td,⟨o',bw,rfl,rt⟩,by intro i hi;simp at hi;rcases hi with rfl | rfl;exact .inl ae;rcases AT with h | h;exact .inl dS;exact .inr h,rfl⟩
namespace Md
def fP(C L i:Nat):Nat:=if i<2180 then C else L
def fm(i:Nat):Nat:=if i<432 then 8+i else if i<1844 then 9+i else if i<2180 then i-119 else i-2180
def nj(C L i:Nat):Addr:=⟨fP C L i,fm i,none⟩
def used(n i:Nat):Prop:=i<1716∨(1844≤i∧i<2180+768*n)
theorem wm(C L i:Nat):fP C L i=C∨fP C L i=L:=by
 unfold fP;split;·exact .inl rfl
 ·exact .inr rfl
theorem T8(dr:C≠L)(hi:used n i)(hj:used n j)(h:nj C L i=nj C L j):i=j:=by
 unfold used at hi hj;have h1:fP C L i=fP C L j:=congrArg Addr.block h;have h2:fm i=fm j:=congrArg Addr.off h;have h3:i<2180↔j<2180:=by
  unfold fP at h1;by_cases h4:i<2180<;>by_cases h5:j<2180<;>simp[h4,h5]at h1 ⊢;·exact dr h1
  ·exact dr h1.symm
 unfold fm at h2;by_cases a1:i<432<;>by_cases a2:i<1844<;>by_cases a3:i<2180<;>by_cases b1:j<432<;>by_cases b2:j<1844<;>by_cases b3:j<2180<;>simp only[a1,a2,a3,b1,b2,b3,if_true,if_false]at h2<;>omega
theorem JV(dr:C≠L)(hk:k<8∨k=440):nj C L i≠⟨C,k,none⟩:=by
 intro h;have h1:fP C L i=C:=congrArg Addr.block h;have h2:fm i=k:=congrArg Addr.off h;have h3:i<2180:=by
  unfold fP at h1;by_cases h4:i<2180;·exact h4
  ·rw[if_neg h4]at h1;exact absurd h1.symm dr
 unfold fm at h2;by_cases a1:i<432<;>by_cases a2:i<1844<;>simp only[a1,a2,h3,if_true,if_false]at h2<;>omega
def put(P:Nat→Nat)(i p:Nat):Nat→Nat:=fun j=>if j=i then p else P j
end Md
structure Io where
 σ:Type
 t:TypeId
 g:Nat
 F:Nat
 at_:World→σ→List Nat→Prop
 ok:σ→Nat→Prop
 bit:σ→Nat→Bool→Bool×σ
 plain:σ→Nat→Nat→Nat×σ
 aI: ∀{w w' s X},at_ w s X→w.heap.size≤w'.heap.size→(∀i∈X,w'.heap[i]? =w.heap[i]?)→at_ w' s X
 lt: ∀{w s X},at_ w s X→ ∀i∈X,i<w.heap.size
 WY: ∀{s n p b},ok s (n+1)→1≤p→p≤2047→ok (bit s p b).2 n
 Bq: ∀{s n x m},ok s (n+32)→m≤32→ok (plain s x m).2 n
 le: ∀{s n m},ok s n→m≤n→ok s m
 JW: ∀{s n x m},ok s n→x<2^m→(plain s x m).1<2^m
 kind:F=256∨F=263
 ach: ∀w,(method 421 t (.pointer (some ⟨g,0,none⟩)) "Plain").run prog w= .ok (F,.pointer (some ⟨g,0,none⟩)) w
 code: ∀(w:World) (s:σ) (X:List Nat) (b off n cp j c:Nat) (one:Bool),at_ w s X→ok s 1→b ∉ X→j<n→n≤cp→cp≤9223372036854775807→w.cell? ⟨b,off+j,none⟩=some (.int .u16 (c:Nat))→w.frozen? ⟨b,off+j,none⟩=false→c<2048→
  Calls prog 203 #[.iface t (.pointer (some ⟨g,0,none⟩)),.slice (some ⟨b,off,none⟩) n cp,.int .i64 (j:Nat),.bool one] w
   (DI (fun w' X'=>at_ w' (bit s (Md.tW c) one).2 X') X ⟨b,off+j,none⟩ (bit s (Md.tW c) one).1 (Rc.next (Md.tW c) (bit s (Md.tW c) one).1) w)
 ON: ∀(w:World) (s:σ) (X:List Nat) (x m:Nat),at_ w s X→ok s 32→x<4294967296→m≤32→
  Calls prog F #[.pointer (some ⟨g,0,none⟩),.int .u32 (x:Nat),.int .i64 (m:Nat)] w
   (fun e w'=>e= .returned (.int .u32 ((plain s (x%2^m) m).1:Nat))∧ ∃X',az X w w'∧at_ w' (plain s (x%2^m) m).2 X'∧ ∀i∈X',i∈X∨w.heap.size≤i)
abbrev Io.v(io:Io):Value:= .iface io.t (.pointer (some ⟨io.g,0,none⟩))
abbrev Io.S(io:Io):Type:=(Nat→Nat)×io.σ
def Io.au(io:Io)(i:Nat)(b:Bool)(x:io.S):Bool×io.S:=((io.bit x.2 (x.1 i) b).1,(Md.put x.1 i (Rc.next (x.1 i) (io.bit x.2 (x.1 i) b).1),(io.bit x.2 (x.1 i) b).2))
def ah(g:Nat):Io where
 σ:=Rc.St
 t:=196
 g:=g
 F:=256
 at_ w s X:= ∃o cap,X=[g,o]∧fk w g o cap s
 ok s n:=s.ok∧1+s.k+2*n≤140737488355328
 bit s p b:=(b,Rc.St.scale 2 (s.pick p b))
 plain s x m:=(x,s.plain x m)
 aI:=by rintro w w' s X ⟨o,cap,rfl,h⟩ _ hk;exact⟨o,cap,rfl,h.aI (hk g ae) (hk o ae)⟩
 lt:=by
  rintro w s X ⟨o,cap,rfl,h⟩ i hi;simp at hi;rcases hi with rfl | rfl;·exact h.lt.1
  ·exact h.lt.2
 WY:=by rintro s n p b ⟨h1,h2⟩ h3 h4;obtain⟨hf,hr⟩:=s.lC p b h1 h3 h4;have hk:=Rc.St.JT 2 (s.pick p b);rw[Rc.St.YK]at hk;exact⟨Rc.St.DF 2 _ hf aa,by show 1+(Rc.St.scale 2 (s.pick p b)).k+2*n≤_;omega⟩
 Bq:=by rintro s n x m ⟨h1,h2⟩ h3;obtain⟨hf,hk⟩:=s.wj h1 m x;exact⟨hf,by show 1+(s.plain x m).k+2*n≤_;omega⟩
 le:=by rintro s n m ⟨h1,h2⟩ h;exact⟨h1,aa⟩
 JW:=by rintro s n x m _ h;exact h
 kind:= .inl rfl
 ach w:=ak
 code:=by rintro w s X b off n cp j c one ⟨o,cap,rfl,h⟩ ⟨h1,h2⟩ hX hj hn wl hc hf pG;exact OM g o cap s b off n cp j c one w h h1 aa hX hj hn wl hc hf pG
 ON:=by
  rintro w s X x m ⟨o,cap,rfl,h⟩ ⟨h1,h2⟩ hx hm;have hp:=K0 g o cap s (BitVec.ofNat 32 x) (m:Nat) w h h1 aa;have e0:(BitVec.ofNat 32 x).toNat=x:=av;have e1:many (m:Nat)=m:=by unfold many;omega
  rw[e0,e1]at hp;refine hp.mono ?_;rintro e w' ⟨rfl,o',bw,hE,bU,ho⟩;exact⟨rfl,[g,o'],bU,⟨o',bw,rfl,hE⟩,by intro i hi;simp at hi;rcases hi with rfl | rfl;exact .inl ae;rcases ho with h | h;exact .inl dS;exact .inr h⟩
section
abbrev cU(lc lp pb st:Nat)(r:R4):List Value:=[.int .i64 (lc:Nat),.int .i64 (lp:Nat),.int .i64 (pb:Nat),.int .i64 (st:Nat),.int .i64 r.1,.int .i64 r.2.1,.int .i64 r.2.2.1,.int .i64 r.2.2.2]
structure bV(w:World)(C L lc lp pb st:Nat)(r:R4)(P:Nat→Nat):Prop where
 box: ∃T:List Value,w.heap[C]? =some (.cells (cU lc lp pb st r++T).toArray 146 (0,0))∧T.length=2053
 lits: ∃l:List Value,w.heap[L]? =some (.cells l.toArray 291 (0,0))∧l.length=768*2^(lc+lp)
 lit:w.cell? ⟨C,440,none⟩=some (.slice (some ⟨L,0,none⟩) (2^(lc+lp)) (2^(lc+lp)))
 ne:C≠L
 tf: ∀i,Md.used (2^(lc+lp)) i→ ∃c:Nat,w.cell? (Md.nj C L i)=some (.int .u16 (c:Nat))∧Md.tW c=P i
 fair: ∀i,1≤P i∧P i≤2047
theorem Md.K1{c p:Nat}(h:tW c=p)(hp:p≤2047):c<2048:=by unfold tW at h;split at h<;>omega
section
variable{w w':World}{C L lc lp pb st:Nat}{r:R4}{P:Nat→Nat}
theorem bV.CS(h:bV w C L lc lp pb st r P):C<w.heap.size:=by obtain⟨T,hT,_⟩:=h.box;exact(cr hT)
theorem bV.Br(h:bV w C L lc lp pb st r P):L<w.heap.size:=by obtain⟨T,hT,_⟩:=h.lits;exact(cr hT)
theorem bV.aI(h:bV w C L lc lp pb st r P)(hC:w'.heap[C]? =w.heap[C]?)(hL:w'.heap[L]? =w.heap[L]?):bV w' C L lc lp pb st r P:=by
 obtain⟨T,hT,mi⟩:=h.box;obtain⟨l,hl,sN⟩:=h.lits;refine⟨⟨T,hC.trans hT,mi⟩,⟨l,hL.trans hl,sN⟩,?_,h.ne,fun i hi=> ?_,h.fair⟩;·have:=h.lit;unfold World.cell? at this ⊢;rw[hC];exact this
 ·obtain⟨c,hc,he⟩:=h.tf i hi;refine⟨c,?_,he⟩;unfold World.cell? at hc ⊢;have hb:w'.heap[(Md.nj C L i).block]? =w.heap[(Md.nj C L i).block]? :=by
   rcases Md.wm C L i with e | e;·rw[show(Md.nj C L i).block=C from e];exact hC
   ·rw[show(Md.nj C L i).block=L from e];exact hL
  rw[hb];exact hc
theorem bV.iW(h:bV w C L lc lp pb st r P)(k:Nat):w.frozen? ⟨C,k,none⟩=false:=by obtain⟨T,hT,_⟩:=h.box;exact frozen_of_row _ _ _ _ _ hT
theorem bV.T9(h:bV w C L lc lp pb st r P)(k:Nat):w.frozen? ⟨L,k,none⟩=false:=by obtain⟨T,hT,_⟩:=h.lits;exact frozen_of_row _ _ _ _ _ hT
theorem bV.Ua(h:bV w C L lc lp pb st r P)(i:Nat):w.frozen? (Md.nj C L i)=false:=by
 unfold Md.nj;rcases Md.wm C L i with e | e;·rw[e];exact h.iW _
 ·rw[e];exact h.T9 _
theorem bV.cells(h:bV w C L lc lp pb st r P):w.cell? ⟨C,0,none⟩=some (.int .i64 (lc:Nat))∧w.cell? ⟨C,1,none⟩=some (.int .i64 (lp:Nat))∧w.cell? ⟨C,2,none⟩=some (.int .i64 (pb:Nat))∧w.cell? ⟨C,3,none⟩=some (.int .i64 (st:Nat))∧
  w.cell? ⟨C,4,none⟩=some (.int .i64 r.1)∧w.cell? ⟨C,5,none⟩=some (.int .i64 r.2.1)∧w.cell? ⟨C,6,none⟩=some (.int .i64 r.2.2.1)∧w.cell? ⟨C,7,none⟩=some (.int .i64 r.2.2.2):=by
 obtain⟨T,hT,_⟩:=h.box;refine⟨?_,?_,?_,?_,?_,?_,?_,?_⟩<;>(rw[cell_of_row w _ _ _ _ _ hT];simp)
theorem bV.K2(h:bV w C L lc lp pb st r P){i p:Nat}(hi:Md.used (2^(lc+lp)) i)(h1:1≤p)(h2:p≤2047):bV (w.setCell (Md.nj C L i) (.int .u16 (p:Nat))) C L lc lp pb st r (Md.put P i p):=by
 obtain⟨T,hT,mi⟩:=h.box;obtain⟨l,hl,sN⟩:=h.lits;have bx:(w.setCell (Md.nj C L i) (.int .u16 (p:Nat))).cell? (Md.nj C L i)=some (.int .u16 (p:Nat)):=by obtain⟨c,hc,_⟩:=h.tf i hi;exact World.cell?_setCell_same _ _ _ hc
 have OO: ∀a:Addr,a≠Md.nj C L i→(w.setCell (Md.nj C L i) (.int .u16 (p:Nat))).cell? a=w.cell? a:=fun a ha=>World.cell?_setCell_other _ _ _ _ (fun e=>ha e.symm);refine⟨?_,?_,?_,h.ne,fun j hj=> ?_,fun j=> ?_⟩
 ·by_cases h3:i<2180;·have hk:8≤Md.fm i:=(by unfold Md.fm Md.used at*;by_cases a1:i<432<;>by_cases a2:i<1844<;>simp only[a1,a2,h3,if_true,if_false]<;>omega);refine⟨T.set (Md.fm i-8) (.int .u16 (p:Nat)),?_,by rw[List.length_set];exact mi⟩;unfold Md.nj Md.fP;rw[if_pos h3,heap_set hT];rw[List.set_append_right _ _ tP];rfl
  ·refine⟨T,?_,mi⟩;unfold Md.nj Md.fP;rw[if_neg h3];exact(ag _ _ _ _ h.ne).trans hT
 ·by_cases h3:i<2180;·refine⟨l,?_,sN⟩;unfold Md.nj Md.fP;rw[if_pos h3];exact(ag _ _ _ _ (fun e=>h.ne e.symm)).trans hl
  ·refine⟨l.set (Md.fm i) (.int .u16 (p:Nat)),?_,by rw[List.length_set];exact sN⟩;unfold Md.nj Md.fP;rw[if_neg h3];exact heap_set hl _ _
 ·rw[OO _ (fun e=>Md.JV h.ne (.inr rfl) e.symm)];exact h.lit
 ·by_cases yL:j=i;·subst yL;refine⟨p,bx,?_⟩;unfold Md.put Md.tW;rw[if_pos rfl,if_neg aa]
  ·obtain⟨c,hc,he⟩:=h.tf j hj;refine⟨c,?_,?_⟩;·rw[OO _ (fun e=>yL (Md.T8 h.ne hj hi e))];exact hc
   ·unfold Md.put;rw[if_neg yL];exact he
 ·unfold Md.put;split;·exact⟨h1,h2⟩
  ·exact h.fair j
theorem bV.ii(h:bV w C L lc lp pb st r P){k st':Nat}{r':R4}{v:Value}(hk:k<8)(hh:(cU lc lp pb st r).set k v=cU lc lp pb st' r'):bV (w.setCell ⟨C,k,none⟩ v) C L lc lp pb st' r' P:=by
 obtain⟨T,hT,mi⟩:=h.box;obtain⟨l,hl,sN⟩:=h.lits;have OO: ∀a:Addr,a≠⟨C,k,none⟩→(w.setCell ⟨C,k,none⟩ v).cell? a=w.cell? a:=fun a ha=>World.cell?_setCell_other _ _ _ _ (fun e=>ha e.symm);refine⟨⟨T,?_,mi⟩,⟨l,(ag _ _ _ _ (fun e=>h.ne e.symm)).trans hl,sN⟩,?_,h.ne,fun i hi=> ?_,h.fair⟩;·rw[heap_set hT,List.set_append_left _ _ tP,hh]
 ·rw[OO _ (fun e=>by have:=congrArg Addr.off e;simp at this;omega)];exact h.lit
 ·obtain⟨c,hc,he⟩:=h.tf i hi;exact⟨c,(OO _ (Md.JV h.ne (.inl hk))).trans hc,he⟩
end
theorem Rc.kH{p:Nat}(h1:1≤p)(h2:p≤2047)(b:Bool):1≤Rc.next p b∧Rc.next p b≤2047:=by unfold Rc.next;cases b<;>simp<;>omega
structure MS(io:Io)(w:World)(C L lc lp pb st:Nat)(r:R4)(x:io.S)(X:List Nat):Prop where
 mod:bV w C L lc lp pb st r x.1
 io:io.at_ w x.2 X
 rv:C ∉ X
 uC:L ∉ X
def fZ(io:Io)(C L lc lp pb st:Nat)(r:R4)(x:io.S)(X:List Nat)(w w':World):Prop:=
 ∃X',MS io w' C L lc lp pb st r x X'∧az (C::L::X) w w'∧ ∀i∈X',i∈X∨w.heap.size≤i
def jy(v:Value)(io:Io)(C L lc lp pb st:Nat)(r:R4)(x:io.S)(X:List Nat)(w:World)(e:Ending)(w':World):Prop:=e= .returned v∧fZ io C L lc lp pb st r x X w w'
theorem az.br{X:List Nat}{w w':World}(h:Below w.heap.size w w'):az X w w':=⟨h.os,h.tape,h.output,h.size,fun i hi _=>h.block i hi⟩
theorem fZ.trans{io:Io}{C L lc lp pb st':Nat}{r':R4}{x':io.S}{X X1:List Nat}{w w1 w2:World}(bU:az (C::L::X) w w1)(hX: ∀i∈X1,i∈X∨w.heap.size≤i)(h:fZ io C L lc lp pb st' r' x' X1 w1 w2):fZ io C L lc lp pb st' r' x' X w w2:=by
 obtain⟨X2,hM,cC,JX⟩:=h;refine⟨X2,hM,bU.trans cC ?_,fun i hi=> ?_⟩
 ·intro i hi;simp only[List.mem_cons]at hi ⊢;rcases hi with rfl | rfl | hi;·exact .inl (.inl rfl)
  ·exact .inl (.inr (.inl rfl))
  ·rcases hX i hi with h | h;·exact .inl (.inr (.inr h))
   ·exact .inr h
 ·rcases JX i hi with h | h;·exact hX i h
  ·exact .inr (Nat.le_trans bU.size h)
theorem MS.below{io:Io}{w w':World}{C L lc lp pb st:Nat}{r:R4}{x:io.S}{X:List Nat}(h:MS io w C L lc lp pb st r x X)(hb:Below w.heap.size w w'):MS io w' C L lc lp pb st r x X:=
 ⟨h.mod.aI (hb.block _ h.mod.CS) (hb.block _ h.mod.Br),io.aI h.io hb.size (fun i hi=>hb.block i (io.lt h.io i hi)),h.rv,h.uC⟩
theorem MS.drewN{io:Io}{w:World}{C L lc lp pb st:Nat}{r:R4}{x:io.S}{X:List Nat}(h:MS io w C L lc lp pb st r x X)(n:Nat):MS io (w.drewN n) C L lc lp pb st r x X:=h.below (below_drewN (Below.refl _ _) n)
section
variable{io:Io}{w:World}{C L lc lp pb st:Nat}{r:R4}{x:io.S}{X:List Nat}
theorem MS.aX(h:MS io w C L lc lp pb st r x X){b k:Nat}(hb:b ∉ C::L::X)(u:Value):MS io (w.setCell ⟨b,k,none⟩ u) C L lc lp pb st r x X:=by simp only[List.mem_cons,not_or]at hb;exact⟨h.mod.aI (ag _ _ _ _ (fun e=>hb.1 e.symm)) (ag _ _ _ _ (fun e=>hb.2.1 e.symm)),io.aI h.io ae (fun i hi=>ag _ _ _ _ (fun e=>hb.2.2 AU)),h.rv,h.uC⟩
theorem MS.ii(h:MS io w C L lc lp pb st r x X){k st':Nat}{r':R4}{v:Value}(hk:k<8)(hh:(cU lc lp pb st r).set k v=cU lc lp pb st' r'):MS io (w.setCell ⟨C,k,none⟩ v) C L lc lp pb st' r' x X:=
 ⟨h.mod.ii hk hh,io.aI h.io ae (fun i hi=>ag _ _ _ _ (fun e=>h.rv AU)),h.rv,h.uC⟩
end
theorem Bs(io:Io){C L lc lp pb st:Nat}{r:R4}{x:io.S}{X:List Nat}{w:World}(hM:MS io w C L lc lp pb st r x X)(aR:io.ok x.2 1){i b off n cp j:Nat}(hi:Md.used (2^(lc+lp)) i)(ha:Md.nj C L i=⟨b,off+j,none⟩)(hj:j<n)(hn:n≤cp)(wl:cp≤9223372036854775807)(one:Bool):
  Calls prog 203 #[io.v,.slice (some ⟨b,off,none⟩) n cp,.int .i64 (j:Nat),.bool one] w (jy (.int .i64 (dl (io.au i one x).1)) io C L lc lp pb st r (io.au i one x).2 X w):=by
 obtain⟨c,hc,he⟩:=hM.mod.tf i hi;have wn:=hM.mod.fair i;have hf:=hM.mod.Ua i;rw[ha]at hc hf;have hb:b=C∨b=L:=by have:=Md.wm C L i;have e:Md.fP C L i=b:=congrArg Addr.block ha;rw[e]at this;exact this
 have jM:b ∉ X:=by
  rcases hb with rfl | rfl;·exact hM.rv
  ·exact hM.uC
 have zz:=io.code w x.2 X b off n cp j c one hM.io aR jM hj hn wl hc hf (Md.K1 he wn.2);rw[he]at zz;refine zz.mono ?_;rintro e w' ⟨rfl,w1,X',bU,bx,Ub,rfl⟩;have hC:w1.heap[C]? =w.heap[C]? :=bU.block C hM.mod.CS hM.rv;have hL:w1.heap[L]? =w.heap[L]? :=bU.block L hM.mod.Br hM.uC;have fX:=hM.mod.aI hC hL;obtain⟨n1,n2⟩:=Rc.kH wn.1 wn.2 (io.bit x.2 (x.1 i) one).1;have eY:=fX.K2 hi n1 n2;rw[ha]at eY;have rv:C ∉ X':=fun h=>by
  rcases Ub C h with h | h;·exact hM.rv h
  ·have:=hM.mod.CS;omega
 have uC:L ∉ X':=fun h=>by
  rcases Ub L h with h | h;·exact hM.uC h
  ·have:=hM.mod.Br;omega
 have aiw:b ∉ X':=by
  rcases hb with rfl | rfl;·exact rv
  ·exact uC
 refine⟨rfl,X',⟨eY,io.aI bx ae (fun i hi=>ag _ _ _ _ (fun e=>aiw AU)),rv,uC⟩,?_,Ub⟩;have cC:az (C::L::X) w w1:=⟨bU.os,bU.tape,bU.output,bU.size,fun k hk hX=>bU.block k hk (fun h=>hX dS)⟩
 exact cC.setCell (p:=⟨b,off+j,none⟩) (.inl (by rcases hb with rfl | rfl<;>simp)) _
end
section
theorem ij{P:Program}{ops:Array Oper}{o:Oper}{a:Act}{w:World}{K:Act→World→Prop}{Q:Exit→Act→World→Prop}{E:Prop}(qQ:o.guard=none)(d s:Operand)(dT sT:TypeId)
  (ho:o.op= .call {callee:= .builtin .copy,args:= #[d,s],argTypes:= #[dT,sT]}) (elem:TypeId) (hu:P.underlying dT=some (.slice elem)) (dJ:(P.info? elem).map (·.size)=some 1)
  (g off K3 n YP YQ:Nat) (hd:a.eval d= .slice (some ⟨g,off,none⟩) n YP) (hs:a.eval s= .slice (some ⟨g,K3,none⟩) n YQ) (cur:List Value) (t:TypeId) (hg:w.heap[g]? =some (.cells cur.toArray t (0,0)))
  (cs:List Value) (hn:cs.length=n) (fT: ∀j,j<cs.length→cs[j]? =cur[K3+j]?) (bt:off+cs.length≤cur.length) (h1: ∀v∈cs,v.oneCell'=true)
  (h: ∀w',w'.heap[g]? =some (.cells (cur.take off++cs++cur.drop (off+cs.length)).toArray t (0,0))→az [g] w w'→K (a.put o.dst (goInt cs.length)) w'):
  if Region.wanted o (yielded ops a.tmps)=true then Oper.wp P o a w K Q else E:=by
 have hw:Region.wanted o (yielded ops a.tmps)=true:=sU;rw[if_pos hw];by_cases h0:cs.length=0;·obtain rfl:cs=[]:=List.eq_nil_of_length_eq_zero h0;have OP:=run_copy_none (P:=P) w dT sT o.type elem (some ⟨g,off,none⟩) (some ⟨g,K3,none⟩) n YP n YQ hu dJ (by simp at hn;rw[←hn];rfl);unfold Oper.wp;simp[execOp,ho,resolve,invoke,builtin,hd,hs,OP,Result.andThen];exact h w (by simpa using hg) (az.refl _ _)
 ·have OP:=run_copy_row (P:=P) w dT sT o.type elem g off n YP ⟨g,K3,none⟩ n YQ cur.toArray t cs hu dJ hg (by rw[hn];exact(Nat.min_self n).symm) (by
   intro j v hj;have tT:j<cs.length:=(List.getElem?_eq_some_iff.1 hj).1;have e:((⟨g,K3,none⟩:Addr).add j)=⟨g,K3+j,none⟩:=pD;rw[e,cell_of_row w g _ _ _ _ hg,List.getElem?_toArray,←fT j tT,hj]) (by simpa using bt) h1
  unfold Oper.wp;simp[execOp,ho,resolve,invoke,builtin,hd,hs,OP,Result.andThen];refine h _ (by simpa using setRow_heap w g _ _ t _ hg) ⟨rfl,rfl,rfl,ae,fun i _ hX=>setRow_other w g i _ (by simpa using hX)⟩
section
variable{w w':World}{C L lc lp pb st st':Nat}{r r':R4}{P:Nat→Nat}
theorem bV.vf(h:bV w C L lc lp pb st r P){T:List Value}(hT:w.heap[C]? =some (.cells (cU lc lp pb st r++T).toArray 146 (0,0)))(hT':w'.heap[C]? =some (.cells (cU lc lp pb st' r'++T).toArray 146 (0,0)))(hL:w'.heap[L]? =w.heap[L]?):bV w' C L lc lp pb st' r' P:=by
 obtain⟨T2,rx,mi⟩:=h.box;obtain⟨l,hl,sN⟩:=h.lits;have hTT:T.length=2053:=by rw[hT]at rx;injection rx with h1;injection h1 with h1 _ _;have:=congrArg Array.size h1;simp at this;omega
 have DJ: ∀k,8≤k→w'.cell? ⟨C,k,none⟩=w.cell? ⟨C,k,none⟩:=fun k hk=>by rw[cell_of_row w' _ _ _ _ _ hT',cell_of_row w _ _ _ _ _ hT,List.getElem?_toArray,List.getElem?_toArray,List.getElem?_append_right tP,List.getElem?_append_right tP];rfl
 refine⟨⟨T,hT',hTT⟩,⟨l,hL.trans hl,sN⟩,(DJ 440 an).trans h.lit,h.ne,fun i hi=> ?_,h.fair⟩;obtain⟨c,hc,he⟩:=h.tf i hi;refine⟨c,?_,he⟩;rw[←hc];by_cases h3:i<2180
 ·have ha:Md.nj C L i=⟨C,Md.fm i,none⟩:=by unfold Md.nj Md.fP;rw[if_pos h3]
  rw[ha];exact DJ _ (by unfold Md.fm Md.used at*;by_cases a1:i<432<;>by_cases a2:i<1844<;>simp only[a1,a2,h3,if_true,if_false]<;>omega)
 ·have ha:Md.nj C L i=⟨L,Md.fm i,none⟩:=by unfold Md.nj Md.fP;rw[if_neg h3]
  rw[ha];unfold World.cell?;rw[hL]
end
theorem vg(g n:Nat)(h:n≤3)(w:World):(Instr.sliceAt 127 (.pointer (some ⟨g,4,none⟩)) (some (.int .i64 1)) (some (.int .i64 (n+1:Nat))) none).run prog w= .ok (.slice (some ⟨g,5,none⟩) n 3) w:=by have hs:(sizeOf (prog.elem 127)).run prog w= .ok 1 w:=ak;rw[run_sliceAt_array_lh w 127 ⟨g,4,none⟩ TW .i64 .i64 1 (n+1:Nat) an aa (by rw[Dp];omega),hs,Dp];simp only[Result.andThen,slicedAt,Int.toNat_natCast,Nat.mul_one];rw[if_neg an,show(1:Int).toNat=1 from rfl,Addr.add_mid,Nat.add_sub_cancel]
theorem Bt(g n:Nat)(h:n≤4)(w:World):(Instr.sliceAt 127 (.pointer (some ⟨g,4,none⟩)) none (some (.int .i64 (n:Nat))) none).run prog w= .ok (.slice (some ⟨g,4,none⟩) n 4) w:=by have hs:(sizeOf (prog.elem 127)).run prog w= .ok 1 w:=ak;rw[run_sliceAt_array_h w 127 ⟨g,4,none⟩ TW .i64 (n:Nat) aa (by rw[Dp];omega),hs,Dp];simp only[Result.andThen,slicedAt,Int.toNat_natCast,Nat.mul_one,Nat.sub_zero];rw[if_neg an];simp[Addr.add]
def fp(r:R4)(which:Nat)(d:Int):R4:=match which with
 | 0=>(d,r.2.1,r.2.2.1,r.2.2.2)
 | 1=>(d,r.1,r.2.2.1,r.2.2.2)
 | 2=>(d,r.1,r.2.1,r.2.2.2)
 | _=>(d,r.1,r.2.1,r.2.2.1)
def lE(C L lc lp pb st:Nat)(r:R4)(P:Nat→Nat)(w:World)(e:Ending)(w':World):Prop:=e= .returned (.tuple #[])∧bV w' C L lc lp pb st r P∧az [C] w w'
theorem Uc{C L lc lp pb st:Nat}{r:R4}{P:Nat→Nat}{w:World}(hM:bV w C L lc lp pb st r P)(d:Int):Calls prog 226 #[PF C,.int .i64 0,.int .i64 d] w (lE C L lc lp pb st (d,r.2.1,r.2.2.1,r.2.2.2) P w):=by
 obtain⟨T,hT,mi⟩:=hM.box;have HT:=hdd hT;have HTL:=hdd mi;have HM:=hdd hM;have q1: ∀w,(Instr.sliceAt 127 (.pointer (some ⟨C,4,none⟩)) (some (.int .i64 1)) (some (.int .i64 1)) none).run prog w= .ok (.slice (some ⟨C,5,none⟩) 0 3) w:=fun w=>vg C 0 an w;have q2: ∀w,(Instr.sliceAt 127 (.pointer (some ⟨C,4,none⟩)) none (some (.int .i64 0)) none).run prog w= .ok (.slice (some ⟨C,4,none⟩) 0 4) w:=fun w=>Bt C 0 an w;have yA:IntKind.i64.wrap 1=1:=an;have tX:w.drew.heap[C]? =some (.cells (cU lc lp pb st r++T).toArray 146 (0,0)):=hT;have hlen:(cU lc lp pb st r++T).length=2061:=by simp[mi]
 have bt:5+0≤(cU lc lp pb st r++T).length:=aa;clear hM hT mi hlen;go_enter func226,ntmps226;go_upto_region 0 with fail;refine wp_region_held_drew (S:=fun _=>True) ak trivial (fun hS=> ?_);refine af 0 hS (h:=af 1 hS (h:=af 2 hS (h:=af 3 hS (h:=af 4 hS (h:=af 5 hS (h:=af 6 hS (h:=af 7 hS (h:=af 8 hS (h:=af 9 hS (h:=af 10 hS (h:= ?_)))))))))));refine aG 11 (fun K hK=> ?_);refine ij rfl (.tmp 11) (.tmp 16) 147 147 rfl 3 underlying147 ak C 5 4 0 _ _ rfl rfl (cU lc lp pb st r++T) 146 tX ([]) rfl ae bt ae ?_;intro w4 dK cH;simp only[Act.put];refine hK.out _ _ trivial (fun _=> ?_);clear hK K;refine wpAnyH_done ak ?_ _;have iM:w4.heap[C]? =some (.cells (cU lc lp pb st (r.1,r.2.1,r.2.2.1,r.2.2.2)++T).toArray 146 (0,0)):=dK;have bU:az [C] w w4:=⟨cH.os,cH.tape,cH.output,cH.size,cH.block⟩
 have jt:bV w4 C L lc lp pb st (r.1,r.2.1,r.2.2.1,r.2.2.2) P:=HM.out.vf HT.out iM (bU.block L HM.out.Br AV);obtain⟨_,_,_,_,c4,_⟩:=jt.cells;have f4:=jt.iW 4;have yM:=hdd jt;have mj:=hdd bU;clear tX bt dK cH iM bU jt q1 q2 yA;go_wp2_with fail;refine bodyPost_ret_by (results_none rfl _ _ _) rfl ⟨rfl,?_,?_⟩;·exact yM.out.ii (k:=4) (st':=st) (r':=(d,r.2.1,r.2.2.1,r.2.2.2)) an rfl
 ·exact mj.out.setCell (p:=⟨C,4,none⟩) (.inl ae) _
theorem Ud{C L lc lp pb st:Nat}{r:R4}{P:Nat→Nat}{w:World}(hM:bV w C L lc lp pb st r P)(d:Int):Calls prog 226 #[PF C,.int .i64 1,.int .i64 d] w (lE C L lc lp pb st (d,r.1,r.2.2.1,r.2.2.2) P w):=by
 obtain⟨T,hT,mi⟩:=hM.box;have HT:=hdd hT;have HTL:=hdd mi;have HM:=hdd hM;have q1: ∀w,(Instr.sliceAt 127 (.pointer (some ⟨C,4,none⟩)) (some (.int .i64 1)) (some (.int .i64 2)) none).run prog w= .ok (.slice (some ⟨C,5,none⟩) 1 3) w:=fun w=>vg C 1 an w;have q2: ∀w,(Instr.sliceAt 127 (.pointer (some ⟨C,4,none⟩)) none (some (.int .i64 1)) none).run prog w= .ok (.slice (some ⟨C,4,none⟩) 1 4) w:=fun w=>Bt C 1 an w;have yA:IntKind.i64.wrap 2=2:=an;have tX:w.drew.heap[C]? =some (.cells (cU lc lp pb st r++T).toArray 146 (0,0)):=hT;have hlen:(cU lc lp pb st r++T).length=2061:=by simp[mi]
 have bt:5+1≤(cU lc lp pb st r++T).length:=aa;clear hM hT mi hlen;go_enter func226,ntmps226;go_upto_region 0 with fail;refine wp_region_held_drew (S:=fun _=>True) ak trivial (fun hS=> ?_);refine af 0 hS (h:=af 1 hS (h:=af 2 hS (h:=af 3 hS (h:=af 4 hS (h:=af 5 hS (h:=af 6 hS (h:=af 7 hS (h:=af 8 hS (h:=af 9 hS (h:=af 10 hS (h:= ?_)))))))))));refine aG 11 (fun K hK=> ?_);refine ij rfl (.tmp 11) (.tmp 16) 147 147 rfl 3 underlying147 ak C 5 4 1 _ _ rfl rfl (cU lc lp pb st r++T) 146 tX ([Value.int .i64 r.1]) rfl (by intro j hj;match j,hj with | 0,_=>rfl) bt (by intro v hv;simp at hv;subst hv;rfl) ?_;intro w4 dK cH;simp only[Act.put];refine hK.out _ _ trivial (fun _=> ?_);clear hK K;refine wpAnyH_done ak ?_ _;have iM:w4.heap[C]? =some (.cells (cU lc lp pb st (r.1,r.1,r.2.2.1,r.2.2.2)++T).toArray 146 (0,0)):=dK;have bU:az [C] w w4:=⟨cH.os,cH.tape,cH.output,cH.size,cH.block⟩
 have jt:bV w4 C L lc lp pb st (r.1,r.1,r.2.2.1,r.2.2.2) P:=HM.out.vf HT.out iM (bU.block L HM.out.Br AV);obtain⟨_,_,_,_,c4,_⟩:=jt.cells;have f4:=jt.iW 4;have yM:=hdd jt;have mj:=hdd bU;clear tX bt dK cH iM bU jt q1 q2 yA;go_wp2_with fail;refine bodyPost_ret_by (results_none rfl _ _ _) rfl ⟨rfl,?_,?_⟩;·exact yM.out.ii (k:=4) (st':=st) (r':=(d,r.1,r.2.2.1,r.2.2.2)) an rfl
 ·exact mj.out.setCell (p:=⟨C,4,none⟩) (.inl ae) _
theorem Ue{C L lc lp pb st:Nat}{r:R4}{P:Nat→Nat}{w:World}(hM:bV w C L lc lp pb st r P)(d:Int):Calls prog 226 #[PF C,.int .i64 2,.int .i64 d] w (lE C L lc lp pb st (d,r.1,r.2.1,r.2.2.2) P w):=by
 obtain⟨T,hT,mi⟩:=hM.box;have HT:=hdd hT;have HTL:=hdd mi;have HM:=hdd hM;have q1: ∀w,(Instr.sliceAt 127 (.pointer (some ⟨C,4,none⟩)) (some (.int .i64 1)) (some (.int .i64 3)) none).run prog w= .ok (.slice (some ⟨C,5,none⟩) 2 3) w:=fun w=>vg C 2 an w;have q2: ∀w,(Instr.sliceAt 127 (.pointer (some ⟨C,4,none⟩)) none (some (.int .i64 2)) none).run prog w= .ok (.slice (some ⟨C,4,none⟩) 2 4) w:=fun w=>Bt C 2 an w;have yA:IntKind.i64.wrap 3=3:=an;have tX:w.drew.heap[C]? =some (.cells (cU lc lp pb st r++T).toArray 146 (0,0)):=hT;have hlen:(cU lc lp pb st r++T).length=2061:=by simp[mi]
 have bt:5+2≤(cU lc lp pb st r++T).length:=aa;clear hM hT mi hlen;go_enter func226,ntmps226;go_upto_region 0 with fail;refine wp_region_held_drew (S:=fun _=>True) ak trivial (fun hS=> ?_);refine af 0 hS (h:=af 1 hS (h:=af 2 hS (h:=af 3 hS (h:=af 4 hS (h:=af 5 hS (h:=af 6 hS (h:=af 7 hS (h:=af 8 hS (h:=af 9 hS (h:=af 10 hS (h:= ?_)))))))))));refine aG 11 (fun K hK=> ?_);refine ij rfl (.tmp 11) (.tmp 16) 147 147 rfl 3 underlying147 ak C 5 4 2 _ _ rfl rfl (cU lc lp pb st r++T) 146 tX ([Value.int .i64 r.1,Value.int .i64 r.2.1]) rfl (by intro j hj;match j,hj with | 0,_ | 1,_=>rfl) bt (by intro v hv;simp at hv;rcases hv with rfl | rfl<;>rfl) ?_;intro w4 dK cH;simp only[Act.put];refine hK.out _ _ trivial (fun _=> ?_);clear hK K;refine wpAnyH_done ak ?_ _;have iM:w4.heap[C]? =some (.cells (cU lc lp pb st (r.1,r.1,r.2.1,r.2.2.2)++T).toArray 146 (0,0)):=dK;have bU:az [C] w w4:=⟨cH.os,cH.tape,cH.output,cH.size,cH.block⟩
 have jt:bV w4 C L lc lp pb st (r.1,r.1,r.2.1,r.2.2.2) P:=HM.out.vf HT.out iM (bU.block L HM.out.Br AV);obtain⟨_,_,_,_,c4,_⟩:=jt.cells;have f4:=jt.iW 4;have yM:=hdd jt;have mj:=hdd bU;clear tX bt dK cH iM bU jt q1 q2 yA;go_wp2_with fail;refine bodyPost_ret_by (results_none rfl _ _ _) rfl ⟨rfl,?_,?_⟩;·exact yM.out.ii (k:=4) (st':=st) (r':=(d,r.1,r.2.1,r.2.2.2)) an rfl
 ·exact mj.out.setCell (p:=⟨C,4,none⟩) (.inl ae) _
theorem Uf{C L lc lp pb st:Nat}{r:R4}{P:Nat→Nat}{w:World}(hM:bV w C L lc lp pb st r P)(d:Int):Calls prog 226 #[PF C,.int .i64 3,.int .i64 d] w (lE C L lc lp pb st (d,r.1,r.2.1,r.2.2.1) P w):=by
 obtain⟨T,hT,mi⟩:=hM.box;have HT:=hdd hT;have HTL:=hdd mi;have HM:=hdd hM;have q1: ∀w,(Instr.sliceAt 127 (.pointer (some ⟨C,4,none⟩)) (some (.int .i64 1)) (some (.int .i64 4)) none).run prog w= .ok (.slice (some ⟨C,5,none⟩) 3 3) w:=fun w=>vg C 3 an w;have q2: ∀w,(Instr.sliceAt 127 (.pointer (some ⟨C,4,none⟩)) none (some (.int .i64 3)) none).run prog w= .ok (.slice (some ⟨C,4,none⟩) 3 4) w:=fun w=>Bt C 3 an w;have yA:IntKind.i64.wrap 4=4:=an;have tX:w.drew.heap[C]? =some (.cells (cU lc lp pb st r++T).toArray 146 (0,0)):=hT;have hlen:(cU lc lp pb st r++T).length=2061:=by simp[mi]
 have bt:5+3≤(cU lc lp pb st r++T).length:=aa;clear hM hT mi hlen;go_enter func226,ntmps226;go_upto_region 0 with fail;refine wp_region_held_drew (S:=fun _=>True) ak trivial (fun hS=> ?_);refine af 0 hS (h:=af 1 hS (h:=af 2 hS (h:=af 3 hS (h:=af 4 hS (h:=af 5 hS (h:=af 6 hS (h:=af 7 hS (h:=af 8 hS (h:=af 9 hS (h:=af 10 hS (h:= ?_)))))))))));refine aG 11 (fun K hK=> ?_);refine ij rfl (.tmp 11) (.tmp 16) 147 147 rfl 3 underlying147 ak C 5 4 3 _ _ rfl rfl (cU lc lp pb st r++T) 146 tX ([Value.int .i64 r.1,Value.int .i64 r.2.1,Value.int .i64 r.2.2.1]) rfl (by intro j hj;match j,hj with | 0,_ | 1,_ | 2,_=>rfl) bt F9 ?_;intro w4 dK cH;simp only[Act.put];refine hK.out _ _ trivial (fun _=> ?_);clear hK K;refine wpAnyH_done ak ?_ _;have iM:w4.heap[C]? =some (.cells (cU lc lp pb st (r.1,r.1,r.2.1,r.2.2.1)++T).toArray 146 (0,0)):=dK;have bU:az [C] w w4:=⟨cH.os,cH.tape,cH.output,cH.size,cH.block⟩
 have jt:bV w4 C L lc lp pb st (r.1,r.1,r.2.1,r.2.2.1) P:=HM.out.vf HT.out iM (bU.block L HM.out.Br AV);obtain⟨_,_,_,_,c4,_⟩:=jt.cells;have f4:=jt.iW 4;have yM:=hdd jt;have mj:=hdd bU;clear tX bt dK cH iM bU jt q1 q2 yA;go_wp2_with fail;refine bodyPost_ret_by (results_none rfl _ _ _) rfl ⟨rfl,?_,?_⟩;·exact yM.out.ii (k:=4) (st':=st) (r':=(d,r.1,r.2.1,r.2.2.1)) an rfl
 ·exact mj.out.setCell (p:=⟨C,4,none⟩) (.inl ae) _
theorem tg{C L lc lp pb st:Nat}{r:R4}{P:Nat→Nat}{w:World}(hM:bV w C L lc lp pb st r P)(n:Nat)(hn:n≤3)(d:Int):Calls prog 226 #[PF C,.int .i64 (n:Nat),.int .i64 d] w (lE C L lc lp pb st (fp r n d) P w):=by
 rcases(by omega:n=0∨n=1∨n=2∨n=3)with rfl | rfl | rfl | rfl;·exact Uc hM d
 ·exact Ud hM d
 ·exact Ue hM d
 ·exact Uf hM d
end
theorem nH(n:Int)(k:Nat)(hk:k≤62):bits .and .i64 n ((2^k-1:Nat):Int)=n%((2^k:Nat):Int):=by
 have h1:1≤2^k:=Nat.one_le_two_pow;have h2:2^k≤2^62:=Nat.pow_le_pow_right aa hk;have hm:(BitVec.ofInt 64 ((2^k-1:Nat):Int)).toNat=2^k-1:=by rw[BitVec.toNat_ofInt];omega
 have hd:(18446744073709551616:Int)=((2^k:Nat):Int)*((2^(64-k):Nat):Int):=by
  have:2^k*2^(64-k)=18446744073709551616:=by rw[←Nat.pow_add,show k+(64-k)=64 by omega]
  rw[←Int.natCast_mul,this];rfl
 have key:((BitVec.ofInt 64 n &&& BitVec.ofInt 64 ((2^k-1:Nat):Int)).toNat:Int)=n%((2^k:Nat):Int):=by rw[BitVec.toNat_and,hm,Nat.and_two_pow_sub_one_eq_mod,BitVec.toNat_ofInt];rw[Int.natCast_emod,Int.toNat_of_nonneg (Int.emod_nonneg _ an)];exact Int.emod_emod_of_dvd n ⟨_,hd⟩
 show IntKind.i64.wrap ((BitVec.ofInt 64 n &&& BitVec.ofInt 64 ((2^k-1:Nat):Int)).toNat:Nat)=n%((2^k:Nat):Int);have h3:0≤n%((2^k:Nat):Int):=Int.emod_nonneg _ aa;have h4:n%((2^k:Nat):Int)<((2^k:Nat):Int):=Int.emod_lt_of_pos _ aa;rw[key,IntKind.wrap_i64];omega
theorem kI(n:Int):bits .and .i64 n 1=n%2:=nH n 1 an
namespace Md
def aL(v:Int)(i:Nat):Bool:=decide (v/2^i%2=1)
def cM(io:Io)(at_:Nat)(v:Int):Nat→Nat→io.S→Nat×io.S
 | 0,m,x=>(m,x)
 | n+1,m,x=>cM io at_ v n (2*m+(io.au (at_+m) (aL v n) x).1.toNat) (io.au (at_+m) (aL v n) x).2
def tree(io:Io)(at_:Nat)(n:Nat)(v:Int)(x:io.S):Nat×io.S:=((cM io at_ v n 1 x).1-2^n,(cM io at_ v n 1 x).2)
theorem pH(io:Io)(at_:Nat)(v:Int): ∀n m x,m*2^n≤(cM io at_ v n m x).1∧(cM io at_ v n m x).1<(m+1)*2^n
 | 0,m,x=>by unfold cM;omega
 | n+1,m,x=>by
  unfold cM;obtain⟨h1,h2⟩:=pH io at_ v n (2*m+(io.au (at_+m) (aL v n) x).1.toNat) (io.au (at_+m) (aL v n) x).2;have hb:(io.au (at_+m) (aL v n) x).1.toNat≤1:=by cases(io.au (at_+m) (aL v n) x).1<;>decide
  refine⟨Nat.le_trans ?_ h1,Nat.lt_of_lt_of_le h2 ?_⟩;·rw[Nat.pow_succ,Nat.mul_comm (2^n) 2,←Nat.mul_assoc];exact Nat.mul_le_mul_right _ aa
  ·rw[Nat.pow_succ,Nat.mul_comm (2^n) 2,←Nat.mul_assoc];exact Nat.mul_le_mul_right _ aa
theorem Ug(io:Io)(at_:Nat)(n:Nat)(v:Int)(x:io.S):2^n≤(cM io at_ v n 1 x).1∧(tree io at_ n v x).1<2^n:=by have h:=pH io at_ v n 1 x;unfold tree;omega
def jc(io:Io)(at_:Nat)(v:Int):Nat→Nat→Nat→Nat→io.S→Nat×io.S
 | 0,_,_,g,x=>(g,x)
 | k+1,i,m,g,x=>jc io at_ v k (i+1) (2*m+(io.au (at_+m) (aL v i) x).1.toNat) (g+(io.au (at_+m) (aL v i) x).1.toNat*2^i) (io.au (at_+m) (aL v i) x).2
def rev(io:Io)(at_:Nat)(n:Nat)(v:Int)(x:io.S):Nat×io.S:=jc io at_ v n 0 1 0 x
theorem DK(io:Io)(at_:Nat)(v:Int): ∀k i m g x,g<2^i→(jc io at_ v k i m g x).1<2^(i+k)
 | 0,i,m,g,x,h=>h
 | k+1,i,m,g,x,h=>by
  unfold jc;have:=DK io at_ v k (i+1) (2*m+(io.au (at_+m) (aL v i) x).1.toNat) (g+(io.au (at_+m) (aL v i) x).1.toNat*2^i) (io.au (at_+m) (aL v i) x).2 (by
   rw[Nat.pow_succ];cases(io.au (at_+m) (aL v i) x).1<;>simp<;>omega)
  rw[show i+(k+1)=i+1+k by omega];exact this
theorem YR(io:Io)(at_:Nat)(n:Nat)(v:Int)(x:io.S):(rev io at_ n v x).1<2^n:=by have:=DK io at_ v n 0 1 0 x an;rw[Nat.zero_add]at this;exact this
structure Uh(C L n2 at_ len b off:Nat):Prop where
 used: ∀m,m<len→Md.used n2 (at_+m)
 nj: ∀m,m<len→Md.nj C L (at_+m)=⟨b,off+m,none⟩
end Md
theorem Io.oQ(io:Io){x:io.S}{b:Bool}(h:io.ok x.2 (n+1))(hf:1≤x.1 i∧x.1 i≤2047):io.ok (io.au i b x).2.2 n:=io.WY h hf.1 hf.2
theorem Ui(io:Io){x:io.S}(hM:MS io w C L lc lp pb st r x X){len:Nat}(aR:io.ok x.2 n)(qd:Md.Uh C L (2^(lc+lp)) at_ len b off)(hn:n≤8)(hl:2^n≤len)(hc:len≤cp)(wl:cp≤9223372036854775807)(v:Int):
  Calls prog 234 #[io.v,.slice (some ⟨b,off,none⟩) len cp,.int .i64 (n:Nat),.int .i64 v] w (jy (.int .i64 ((Md.tree io at_ n v x).1:Nat)) io C L lc lp pb st r (Md.tree io at_ n v x).2 X w):=by
 have sO:(n:Int)≤8:=aa;have ku:=fun y=>kI y;go_enter func234,ntmps234;go_wp2_with fail;go_loopw [9,10] (fun ms i wr=> ∃(j m:Nat) (x':io.S) (X':List Nat),j≤n∧ms= .int .i64 (m:Nat)∧i= .int .i64 ((j:Int)-1)∧2^(n-j)≤m∧m<2^(n-j)*2∧Hid (io.ok x'.2 j)∧Hid (Md.cM io at_ v j m x'=Md.cM io at_ v n 1 x)∧Hid (MS io wr C L lc lp pb st r x' X'∧az (C::L::X) w wr∧ ∀i∈X',i∈X∨w.heap.size≤i)) (fun _ i _=>(intOf i+1).toNat);case atStart=>exact⟨n,1,x,X,Nat.le_refl _,rfl,aq,ae,ae,hdd aR,hdd rfl,hdd ⟨hM,az.refl _ _,fun i hi=> .inl hi⟩⟩
 case round=>
  obtain⟨j,m,x',X',hj,rfl,rfl,fX,eY,oR,HT,HM⟩:=hrel;cases j with
  | zero=>
   have K4:2^n≤2^8:=Nat.pow_le_pow_right aa hn;rw[Nat.sub_zero]at fX eY;have HR:Hid ((Md.tree io at_ n v x).1=m-2^n∧(Md.tree io at_ n v x).2=x'):=hdd (by unfold Md.tree;rw[←HT.out];exact⟨rfl,rfl⟩);have HI:Hid (wrap64 ((m:Int)-wrap64 (2^n))=((m-2^n:Nat):Int)):=hdd (by
    have e:(2:Int)^n=((2^n:Nat):Int):=ae;rw[e];have e1:wrap64 ((2^n:Nat):Int)=((2^n:Nat):Int):=(by unfold wrap64;omega);rw[e1];unfold wrap64;omega)
   clear K4 fX eY;go_wp2_with fail;go_ret;rw[HR.out.1,HR.out.2,HI.out];exact⟨rfl,X',HM.out.1,HM.out.2.1,HM.out.2.2⟩
  | succ j=>
   have qS:m<len:=(by have e:2^(n-(j+1))*2=2^(n-j):=l8;have:2^(n-j)≤2^n:=Nat.pow_le_pow_right aa aa;omega);have K4:m<2^8*2:=Nat.lt_of_lt_of_le eY (Nat.mul_le_mul_right _ (Nat.pow_le_pow_right aa aa));have pI:=hdd (Bs io HM.out.1 (io.le oR.out aa) (qd.used m qS) (qd.nj m qS) qS hc wl (Md.aL v j));have WZ:=HM.out.1.mod.fair (at_+m);have d9:=hdd (io.oQ (i:=at_+m) (b:=Md.aL v j) oR.out WZ);have kZ:Hid (Md.cM io at_ v j (2*m+(io.au (at_+m) (Md.aL v j) x').1.toNat) (io.au (at_+m) (Md.aL v j) x').2=Md.cM io at_ v n 1 x):=hdd (by rw[←HT.out];rfl);have jd:=hdd fX;have ry:=hdd eY;obtain⟨⟨B,y⟩,hy⟩: ∃z,io.au (at_+m) (Md.aL v j) x'=z:=⟨_,rfl⟩
   rw[hy]at pI d9 kZ;simp only at pI d9 kZ;clear hy fX eY WZ;go_wp2_with fail;refine pI.out.mono ?_;rintro e w2 ⟨rfl,X2,mT,cC,JX⟩;have hw:fZ io C L lc lp pb st r y X w w2:=fZ.trans HM.out.2.1 HM.out.2.2 ⟨X2,mT,cC,JX⟩;have HW:=hdd hw;have hB:dl B=(B.toNat:Int):=(by cases B<;>rfl);have hBl:B.toNat≤1:=(by cases B<;>decide);rw[hB];have th:(m:Int)<512:=aa;have hBi:(B.toNat:Int)≤1:=aa;clear mT cC JX hw hB;go_wp2_with fail;obtain⟨X3,lZ,cK,pJ⟩:=HW.out;have e2:2^(n-j)=2^(n-(j+1))*2:=l8;exact⟨⟨j,2*m+B.toNat,y,X3,aa,aq,aq,ar jd.out,ar ry.out,d9,kZ,hdd ⟨lZ,cK,pJ⟩⟩,ia⟩
theorem Gv(g i:Nat)(B:Bool)(hg:g<2^i)(hi:i≤8):bits .or .i64 (g:Int) (((B.toNat*2^i:Nat)):Int)=((g+B.toNat*2^i:Nat):Int):=by
 have h2:2^i≤2^8:=Nat.pow_le_pow_right aa hi;have hB:B.toNat*2^i≤256:=by cases B<;>simp<;>omega
 have e1:(BitVec.ofInt 64 (g:Int)).toNat=g:=by rw[BitVec.toNat_ofInt];omega
 have e2:(BitVec.ofInt 64 ((B.toNat*2^i:Nat):Int)).toNat=B.toNat*2^i:=by rw[BitVec.toNat_ofInt];omega
 show IntKind.i64.wrap ((BitVec.ofInt 64 (g:Int) ||| BitVec.ofInt 64 ((B.toNat*2^i:Nat):Int)).toNat:Nat)=_;rw[BitVec.toNat_or,e1,e2,Nat.or_comm,Nat.mul_comm,←Nat.two_pow_add_eq_or_of_lt hg,IntKind.wrap_i64,Nat.mul_comm,Nat.add_comm];omega
theorem YS(io:Io){x:io.S}(hM:MS io w C L lc lp pb st r x X){len:Nat}(aR:io.ok x.2 n)(qd:Md.Uh C L (2^(lc+lp)) at_ len b off)(hn:n≤5)(hl:2^n≤len)(hc:len≤cp)(wl:cp≤9223372036854775807)(v:Int):
  Calls prog 236 #[io.v,.slice (some ⟨b,off,none⟩) len cp,.int .i64 (n:Nat),.int .i64 v] w (jy (.int .i64 ((Md.rev io at_ n v x).1:Nat)) io C L lc lp pb st r (Md.rev io at_ n v x).2 X w):=by
 have sO:(n:Int)≤5:=aa;have ku:=fun y=>kI y;go_enter func236,ntmps236;go_wp2_with fail;go_loopw [9,10,14] (fun ms gs i wr=> ∃(j m g:Nat) (x':io.S) (X':List Nat),j≤n∧ms= .int .i64 (m:Nat)∧gs= .int .i64 (g:Nat)∧i= .int .i64 (j:Nat)∧2^j≤m∧m<2^j*2∧g<2^j∧Hid (io.ok x'.2 (n-j))∧Hid (Md.jc io at_ v (n-j) j m g x'=Md.rev io at_ n v x)∧Hid (MS io wr C L lc lp pb st r x' X'∧az (C::L::X) w wr∧ ∀i∈X',i∈X∨w.heap.size≤i)) (fun _ _ i _=>n-(intOf i).toNat);case atStart=>exact⟨0,1,0,x,X,Nat.zero_le _,rfl,rfl,rfl,ae,ae,ae,hdd aR,hdd rfl,hdd ⟨hM,az.refl _ _,fun i hi=> .inl hi⟩⟩
 case round=>
  obtain⟨j,m,g,x',X',hj,rfl,rfl,rfl,fX,eY,hg,oR,HT,HM⟩:=hrel;by_cases hjn:j<n
  ·have yL:(j:Int)<(n:Int):=(by omega);have OQ:2^j*2≤2^n:=(by rw[←Nat.pow_succ];exact Nat.pow_le_pow_right aa aa);have ie:2^n≤2^5:=Nat.pow_le_pow_right aa hn;have qS:m<len:=aa;have pI:=hdd (Bs io HM.out.1 (io.le oR.out aa) (qd.used m qS) (qd.nj m qS) qS hc wl (Md.aL v j));have WZ:=HM.out.1.mod.fair (at_+m);have ho:=oR.out;rw[show n-j=(n-(j+1))+1 by omega]at ho;have d9:=hdd (io.oQ (i:=at_+m) (b:=Md.aL v j) ho WZ);have kZ:Hid (Md.jc io at_ v (n-(j+1)) (j+1) (2*m+(io.au (at_+m) (Md.aL v j) x').1.toNat) (g+(io.au (at_+m) (Md.aL v j) x').1.toNat*2^j) (io.au (at_+m) (Md.aL v j) x').2=Md.rev io at_ n v x):=hdd (by rw[←HT.out,show n-j=(n-(j+1))+1 by omega];rfl);have cu:=hdd (And.intro fX (And.intro eY hg));have aq8:m<32:=aa;have aq9:g<32:=aa;obtain⟨⟨B,y⟩,hy⟩: ∃z,io.au (at_+m) (Md.aL v j) x'=z:=⟨_,rfl⟩
   rw[hy]at pI d9 kZ;simp only at pI d9 kZ;clear hy fX eY WZ ho OQ ie hg;have ara:(j:Int)≤5:=aa;go_wp2_with fail;refine pI.out.mono ?_;rintro e w2 ⟨rfl,X2,mT,cC,JX⟩;have hw:fZ io C L lc lp pb st r y X w w2:=fZ.trans HM.out.2.1 HM.out.2.2 ⟨X2,mT,cC,JX⟩;have HW:=hdd hw;have hB:dl B=(B.toNat:Int):=(by cases B<;>rfl);have hBl:B.toNat≤1:=(by cases B<;>decide);rw[hB];have th:(m:Int)<32:=aa;have hBi:(B.toNat:Int)≤1:=aa;clear mT cC JX hw hB;go_wp2_with fail;obtain⟨X3,lZ,cK,pJ⟩:=HW.out;have hb:=cu.out;have hp8:2^j≤2^5:=Nat.pow_le_pow_right aa aa;have e2:2^(j+1)=2^j*2:=Nat.pow_succ _ _;have e3:wrap64 ((B.toNat:Int)*2^j)=((B.toNat*2^j:Nat):Int):=(by have:B.toNat*2^j≤32:=(by cases B<;>simp<;>omega);rw[show(2:Int)^j=((2^j:Nat):Int) by simp,←Int.natCast_mul];unfold wrap64;omega);have hBj:B.toNat*2^j≤2^j:=(by cases B<;>simp);exact⟨⟨j+1,2*m+B.toNat,g+B.toNat*2^j,y,X3,aa,aq,by rw[e3,Gv g j B hb.2.2 aa],aq,aa,aa,aa,d9,kZ,hdd ⟨lZ,cK,pJ⟩⟩,ia⟩
  ·obtain rfl:j=n:=(by omega);have hR:=HT.out;rw[Nat.sub_self]at hR;have HR:Hid (Md.rev io at_ j v x=(g,x')):=hdd hR.symm;clear hR fX eY hg;go_wp2_with fail;go_ret;rw[HR.out];exact⟨rfl,X',HM.out.1,HM.out.2.1,HM.out.2.2⟩
theorem Io.zA(io:Io)(at_:Nat)(v:Int): ∀n k m (x:io.S),io.ok x.2 (n+k)→(∀i,1≤x.1 i∧x.1 i≤2047)→io.ok (Md.cM io at_ v n m x).2.2 k
 | 0,k,m,x,h,hf=>by rw[Nat.zero_add]at h;exact h
 | n+1,k,m,x,h,hf=>by
  unfold Md.cM;have h2:io.ok (io.au (at_+m) (Md.aL v n) x).2.2 (n+k):=io.oQ (by rw[show n+k+1=n+1+k by omega];exact h) (hf _);refine Io.zA io at_ v n k _ _ h2 (fun i=> ?_);have hn:=Rc.kH (hf (at_+m)).1 (hf (at_+m)).2 (io.bit x.2 (x.1 (at_+m)) (Md.aL v n)).1;have hi:=hf i;unfold Io.au Md.put;simp only;split;·exact hn
  ·exact hi
theorem Io.DL(io:Io)(at_:Nat)(v:Int): ∀n k i m g (x:io.S),io.ok x.2 (n+k)→(∀i,1≤x.1 i∧x.1 i≤2047)→io.ok (Md.jc io at_ v n i m g x).2.2 k
 | 0,k,i,m,g,x,h,hf=>by rw[Nat.zero_add]at h;exact h
 | n+1,k,i,m,g,x,h,hf=>by
  unfold Md.jc;have h2:io.ok (io.au (at_+m) (Md.aL v i) x).2.2 (n+k):=io.oQ (by rw[show n+k+1=n+1+k by omega];exact h) (hf _);refine Io.DL io at_ v n k _ _ _ _ h2 (fun j=> ?_);have hn:=Rc.kH (hf (at_+m)).1 (hf (at_+m)).2 (io.bit x.2 (x.1 (at_+m)) (Md.aL v i)).1;have hi:=hf j;unfold Io.au Md.put;simp only;split;·exact hn
  ·exact hi
theorem vh(io:Io){x:io.S}(hM:MS io w C L lc lp pb st r x X){len:Nat}{v:Int}{z:io.S}(hz:Md.tree io at_ n v x=(tv,z))(aR:io.ok x.2 (n+k))(qd:Md.Uh C L (2^(lc+lp)) at_ len b off)(hn:n≤8)(hl:2^n≤len)(hc:len≤cp)(wl:cp≤9223372036854775807):
  Calls prog 234 #[io.v,.slice (some ⟨b,off,none⟩) len cp,.int .i64 (n:Nat),.int .i64 v] w (jy (.int .i64 (tv:Nat)) io C L lc lp pb st r z X w)∧tv<2^n∧io.ok z.2 k:=by
 have h:=Ui io hM (io.le aR aa) qd hn hl hc wl v;have h2:=(Md.Ug io at_ n v x).2;have h3:=Io.zA io at_ v n k 1 x aR hM.mod.fair;have h4:(Md.cM io at_ v n 1 x).2=z:=congrArg Prod.snd hz;rw[hz]at h h2;rw[h4]at h3;exact⟨h,h2,h3⟩
theorem OR(io:Io){x:io.S}(hM:MS io w C L lc lp pb st r x X){len:Nat}{v:Int}{z:io.S}(hz:Md.rev io at_ n v x=(tv,z))(aR:io.ok x.2 (n+k))(qd:Md.Uh C L (2^(lc+lp)) at_ len b off)(hn:n≤5)(hl:2^n≤len)(hc:len≤cp)(wl:cp≤9223372036854775807):
  Calls prog 236 #[io.v,.slice (some ⟨b,off,none⟩) len cp,.int .i64 (n:Nat),.int .i64 v] w (jy (.int .i64 (tv:Nat)) io C L lc lp pb st r z X w)∧tv<2^n∧io.ok z.2 k:=by
 have h:=YS io hM (io.le aR aa) qd hn hl hc wl v;have h2:=Md.YR io at_ n v x;have h3:=Io.DL io at_ v n k 0 1 0 x aR hM.mod.fair;have h4:(Md.jc io at_ v n 0 1 0 x).2=z:=congrArg Prod.snd hz;rw[hz]at h h2;rw[h4]at h3;exact⟨h,h2,h3⟩
theorem ml(io:Io){x:io.S}(hM:MS io w C L lc lp pb st r x X){len:Nat}{one B:Bool}{y:io.S}(hz:io.au i one x=(B,y))(hi:i=at_+j)(aR:io.ok x.2 (k+1))(qd:Md.Uh C L (2^(lc+lp)) at_ len b off)(hj:j<len)(hn:len≤cp)(wl:cp≤9223372036854775807):
  Calls prog 203 #[io.v,.slice (some ⟨b,off,none⟩) len cp,.int .i64 (j:Nat),.bool one] w (jy (.int .i64 (dl B)) io C L lc lp pb st r y X w)∧io.ok y.2 k:=by
 subst hi;have h:=Bs io hM (io.le aR aa) (qd.used j hj) (qd.nj j hj) hj hn wl one;have h3:=io.oQ (i:=at_+j) (b:=one) aR (hM.mod.fair _);rw[hz]at h h3;exact⟨h,h3⟩
theorem OS(io:Io){x:io.S}(hM:MS io w C L lc lp pb st r x X){v m q:Nat}{s2:io.σ}(hz:io.plain x.2 (v%2^m) m=(q,s2))(aR:io.ok x.2 (k+32))(hv:v<4294967296)(hm:m≤32):
  Calls prog io.F #[.pointer (some ⟨io.g,0,none⟩),.int .u32 (v:Nat),.int .i64 (m:Nat)] w (jy (.int .u32 (q:Nat)) io C L lc lp pb st r (x.1,s2) X w)∧q<2^m∧io.ok s2 k:=by
 have h:=io.ON w x.2 X v m hM.io (io.le aR aa) hv hm;have h2:=io.Bq (x:=v%2^m) aR hm;have h3:=io.JW (x:=v%2^m) (m:=m) aR (Nat.mod_lt _ (Nat.pow_pos an));rw[hz]at h h2 h3;refine⟨h.mono ?_,h3,h2⟩;rintro e w' ⟨rfl,X',bU,bx,Ub⟩;have hC:w'.heap[C]? =w.heap[C]? :=bU.block C hM.mod.CS hM.rv;have hL:w'.heap[L]? =w.heap[L]? :=bU.block L hM.mod.Br hM.uC;refine⟨rfl,X',⟨hM.mod.aI hC hL,bx,fun h=> ?_,fun h=> ?_⟩,⟨bU.os,bU.tape,bU.output,bU.size,fun i hi hX=>bU.block i hi (fun h=>hX dS)⟩,Ub⟩
 ·rcases Ub C h with h | h;·exact hM.rv h
  ·have:=hM.mod.CS;omega
 ·rcases Ub L h with h | h;·exact hM.uC h
  ·have:=hM.mod.Br;omega
theorem Md.lF{len:Nat}(ho:off=8+at_)(h2:at_+len≤432):Md.Uh C L n2 at_ len C off:=
 ⟨fun m hm=> .inl aa,fun m hm=>by
  unfold Md.nj Md.fP Md.fm;rw[if_pos aa,if_pos aa];rw[show 8+(at_+m)=off+m by omega]⟩
theorem Md.oS{len:Nat}(ho:off=9+at_)(h1:432≤at_)(h2:at_+len≤1716):Md.Uh C L n2 at_ len C off:=
 ⟨fun m hm=> .inl aa,fun m hm=>by
  unfold Md.nj Md.fP Md.fm;rw[if_pos aa,if_neg aa,if_pos aa];rw[show 9+(at_+m)=off+m by omega]⟩
theorem Md.DM{len:Nat}(ho:off+119=at_)(h1:1844≤at_)(h2:at_+len≤2180):Md.Uh C L n2 at_ len C off:=
 ⟨fun m hm=> .inr ⟨aa,aa⟩,fun m hm=>by
  unfold Md.nj Md.fP Md.fm;rw[if_pos aa,if_neg aa,if_neg aa,if_pos aa];rw[show at_+m-119=off+m by omega]⟩
theorem Md.OT{len:Nat}(ho:off+2180=at_)(h2:at_+len≤2180+768*n2):Md.Uh C L n2 at_ len L off:=
 ⟨fun m hm=> .inr ⟨aa,aa⟩,fun m hm=>by
  unfold Md.nj Md.fP Md.fm;rw[if_neg aa,if_neg aa,if_neg aa,if_neg aa];rw[show at_+m-2180=off+m by omega]⟩
namespace Md
def len(io:Io)(A p:Nat)(l:Int)(x:io.S):Nat×io.S:=
 let y:=io.au A (decide (8≤l-2)) x
 if y.1=false then(2+(tree io (A+2+8*p) 3 (l-2) y.2).1,(tree io (A+2+8*p) 3 (l-2) y.2).2)
 else
  let z:=io.au (A+1) (decide (16≤l-2)) y.2
  if z.1=false then(10+(tree io (A+130+8*p) 3 (l-2-8) z.2).1,(tree io (A+130+8*p) 3 (l-2-8) z.2).2)
  else(18+(tree io (A+258) 8 (l-2-16) z.2).1,(tree io (A+258) 8 (l-2-16) z.2).2)
end Md
def mm(Q:Prop)(D:Ending→World→Prop)(e:Ending)(w':World):Prop:=D e w'∧Q
theorem Gw(io:Io){x:io.S}(hM:MS io w C L lc lp pb st r x X){A p:Nat}{l:Int}{Z:io.S}(hR:Md.len io A p l x=(R,Z))(aR:io.ok x.2 (k+10))(hA:A=432∨A=946)(hp:p<16)(OU:0≤l)(wq:l≤300):
  Calls prog 224 #[.pointer (some ⟨C,9+A,none⟩),io.v,.int .i64 (p:Nat),.int .i64 l] w (mm (2≤R∧R≤273∧io.ok Z.2 k) (jy (.int .i64 (R:Nat)) io C L lc lp pb st r Z X w)):=by
 have rz:(p:Int)<16:=aa;have HA:Hid (A=432∨A=946):=hdd hA;unfold Md.len at hR;obtain⟨⟨B,y⟩,hy⟩: ∃z,io.au A (decide (8≤l-2)) x=z:=⟨_,rfl⟩
 obtain⟨h1,jA⟩:=ml io hM hy (at_:=A) (j:=0) (len:=2) (cp:=2) (b:=C) (off:=9+A) rfl (k:=k+9) aR (Md.oS rfl aa aa) aa aa aa;rw[hy]at hR;simp only at hR;have H1:=hdd h1;have kv:=hdd jA;have HR:=hdd hR;clear hA aR hy hR h1 jA;go_enter func224,ntmps224;go_wp2_with fail;refine H1.out.mono ?_;rintro e w1 ⟨rfl,X1,fq,ff,hX1⟩;have jd:=hdd fq;have wt:=hdd (And.intro ff hX1);clear fq ff hX1 H1;cases B with
 | false=>
  have hb:dl false=0:=rfl;rw[hb];have hR:=HR.out;simp only[if_true]at hR;obtain⟨⟨tv,z⟩,hz⟩: ∃q,Md.tree io (A+2+8*p) 3 (l-2) y=q:=⟨_,rfl⟩
  obtain⟨h2,htv,CT⟩:=vh io jd.out hz (len:=8) (cp:=8) (b:=C) (off:=9+A+2+p*8) (k:=k) (io.le kv.out aa) (Md.oS aa (ar HA.out) (ar HA.out)) aa aa aa aa;rw[hz]at hR;injection hR with iy iA;have mU:=hdd (And.intro iy.symm iA.symm);clear iy iA;have H2:=hdd h2;have acj:(tv:Int)<8:=aa;have d9:=hdd CT;clear hz hb h2 CT;go_wp2_with fail;refine H2.out.mono ?_;rintro e w2 ⟨rfl,kr⟩;go_wp2_with fail;go_ret;obtain⟨e1,e2⟩:=mU.out;subst e1 e2;exact⟨⟨aq,fZ.trans wt.out.1 wt.out.2 kr⟩,aa,aa,d9.out⟩
 | true=>
  have hb:dl true=1:=rfl;rw[hb];have hR:=HR.out;simp only[Bool.true_eq_false,if_false]at hR;obtain⟨⟨B,y2⟩,hy⟩: ∃q,io.au (A+1) (decide (16≤l-2)) y=q:=⟨_,rfl⟩
  obtain⟨h1,jA⟩:=ml io jd.out hy (at_:=A) (j:=1) (len:=2) (cp:=2) (b:=C) (off:=9+A) rfl (k:=k+8) kv.out (Md.oS rfl (ar HA.out) (ar HA.out)) aa aa aa;rw[hy]at hR;simp only at hR;have H1:=hdd h1;have W7:=hdd jA;have HRb:=hdd hR;clear hy hR h1 jA hb;go_wp2_with fail;refine H1.out.mono ?_;rintro e w2 ⟨rfl,kr⟩;obtain⟨X2,mT,cC,JX⟩:=fZ.trans wt.out.1 wt.out.2 kr;have ry:=hdd mT;have vi:=hdd (And.intro cC JX);clear mT cC JX H1 kr;cases B with
  | false=>
   have hb:dl false=0:=rfl;rw[hb];have hR:=HRb.out;simp only[if_true]at hR;obtain⟨⟨tv,z⟩,hz⟩: ∃q,Md.tree io (A+130+8*p) 3 (l-2-8) y2=q:=⟨_,rfl⟩
   obtain⟨h2,htv,CT⟩:=vh io ry.out hz (len:=8) (cp:=8) (b:=C) (off:=9+A+130+p*8) (k:=k) (io.le W7.out aa) (Md.oS aa (ar HA.out) (ar HA.out)) aa aa aa aa;rw[hz]at hR;injection hR with iy iA;have mU:=hdd (And.intro iy.symm iA.symm);clear iy iA;have H2:=hdd h2;have acj:(tv:Int)<8:=aa;have d9:=hdd CT;clear hz hb h2 CT;go_wp2_with fail;refine H2.out.mono ?_;rintro e w3 ⟨rfl,uD⟩;go_wp2_with fail;go_ret;obtain⟨e1,e2⟩:=mU.out;subst e1 e2;exact⟨⟨aq,fZ.trans vi.out.1 vi.out.2 uD⟩,aa,aa,d9.out⟩
  | true=>
   have hb:dl true=1:=rfl;rw[hb];have hR:=HRb.out;simp only[Bool.true_eq_false,if_false]at hR;obtain⟨⟨tv,z⟩,hz⟩: ∃q,Md.tree io (A+258) 8 (l-2-16) y2=q:=⟨_,rfl⟩
   obtain⟨h2,htv,CT⟩:=vh io ry.out hz (len:=256) (cp:=256) (b:=C) (off:=9+A+258) (k:=k) (io.le W7.out aa) (Md.oS aa (ar HA.out) (ar HA.out)) aa aa aa aa;rw[hz]at hR;injection hR with iy iA;have mU:=hdd (And.intro iy.symm iA.symm);clear iy iA;have H2:=hdd h2;have acj:(tv:Int)<256:=aa;have d9:=hdd CT;clear hz hb h2 CT;go_wp2_with fail;refine H2.out.mono ?_;rintro e w3 ⟨rfl,uD⟩;go_wp2_with fail;go_ret;obtain⟨e1,e2⟩:=mU.out;subst e1 e2;exact⟨⟨aq,fZ.trans vi.out.1 vi.out.2 uD⟩,aa,aa,d9.out⟩
def ec(d:Nat):Nat:=if d<4 then d else 2*Lib.bitLen d-2+d/2^(Lib.bitLen d-2)%2
theorem rC(h4:4≤d)(h:d<4294967296):3≤Lib.bitLen d∧Lib.bitLen d≤32:=by
 rw[Lib.bitLen_shift 2 d h4 aa];have h5:d/2^2≠0:=aa;rw[Lib.bitLen_half (d/2^2) h5 aa];have h6:d/2^2/2<2^29:=aa;have h7: ∀(f x:Nat),x<2^f→Lib.bitLenAux 64 x≤f∨64<f:=fun f x hx=>by
  by_cases hf:f≤64
  ·left;rw[Lib.bitLenAux_fuel f x hx 64 hf];clear hx hf;induction f generalizing x with
   | zero=>exact Nat.le_refl _
   | succ f ih=>
    unfold Lib.bitLenAux;split;·omega
    ·have:=ih (x/2);omega
  ·right;omega
 have h8:=h7 29 _ h6;unfold Lib.bitLen;omega
theorem wy(h:d<4294967296):ec d<64:=by
 unfold ec;split;·omega
 ·have:=rC (d:=d) aa h;omega
theorem DP(x:Nat)(hx:x<4294967296):bits .and .u32 (x:Int) 1=((x%2:Nat):Int):=by rw[show(1:Int)=((1:Nat):Int)from rfl,u32_and_nat _ _ aa aa,nat_mask1]
theorem OV(d:Nat)(hd:d<4294967296)(w:World):Calls prog 235 #[.int .u32 (d:Nat)] w fun e w'=>e= .returned (.int .i64 (ec d:Nat))∧w=w':=by
 by_cases h4:d<4
 ·have h4i:(d:Int)<4:=by omega
  have HS:Hid (ec d=d):=hdd (by unfold ec;rw[if_pos h4]);rw[HS.out];go_enter func235,ntmps235;go_wp2_with fail;go_ret;exact⟨rfl,rfl⟩
 ·have h4i: ¬(d:Int)<4:=by omega
  obtain⟨n1,n2⟩:=rC (d:=d) aa hd;have HL:=hdd (ti (d:Nat) w aa aa);have⟨S,hS⟩:=ex (ec d);rw[hS];unfold ec at hS;rw[if_neg h4]at hS;rw[Int.toNat_natCast]at HL;generalize Lib.bitLen d=n at*;have yP:(3:Int)≤(n:Int):=aa;have oT:(n:Int)≤32:=aa;have HS:=hdd hS;clear hS;go_enter func235,ntmps235;go_wp2_with fail;refine HL.out.mono ?_;rintro e w1 ⟨rfl,rfl⟩;go_wp2_with fail;go_ret;refine⟨congrArg (fun n:Int=>Ending.returned (Value.int .i64 n)) ?_,rfl⟩;rw[←HS.out];have e:(d:Int)/2^(n-2)=((d/2^(n-2):Nat):Int):=ae;have hle:d/2^(n-2)≤d:=Nat.div_le_self _ _;rw[e,DP _ aa];unfold wrap64;omega
namespace Md
def de(io:Io)(l:Nat)(dd:Int)(x:io.S):Nat×io.S:=
 let d:Nat:=((dd-1)%4294967296).toNat
 let y:=tree io (1460+64*min (l-2) 3) 6 (ec d:Nat) x
 if y.1<4 then(y.1+1,y.2)
 else if y.1<14 then
  let z:=rev io (1716+32*y.1) (y.1/2-1) (d:Nat) y.2
  ((2+y.1%2)*2^(y.1/2-1)+z.1+1,z.2)
 else
  let q:=io.plain y.2.2 (d/16%2^(y.1/2-1-4)) (y.1/2-1-4)
  let z:=rev io 2164 4 (d:Nat) (y.2.1,q.2)
  ((2+y.1%2)*2^(y.1/2-1)+q.1%2^(y.1/2-1-4)*16+z.1+1,z.2)
end Md
theorem Uj(io:Io){x:io.S}(hM:MS io w C L lc lp pb st r x X){l:Nat}{dd:Int}{Z:io.S}(hR:Md.de io l dd x=(R,Z))(aR:io.ok x.2 (k+42))(hl:2≤l)(wq:l≤300)(hd0:0≤dd)(ky:dd≤4294967295):
  Calls prog 225 #[.pointer (some ⟨C,1469,none⟩),io.v,.int .i64 (l:Nat),.int .i64 dd] w (mm (1≤R∧R≤4294967296∧io.ok Z.2 k) (jy (.int .i64 (R:Nat)) io C L lc lp pb st r Z X w)):=by
 have⟨D,hD'⟩:=ex (((dd-1)%4294967296).toNat:Nat);have hD:D<4294967296:=aa;have hDi:IntKind.u32.wrap (dd-1)=(D:Int):=l9;unfold Md.de at hR;rw[hD']at hR;have th:min (IntKind.i64.wrap ((l:Int)-2)) 3=((min (l-2) 3:Nat):Int):=by rw[IntKind.wrap_i64];omega
 have⟨K,hK⟩:=ex (min (l-2) 3);have hK3:K≤3:=aa;rw[hK]at hR th;obtain⟨⟨slot,y⟩,hy⟩: ∃q,Md.tree io (1460+64*K) 6 (ec D:Nat) x=q:=⟨_,rfl⟩
 obtain⟨h1,qe,jA⟩:=vh io (hM.drewN 1) hy (len:=64) (cp:=64) (b:=C) (off:=1469+K*64) (k:=k+36) (io.le aR aa) (Md.oS aa aa aa) aa aa aa aa;simp only[hy]at hR;have HT:=hdd h1;have HR:=hdd hR;have oR:=hdd jA;have aiC:(slot:Int)<64:=aa;have hKi:(K:Int)<4:=aa;clear hR h1 jA hy aR;have bE:True:=trivial;go_enter func225,ntmps225;go_upto_region 2 with fail;refine wp_region_held_drew (S:=fun _=>True) ak bE (fun hS=> ?_);refine af 0 hS (h:=af 1 hS (h:=af 2 hS (h:=af 3 hS (h:=af 4 hS (h:=af 5 hS (h:=af 6 hS (h:=af 7 hS (h:=af 8 hS (h:=af 9 hS (h:= ?_))))))))));refine aG 10 (fun K hK=> ?_);go_simp;refine(OV D hD _).mono ?_;rintro e x4 ⟨rfl,rfl⟩;go_wp2_with fail;refine hK.out _ _ bE (fun _=> ?_);clear hK K;refine aG 11 (fun K hK=> ?_);go_simp;refine HT.out.mono ?_;rintro e x5 ⟨rfl,X1,fq,ff,hX1⟩;have g5:=hdd (And.intro ff hX1);clear ff hX1;go_wp2_with fail;refine hK.out _ _ trivial (fun _=> ?_);clear hK K;refine af 12 trivial (h:= ?_);refine wpAnyH_done ak ?_ _;have jd:=hdd fq;clear hS bE fq HT;have hR:=HR.out;by_cases h4:slot<4
 ·have h4i:(slot:Int)<4:=by omega
  rw[if_pos h4]at hR;injection hR with iy iA;have mU:=hdd (And.intro iy.symm iA.symm);clear iy iA h4;go_wp2_with fail;go_ret;obtain⟨e1,e2⟩:=mU.out;subst e1 e2;exact⟨⟨aq,X1,jd.out,az.mh g5.out.1,g5.out.2⟩,aa,aa,io.le oR.out aa⟩
 ·have h4i: ¬(slot:Int)<4:=by omega
  rw[if_neg h4]at hR;have⟨n,hn⟩:=ex (slot/2-1);have sO:(slot:Int)/2-1=(n:Int):=aa;have OW:n≤30:=aa;have K5:2^n≤2^30:=Nat.pow_le_pow_right aa OW;obtain⟨TOP,hT⟩: ∃T,(2+slot%2)*2^n=T:=⟨_,rfl⟩
  have Ul:TOP≤3*2^30:=by rw[←hT];exact Nat.mul_le_mul aa K5
  have ab8:wrap64 (wrap64 (2+bits .and .i64 (slot:Int) 1)*2^n)=(TOP:Int):=by rw[kI,show(2:Int)+(slot:Int)%2=((2+slot%2:Nat):Int) by omega];have e1:wrap64 ((2+slot%2:Nat):Int)=((2+slot%2:Nat):Int):=(by unfold wrap64;omega);rw[e1,show(2:Int)^n=((2^n:Nat):Int) by simp,←Int.natCast_mul,hT];unfold wrap64;omega
  have hTi:(TOP:Int)≤3221225472:=aa;rw[hn,hT]at hR;by_cases NW:slot<14
  ·have acl:(slot:Int)<14:=(by omega);rw[if_pos NW]at hR;obtain⟨⟨t,z⟩,hz⟩: ∃q,Md.rev io (1716+32*slot) n (D:Nat) y=q:=⟨_,rfl⟩
   have h2n:2^n≤2^5:=Nat.pow_le_pow_right aa aa;obtain⟨h2,ht,CT⟩:=OR io jd.out hz (len:=32) (cp:=32) (b:=C) (off:=1725+(slot-4)*32) (k:=k) (io.le oR.out aa) (Md.DM aa aa aa) aa aa aa aa;simp only[hz]at hR;injection hR with iy iA;have mU:=hdd (And.intro iy.symm iA.symm);have H2:=hdd h2;have d9:=hdd CT;have hti:(t:Int)<32:=aa;have HN:=hdd hn;have CN:=hdd (And.intro Ul ht);clear iy iA h4 hn OW K5 hT Ul h2n ht h2 CT hz NW;go_wp2_with fail;refine H2.out.mono ?_;rintro e x6 ⟨rfl,yQ⟩;go_wp2_with fail;go_ret;obtain⟨e1,e2⟩:=mU.out;subst e1 e2;exact⟨⟨aq,fZ.trans (az.mh g5.out.1) g5.out.2 yQ⟩,aa,ar CN.out,d9.out⟩
  ·have acl: ¬(slot:Int)<14:=(by omega);rw[if_neg NW]at hR;have⟨m,hm⟩:=ex (n-4);have th:(n:Int)-4=(m:Int):=aa;have aiE:m≤26:=aa;have acn:2^m≤2^26:=Nat.pow_le_pow_right aa aiE;have FT:1≤2^m:=Nat.one_le_two_pow;rw[hm]at hR;have⟨M,hM'⟩:=ex (2^m-1);have an4:((2:Int)^m-1)%4294967296=(M:Int):=(by rw[show(2:Int)^m=((2^m:Nat):Int) by simp];omega);have⟨V,hV⟩:=ex (D/16%2^m);have aco:V<2^m:=(by rw[←hV];exact Nat.mod_lt _ aa);have hand:bits .and .u32 ((D:Int)/16) (M:Int)=(V:Int):=(by rw[show(D:Int)/16=((D/16:Nat):Int) by omega,u32_and_nat _ _ aa aa,←hM',Nat.and_two_pow_sub_one_eq_mod,hV]);have hVm:V%2^m=V:=Nat.mod_eq_of_lt aco;rw[hV]at hR;obtain⟨⟨q,s2⟩,hq⟩: ∃z,io.plain y.2 V m=z:=⟨_,rfl⟩
   obtain⟨h2,mq,CT⟩:=OS io jd.out (v:=V) (m:=m) (q:=q) (s2:=s2) (k:=k+4) (by rw[hVm];exact hq) oR.out aa aa;simp only[hq]at hR;rw[Nat.mod_eq_of_lt mq]at hR;have hqi:(q:Int)<67108864:=aa;have an6:bits .and .u32 (q:Int) (M:Int)=(q:Int):=(by rw[u32_and_nat _ _ aa aa,←hM',Nat.and_two_pow_sub_one_eq_mod,Nat.mod_eq_of_lt mq]);obtain⟨⟨t,z⟩,hz⟩: ∃q,Md.rev io 2164 4 (D:Nat) (y.1,s2)=q:=⟨_,rfl⟩
   simp only[hz]at hR;injection hR with iy iA;have mU:=hdd (And.intro iy.symm iA.symm);have HZ:=hdd hz;have d9:=hdd CT;have CN:=hdd (And.intro Ul mq);have an7:=io.ach;have H26:=hdd acn;rcases io.kind with hF | hF
   all_goals
    have H2:=hdd h2;rw[hF]at H2
   all_goals
    clear iy iA hn OW K5 hT Ul h2 CT hz NW hm acn hM' hV aco hVm hq mq FT h4;go_wp2_with fail;refine H2.out.mono ?_;rintro e x6 ⟨rfl,yQ⟩;obtain⟨X2,mT,cC,JX⟩:=fZ.trans (az.mh g5.out.1) g5.out.2 yQ;obtain⟨h3,ht,JD⟩:=OR io mT HZ.out (len:=16) (cp:=16) (b:=C) (off:=2045) (k:=k) (io.le d9.out aa) (Md.DM aa aa aa) aa aa aa aa;have H3:=hdd h3;have hti:(t:Int)<16:=aa;have HT3:=hdd (And.intro ht JD);have vi:=hdd (And.intro cC JX);clear cC JX mT yQ h3 ht JD;go_wp2_with fail;refine H3.out.mono ?_;rintro e x7 ⟨rfl,Um⟩;go_wp2_with fail;go_ret;obtain⟨e1,e2⟩:=mU.out;subst e1 e2;have h26:=H26.out;have htt:=CN.out;exact⟨⟨aq,fZ.trans vi.out.1 vi.out.2 Um⟩,aa,ar HT3.out,HT3.out.2⟩
end Go.Proofs.YtgfpocdiojifoaaGreatDoor
