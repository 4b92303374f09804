import Derived.Test.YtgfpocdiojifoaaGreatDoorZ04
namespace Go.Proofs.YtgfpocdiojifoaaGreatDoor
set_option maxRecDepth 100000
set_option maxHeartbeats 8000000
open Go.RowKit
namespace Md
def eff(c:Nat):Nat:=if c=0 then 1024 else c
theorem JU{c:Nat}(h:c<2048):Rc.fair (eff c)=eff c:=by unfold Rc.fair eff;split<;>split<;>omega
theorem V4{c:Nat}(h:c<2048):eff c<2048:=by unfold eff;split<;>omega
theorem QC{c:Nat}(h:c≠0):eff c=c:=by unfold eff;rw[if_neg h]
end Md
def BL(at_:World→List Nat→Prop)(X:List Nat)(a:Addr)(bit:Bool)(p:Nat)(w:World)(e:Ending)(w':World):Prop:=
 e= .returned (.int .i64 (dK bit))∧ ∃w1 X',Only X w w1∧at_ w1 X'∧(∀i∈X',i∈X∨w.heap.size≤i)∧w'=w1.setCell a (.int .u16 (p:Nat))
def ahb(g:Nat)(s:Rc.St)(w:World)(X:List Nat):Prop:= ∃o cap,X=[g,o]∧gQ w g o cap s
def ahc(g o cap:Nat)(l:List UInt8)(s:Rd.St)(w:World)(X:List Nat):Prop:=X=[g,o]∧ku w g o cap l s
theorem aA{X:List Nat}{w w':World}{a:Addr}{v:Value}(h:Only X w w')(hX:a.block ∉ X)(hc:w.cell? a=some v):w'.cell? a=some v:=by
 have hb:a.block<w.heap.size:=block_lt_of_cell hc
 have e:=h.block _ hb hX
 unfold World.cell? at hc ⊢
 rw[e];exact hc
theorem nX{X:List Nat}{w w':World}{a:Addr}{b:Bool}(h:Only X w w')(hX:a.block ∉ X)(hl:a.block<w.heap.size)(hc:w.frozen? a=b):w'.frozen? a=b:=by
 have e:=h.block _ hl hX
 unfold World.frozen? at hc ⊢
 rw[e];exact hc
theorem Only.nY{X:List Nat}{a b:World}{n:Nat}(h:Only X (a.drewN n) b):Only X a b:=⟨h.os,h.tape,h.output,h.size,h.block⟩
theorem V5(g o cap:Nat)(s:Rc.St)(b off n cp j c:Nat)(one:Bool)(w:World)(hE:gQ w g o cap s)(hs:s.ok)(hk:1+s.k+2≤140737488355328)(hX:b ∉ [g,o])(hj:j<n)(hn:n≤cp)(hcp:cp≤9223372036854775807)
  (hc:w.cell? ⟨b,off+j,none⟩=some (.int .u16 (c:Nat))) (hf:w.frozen? ⟨b,off+j,none⟩=false) (hcl:c<2048):
  Calls Tryz.prog 203 #[.iface 196 (.pointer (some ⟨g,0,none⟩)),.slice (some ⟨b,off,none⟩) n cp,.int .i64 (j:Nat),.bool one] w
   (BL (ahb g (Rc.St.scale 2 (s.pick (Md.eff c) one))) [g,o] ⟨b,off+j,none⟩ one (Rc.next (Md.eff c) one) w):=by
 have hm: ∀w,(method 421 196 (.pointer (some ⟨g,0,none⟩)) "Bit").run Tryz.prog w= .ok (255,.pointer (some ⟨g,0,none⟩)) w:=fun w=>by kernel_rfl
 have hji:(j:Int)<(n:Int):=by omega
 have hni:(n:Int)≤9223372036854775807:=by omega
 have rF:=Lib.hid (fun(m:Nat)=>show Calls Tryz.prog 255 #[.pointer (some ⟨g,0,none⟩),.int .u16 (Md.eff c:Nat),.int .i64 (dK one)] (w.drewN m) (Qz (w.drewN m) g o (dK one) (Rc.next (Md.eff c) one) (Rc.St.scale 2 (s.pick (Md.eff c) one)))from by
  have hbit:=aaO g o cap s (BitVec.ofNat 16 (Md.eff c)) (dK one) (w.drewN m) ⟨hE.blk,hE.own,hE.ne⟩ hs hk
  have e0:(BitVec.ofNat 16 (Md.eff c)).toNat=Md.eff c:=by have:=Md.V4 hcl;simp;omega
  have e1:(dK one !=0)=one:=by cases one<;>rfl
  rw[e0,Md.JU hcl,e1]at hbit
  exact hbit)
 have HX:=Lib.hid hX
 have HC:=Lib.hid hc
 have HF:=Lib.hid hf
 clear hE hs hk hX hf
 obtain⟨T,hT⟩: ∃T,Rc.St.scale 2 (s.pick (Md.eff c) one)=T:=⟨_,rfl⟩
 rw[hT]at rF ⊢
 obtain⟨N,hN⟩: ∃N,Rc.next (Md.eff c) one=N:=⟨_,rfl⟩
 rw[hN]at rF ⊢
 clear hT hN
 by_cases h0:c=0
 ·subst h0
  rw[show Md.eff 0=1024 from rfl]at rF
  cases one
  all_goals
   simp only[dK,Bool.false_eq_true,if_false,if_true]at rF
   go_enter Tryz.func203,Tryz.ntmps203
   go_wp2_with fail
   go_quiet (fail)
   go_wp2_with fail
   refine(rF.out _).mono ?_
   rintro e w1 ⟨rfl,o',cap',hE1,hon,ho'⟩
   have ql:=Only.nY hon
   have hc1:=aA ql HX.out HC.out
   have hf1:=nX ql HX.out (block_lt_of_cell HC.out) HF.out
   go_wp2_with fail
   go_ret
   exact⟨rfl,w1,[g,o'],ql,⟨o',cap',rfl,hE1⟩,by intro i hi;simp at hi;rcases hi with rfl | rfl;exact .inl (by simp);rcases ho' with h | h;exact .inl (by simp[h]);exact .inr h,rfl⟩
 ·rw[Md.QC h0]at rF
  have h0i:((c:Nat):Int)≠0:=by omega
  have h0b:(((c:Nat):Int)==0)=false:=beq_eq_false_iff_ne.2 h0i
  cases one
  all_goals
   simp only[dK,Bool.false_eq_true,if_false,if_true]at rF
   go_enter Tryz.func203,Tryz.ntmps203
   go_wp2_with fail
   go_quiet (fail)
   go_wp2_with fail
   refine(rF.out _).mono ?_
   rintro e w1 ⟨rfl,o',cap',hE1,hon,ho'⟩
   have ql:=Only.nY hon
   have hc1:=aA ql HX.out HC.out
   have hf1:=nX ql HX.out (block_lt_of_cell HC.out) HF.out
   go_wp2_with fail
   go_ret
   exact⟨rfl,w1,[g,o'],ql,⟨o',cap',rfl,hE1⟩,by intro i hi;simp at hi;rcases hi with rfl | rfl;exact .inl (by simp);rcases ho' with h | h;exact .inl (by simp[h]);exact .inr h,rfl⟩
theorem V6(g o cap:Nat)(l:List UInt8)(s:Rd.St)(b off n cp j c:Nat)(one:Bool)(w:World)(hE:ku w g o cap l s)(hs:s.ok l)(hl:l.length≤140737488355328)(hX:b ∉ [g,o])(hj:j<n)(hn:n≤cp)(hcp:cp≤9223372036854775807)
  (hc:w.cell? ⟨b,off+j,none⟩=some (.int .u16 (c:Nat))) (hf:w.frozen? ⟨b,off+j,none⟩=false) (hcl:c<2048):
  Calls Tryz.prog 203 #[.iface 283 (.pointer (some ⟨g,0,none⟩)),.slice (some ⟨b,off,none⟩) n cp,.int .i64 (j:Nat),.bool one] w
   (BL (ahc g o cap l (s.bit l (Md.eff c)).2) [g,o] ⟨b,off+j,none⟩ (s.bit l (Md.eff c)).1 (Rc.next (Md.eff c) (s.bit l (Md.eff c)).1) w):=by
 have hm: ∀w,(method 421 283 (.pointer (some ⟨g,0,none⟩)) "Bit").run Tryz.prog w= .ok (262,.pointer (some ⟨g,0,none⟩)) w:=fun w=>by kernel_rfl
 have hji:(j:Int)<(n:Int):=by omega
 have hni:(n:Int)≤9223372036854775807:=by omega
 have rF:=Lib.hid (fun(m:Nat)=>show Calls Tryz.prog 262 #[.pointer (some ⟨g,0,none⟩),.int .u16 (Md.eff c:Nat),.int .i64 (dK one)] (w.drewN m) (ag9 (w.drewN m) g o cap l (s.bit l (Md.eff c)).1 (Rc.next (Md.eff c) (s.bit l (Md.eff c)).1) (s.bit l (Md.eff c)).2)from by
  have hbit:=VY g o cap l s (BitVec.ofNat 16 (Md.eff c)) (dK one) (w.drewN m) (hE.below (below_drewN (Below.refl _ _) m)) hs hl
  have e0:(BitVec.ofNat 16 (Md.eff c)).toNat=Md.eff c:=by have:=Md.V4 hcl;simp;omega
  rw[e0,Md.JU hcl]at hbit
  exact hbit)
 have HX:=Lib.hid hX
 have HC:=Lib.hid hc
 have HF:=Lib.hid hf
 clear hE hs hl hX hf
 obtain⟨⟨B,T⟩,hT⟩: ∃z,s.bit l (Md.eff c)=z:=⟨_,rfl⟩
 rw[hT]at rF ⊢
 simp only at rF ⊢
 obtain⟨N,hN⟩: ∃N,Rc.next (Md.eff c) B=N:=⟨_,rfl⟩
 rw[hN]at rF ⊢
 clear hT hN
 by_cases h0:c=0
 ·subst h0
  rw[show Md.eff 0=1024 from rfl]at rF
  cases one<;>cases B
  all_goals
   simp only[dK,Bool.false_eq_true,if_false,if_true]at rF
   go_enter Tryz.func203,Tryz.ntmps203
   go_wp2_with fail
   go_quiet (fail)
   go_wp2_with fail
   refine(rF.out _).mono ?_
   rintro e w1 ⟨rfl,hE1,hon⟩
   have ql:Only [g,o] w w1:=(Only.refl _ _).trans (Only.nY hon) (by intro i hi;simp at hi;exact .inl (by simp[hi]))
   have hc1:=aA ql HX.out HC.out
   have hf1:=nX ql HX.out (block_lt_of_cell HC.out) HF.out
   go_wp2_with fail
   go_ret
   exact⟨rfl,w1,[g,o],ql,⟨rfl,hE1⟩,fun i hi=> .inl hi,rfl⟩
 ·rw[Md.QC h0]at rF
  have h0i:((c:Nat):Int)≠0:=by omega
  have h0b:(((c:Nat):Int)==0)=false:=beq_eq_false_iff_ne.2 h0i
  cases one<;>cases B
  all_goals
   simp only[dK,Bool.false_eq_true,if_false,if_true]at rF
   go_enter Tryz.func203,Tryz.ntmps203
   go_wp2_with fail
   go_quiet (fail)
   go_wp2_with fail
   refine(rF.out _).mono ?_
   rintro e w1 ⟨rfl,hE1,hon⟩
   have ql:Only [g,o] w w1:=(Only.refl _ _).trans (Only.nY hon) (by intro i hi;simp at hi;exact .inl (by simp[hi]))
   have hc1:=aA ql HX.out HC.out
   have hf1:=nX ql HX.out (block_lt_of_cell HC.out) HF.out
   go_wp2_with fail
   go_ret
   exact⟨rfl,w1,[g,o],ql,⟨rfl,hE1⟩,fun i hi=> .inl hi,rfl⟩
namespace Md
def jm(C L i:Nat):Nat:=if i<2180 then C else L
def iT(i:Nat):Nat:=if i<432 then 8+i else if i<1844 then 9+i else if i<2180 then i-119 else i-2180
def rG(C L i:Nat):Addr:=⟨jm C L i,iT i,none⟩
def used(n i:Nat):Prop:=i<1716∨(1844≤i∧i<2180+768*n)
theorem BM(C L i:Nat):jm C L i=C∨jm C L i=L:=by
 unfold jm
 split
 ·exact .inl rfl
 ·exact .inr rfl
theorem aaT{C L n i j:Nat}(hne:C≠L)(hi:used n i)(hj:used n j)(h:rG C L i=rG C L j):i=j:=by
 unfold used at hi hj
 have h1:jm C L i=jm C L j:=congrArg Addr.block h
 have h2:iT i=iT j:=congrArg Addr.off h
 have h3:i<2180↔j<2180:=by
  unfold jm at h1
  by_cases h4:i<2180<;>by_cases h5:j<2180<;>simp[h4,h5]at h1 ⊢
  ·exact hne h1
  ·exact hne h1.symm
 unfold iT at h2
 by_cases a1:i<432<;>by_cases a2:i<1844<;>by_cases a3:i<2180<;>by_cases b1:j<432<;>by_cases b2:j<1844<;>by_cases b3:j<2180<;>simp only[a1,a2,a3,b1,b2,b3,if_true,if_false]at h2<;>omega
theorem QD{C L i k:Nat}(hne:C≠L)(hk:k<8∨k=440):rG C L i≠⟨C,k,none⟩:=by
 intro h
 have h1:jm C L i=C:=congrArg Addr.block h
 have h2:iT i=k:=congrArg Addr.off h
 have h3:i<2180:=by
  unfold jm at h1
  by_cases h4:i<2180
  ·exact h4
  ·rw[if_neg h4]at h1;exact absurd h1.symm hne
 unfold iT at h2
 by_cases a1:i<432<;>by_cases a2:i<1844<;>simp only[a1,a2,h3,if_true,if_false]at h2<;>omega
def put(P:Nat→Nat)(i p:Nat):Nat→Nat:=fun j=>if j=i then p else P j
end Md
structure Io where
 σ:Type
 t:TypeId
 g:Nat
 F:Nat
 at_:World→σ→List Nat→Prop
 ok:σ→Nat→Prop
 bit:σ→Nat→Bool→Bool×σ
 plain:σ→Nat→Nat→Nat×σ
 keep: ∀{w w' s X},at_ w s X→w.heap.size≤w'.heap.size→(∀i∈X,w'.heap[i]? =w.heap[i]?)→at_ w' s X
 lt: ∀{w s X},at_ w s X→ ∀i∈X,i<w.heap.size
 V7: ∀{s n p b},ok s (n+1)→1≤p→p≤2047→ok (bit s p b).2 n
 AY: ∀{s n x m},ok s (n+32)→m≤32→ok (plain s x m).2 n
 le: ∀{s n m},ok s n→m≤n→ok s m
 Ib: ∀{s n x m},ok s n→x<2^m→(plain s x m).1<2^m
 kind:F=256∨F=263
 meth: ∀w,(method 421 t (.pointer (some ⟨g,0,none⟩)) "Plain").run Tryz.prog w= .ok (F,.pointer (some ⟨g,0,none⟩)) w
 code: ∀(w:World) (s:σ) (X:List Nat) (b off n cp j c:Nat) (one:Bool),at_ w s X→ok s 1→b ∉ X→j<n→n≤cp→cp≤9223372036854775807→w.cell? ⟨b,off+j,none⟩=some (.int .u16 (c:Nat))→w.frozen? ⟨b,off+j,none⟩=false→c<2048→
  Calls Tryz.prog 203 #[.iface t (.pointer (some ⟨g,0,none⟩)),.slice (some ⟨b,off,none⟩) n cp,.int .i64 (j:Nat),.bool one] w
   (BL (fun w' X'=>at_ w' (bit s (Md.eff c) one).2 X') X ⟨b,off+j,none⟩ (bit s (Md.eff c) one).1 (Rc.next (Md.eff c) (bit s (Md.eff c) one).1) w)
 NC: ∀(w:World) (s:σ) (X:List Nat) (x m:Nat),at_ w s X→ok s 32→x<4294967296→m≤32→
  Calls Tryz.prog F #[.pointer (some ⟨g,0,none⟩),.int .u32 (x:Nat),.int .i64 (m:Nat)] w
   (fun e w'=>e= .returned (.int .u32 ((plain s (x%2^m) m).1:Nat))∧ ∃X',Only X w w'∧at_ w' (plain s (x%2^m) m).2 X'∧ ∀i∈X',i∈X∨w.heap.size≤i)
abbrev Io.v(io:Io):Value:= .iface io.t (.pointer (some ⟨io.g,0,none⟩))
abbrev Io.S(io:Io):Type:=(Nat→Nat)×io.σ
def Io.au(io:Io)(i:Nat)(b:Bool)(x:io.S):Bool×io.S:=((io.bit x.2 (x.1 i) b).1,(Md.put x.1 i (Rc.next (x.1 i) (io.bit x.2 (x.1 i) b).1),(io.bit x.2 (x.1 i) b).2))
def aj(g:Nat):Io where
 σ:=Rc.St
 t:=196
 g:=g
 F:=256
 at_ w s X:= ∃o cap,X=[g,o]∧gQ w g o cap s
 ok s n:=s.ok∧1+s.k+2*n≤140737488355328
 bit s p b:=(b,Rc.St.scale 2 (s.pick p b))
 plain s x m:=(x,s.plain x m)
 keep:=by
  rintro w w' s X ⟨o,cap,rfl,h⟩ _ hk
  exact⟨o,cap,rfl,h.keep (hk g (by simp)) (hk o (by simp))⟩
 lt:=by
  rintro w s X ⟨o,cap,rfl,h⟩ i hi
  simp at hi
  rcases hi with rfl | rfl
  ·exact h.lt.1
  ·exact h.lt.2
 V7:=by
  rintro s n p b ⟨h1,h2⟩ h3 h4
  obtain⟨hf,hr⟩:=s.kF p b h1 h3 h4
  have hk:=Rc.St.QA 2 (s.pick p b)
  rw[Rc.St.aef]at hk
  exact⟨Rc.St.oW 2 _ hf (by omega),by show 1+(Rc.St.scale 2 (s.pick p b)).k+2*n≤_;omega⟩
 AY:=by
  rintro s n x m ⟨h1,h2⟩ h3
  obtain⟨hf,hk⟩:=s.JL h1 m x
  exact⟨hf,by show 1+(s.plain x m).k+2*n≤_;omega⟩
 le:=by
  rintro s n m ⟨h1,h2⟩ h
  exact⟨h1,by omega⟩
 Ib:=by
  rintro s n x m _ h
  exact h
 kind:= .inl rfl
 meth w:=by kernel_rfl
 code:=by
  rintro w s X b off n cp j c one ⟨o,cap,rfl,h⟩ ⟨h1,h2⟩ hX hj hn hcp hc hf hcl
  exact V5 g o cap s b off n cp j c one w h h1 (by omega) hX hj hn hcp hc hf hcl
 NC:=by
  rintro w s X x m ⟨o,cap,rfl,h⟩ ⟨h1,h2⟩ hx hm
  have hp:=RN g o cap s (BitVec.ofNat 32 x) (m:Nat) w h h1 (by omega)
  have e0:(BitVec.ofNat 32 x).toNat=x:=by simp;omega
  have e1:many (m:Nat)=m:=by unfold many;omega
  rw[e0,e1]at hp
  refine hp.mono ?_
  rintro e w' ⟨rfl,o',cap',hE,hon,ho⟩
  exact⟨rfl,[g,o'],hon,⟨o',cap',rfl,hE⟩,by intro i hi;simp at hi;rcases hi with rfl | rfl;exact .inl (by simp);rcases ho with h | h;exact .inl (by simp[h]);exact .inr h⟩
def ak(g o cap:Nat)(l:List UInt8):Io where
 σ:=Rd.St
 t:=283
 g:=g
 F:=263
 at_ w s X:=X=[g,o]∧ku w g o cap l s
 ok s _:=s.ok l∧l.length≤140737488355328
 bit s p _:=s.bit l p
 plain s _ m:=s.plain l m
 keep:=by
  rintro w w' s X ⟨rfl,x,y,h,hD⟩ hs hk
  exact⟨rfl,x,y,h,hD.keep hs (hk g (by simp)) (hk o (by simp))⟩
 lt:=by
  rintro w s X ⟨rfl,x,y,h,hD⟩ i hi
  simp at hi
  rcases hi with rfl | rfl
  ·exact hD.glt
  ·exact hD.lt
 V7:=by
  rintro s n p b ⟨h1,h2⟩ h3 h4
  exact⟨Rd.St.VT h1 h3 h4,h2⟩
 AY:=by
  rintro s n x m ⟨h1,h2⟩ h3
  refine⟨?_,h2⟩
  have:=(Rd.St.yQ h1 m).1
  show(s.plain l m).2.ok l
  unfold Rd.St.plain
  split
  ·exact this
  ·exact this
 le:=by
  rintro s n m h _
  exact h
 Ib:=by
  rintro s n x m ⟨h1,h2⟩ _
  have hp:0<2^m:=Nat.pow_pos (by decide)
  have:=(Rd.St.yQ h1 m).2
  show(s.plain l m).1<2^m
  unfold Rd.St.plain
  split
  ·exact hp
  ·exact this
 kind:= .inr rfl
 meth w:=by kernel_rfl
 code:=by
  rintro w s X b off n cp j c one ⟨rfl,h⟩ ⟨h1,h2⟩ hX hj hn hcp hc hf hcl
  exact V6 g o cap l s b off n cp j c one w h h1 h2 hX hj hn hcp hc hf hcl
 NC:=by
  rintro w s X x m ⟨rfl,h⟩ ⟨h1,h2⟩ hx hm
  have hp:=Ny g o cap l s (BitVec.ofNat 32 x) (m:Nat) w h h1 h2
  have e0:(BitVec.ofNat 32 x).toNat=x:=by simp;omega
  have e1:many (m:Nat)=m:=by unfold many;omega
  rw[e0,e1]at hp
  refine hp.mono ?_
  rintro e w' ⟨rfl,hE,hon⟩
  exact⟨rfl,[g,o],(Only.refl _ _).trans hon (by intro i hi;simp at hi;exact .inl (by simp[hi])),⟨rfl,hE⟩,fun i hi=> .inl hi⟩
section
abbrev dD(lc lp pb st:Nat)(r:R4):List Value:=[.int .i64 (lc:Nat),.int .i64 (lp:Nat),.int .i64 (pb:Nat),.int .i64 (st:Nat),.int .i64 r.1,.int .i64 r.2.1,.int .i64 r.2.2.1,.int .i64 r.2.2.2]
structure bg(w:World)(C L lc lp pb st:Nat)(r:R4)(P:Nat→Nat):Prop where
 box: ∃T:List Value,w.heap[C]? =some (.cells (dD lc lp pb st r++T).toArray 146 (0,0))∧T.length=2053
 lits: ∃l:List Value,w.heap[L]? =some (.cells l.toArray 291 (0,0))∧l.length=768*2^(lc+lp)
 lit:w.cell? ⟨C,440,none⟩=some (.slice (some ⟨L,0,none⟩) (2^(lc+lp)) (2^(lc+lp)))
 ne:C≠L
 chance: ∀i,Md.used (2^(lc+lp)) i→ ∃c:Nat,w.cell? (Md.rG C L i)=some (.int .u16 (c:Nat))∧Md.eff c=P i
 fair: ∀i,1≤P i∧P i≤2047
theorem Md.RU{c p:Nat}(h:eff c=p)(hp:p≤2047):c<2048:=by unfold eff at h;split at h<;>omega
section
variable{w w':World}{C L lc lp pb st:Nat}{r:R4}{P:Nat→Nat}
theorem bg.EW(h:bg w C L lc lp pb st r P):C<w.heap.size:=by
 obtain⟨T,hT,_⟩:=h.box
 exact(Array.getElem?_eq_some_iff.1 hT).1
theorem bg.BN(h:bg w C L lc lp pb st r P):L<w.heap.size:=by
 obtain⟨T,hT,_⟩:=h.lits
 exact(Array.getElem?_eq_some_iff.1 hT).1
theorem bg.keep(h:bg w C L lc lp pb st r P)(hC:w'.heap[C]? =w.heap[C]?)(hL:w'.heap[L]? =w.heap[L]?):bg w' C L lc lp pb st r P:=by
 obtain⟨T,hT,hTl⟩:=h.box
 obtain⟨l,hl,hll⟩:=h.lits
 refine⟨⟨T,hC.trans hT,hTl⟩,⟨l,hL.trans hl,hll⟩,?_,h.ne,fun i hi=> ?_,h.fair⟩
 ·have:=h.lit
  unfold World.cell? at this ⊢
  rw[hC];exact this
 ·obtain⟨c,hc,he⟩:=h.chance i hi
  refine⟨c,?_,he⟩
  unfold World.cell? at hc ⊢
  have hb:w'.heap[(Md.rG C L i).block]? =w.heap[(Md.rG C L i).block]? :=by
   rcases Md.BM C L i with e | e
   ·rw[show(Md.rG C L i).block=C from e];exact hC
   ·rw[show(Md.rG C L i).block=L from e];exact hL
  rw[hb];exact hc
theorem bg.kS(h:bg w C L lc lp pb st r P)(k:Nat):w.frozen? ⟨C,k,none⟩=false:=by
 obtain⟨T,hT,_⟩:=h.box
 exact frozen_of_row _ _ _ _ _ hT
theorem bg.aaU(h:bg w C L lc lp pb st r P)(k:Nat):w.frozen? ⟨L,k,none⟩=false:=by
 obtain⟨T,hT,_⟩:=h.lits
 exact frozen_of_row _ _ _ _ _ hT
theorem bg.aaV(h:bg w C L lc lp pb st r P)(i:Nat):w.frozen? (Md.rG C L i)=false:=by
 unfold Md.rG
 rcases Md.BM C L i with e | e
 ·rw[e];exact h.kS _
 ·rw[e];exact h.aaU _
theorem bg.cells(h:bg w C L lc lp pb st r P):w.cell? ⟨C,0,none⟩=some (.int .i64 (lc:Nat))∧w.cell? ⟨C,1,none⟩=some (.int .i64 (lp:Nat))∧w.cell? ⟨C,2,none⟩=some (.int .i64 (pb:Nat))∧w.cell? ⟨C,3,none⟩=some (.int .i64 (st:Nat))∧
  w.cell? ⟨C,4,none⟩=some (.int .i64 r.1)∧w.cell? ⟨C,5,none⟩=some (.int .i64 r.2.1)∧w.cell? ⟨C,6,none⟩=some (.int .i64 r.2.2.1)∧w.cell? ⟨C,7,none⟩=some (.int .i64 r.2.2.2):=by
 obtain⟨T,hT,_⟩:=h.box
 refine⟨?_,?_,?_,?_,?_,?_,?_,?_⟩<;>(rw[cell_of_row w _ _ _ _ _ hT];simp)
theorem bg.RV(h:bg w C L lc lp pb st r P){i p:Nat}(hi:Md.used (2^(lc+lp)) i)(h1:1≤p)(h2:p≤2047):bg (w.setCell (Md.rG C L i) (.int .u16 (p:Nat))) C L lc lp pb st r (Md.put P i p):=by
 obtain⟨T,hT,hTl⟩:=h.box
 obtain⟨l,hl,hll⟩:=h.lits
 have hat:(w.setCell (Md.rG C L i) (.int .u16 (p:Nat))).cell? (Md.rG C L i)=some (.int .u16 (p:Nat)):=by
  obtain⟨c,hc,_⟩:=h.chance i hi
  exact World.cell?_setCell_same _ _ _ hc
 have V8: ∀a:Addr,a≠Md.rG C L i→(w.setCell (Md.rG C L i) (.int .u16 (p:Nat))).cell? a=w.cell? a:=fun a ha=>World.cell?_setCell_other _ _ _ _ (fun e=>ha e.symm)
 refine⟨?_,?_,?_,h.ne,fun j hj=> ?_,fun j=> ?_⟩
 ·by_cases h3:i<2180
  ·have hk:8≤Md.iT i:=by unfold Md.iT Md.used at*;by_cases a1:i<432<;>by_cases a2:i<1844<;>simp only[a1,a2,h3,if_true,if_false]<;>omega
   refine⟨T.set (Md.iT i-8) (.int .u16 (p:Nat)),?_,by rw[List.length_set];exact hTl⟩
   unfold Md.rG Md.jm
   rw[if_pos h3,heap_set hT]
   rw[List.set_append_right _ _ (by simpa using hk)];rfl
  ·refine⟨T,?_,hTl⟩
   unfold Md.rG Md.jm
   rw[if_neg h3]
   exact(ah _ _ _ _ h.ne).trans hT
 ·by_cases h3:i<2180
  ·refine⟨l,?_,hll⟩
   unfold Md.rG Md.jm
   rw[if_pos h3]
   exact(ah _ _ _ _ (fun e=>h.ne e.symm)).trans hl
  ·refine⟨l.set (Md.iT i) (.int .u16 (p:Nat)),?_,by rw[List.length_set];exact hll⟩
   unfold Md.rG Md.jm
   rw[if_neg h3]
   exact heap_set hl _ _
 ·rw[V8 _ (fun e=>Md.QD h.ne (.inr rfl) e.symm)];exact h.lit
 ·by_cases hji:j=i
  ·subst hji
   refine⟨p,hat,?_⟩
   unfold Md.put Md.eff
   rw[if_pos rfl,if_neg (by omega)]
  ·obtain⟨c,hc,he⟩:=h.chance j hj
   refine⟨c,?_,?_⟩
   ·rw[V8 _ (fun e=>hji (Md.aaT h.ne hj hi e))];exact hc
   ·unfold Md.put;rw[if_neg hji];exact he
 ·unfold Md.put
  split
  ·exact⟨h1,h2⟩
  ·exact h.fair j
theorem bg.setHead(h:bg w C L lc lp pb st r P){k st':Nat}{r':R4}{v:Value}(hk:k<8)(hh:(dD lc lp pb st r).set k v=dD lc lp pb st' r'):bg (w.setCell ⟨C,k,none⟩ v) C L lc lp pb st' r' P:=by
 obtain⟨T,hT,hTl⟩:=h.box
 obtain⟨l,hl,hll⟩:=h.lits
 have V8: ∀a:Addr,a≠⟨C,k,none⟩→(w.setCell ⟨C,k,none⟩ v).cell? a=w.cell? a:=fun a ha=>World.cell?_setCell_other _ _ _ _ (fun e=>ha e.symm)
 refine⟨⟨T,?_,hTl⟩,⟨l,(ah _ _ _ _ (fun e=>h.ne e.symm)).trans hl,hll⟩,?_,h.ne,fun i hi=> ?_,h.fair⟩
 ·rw[heap_set hT,List.set_append_left _ _ (by simpa using hk),hh]
 ·rw[V8 _ (fun e=>by have:=congrArg Addr.off e;simp at this;omega)];exact h.lit
 ·obtain⟨c,hc,he⟩:=h.chance i hi
  exact⟨c,(V8 _ (Md.QD h.ne (.inl hk))).trans hc,he⟩
end
theorem Rc.nZ{p:Nat}(h1:1≤p)(h2:p≤2047)(b:Bool):1≤Rc.next p b∧Rc.next p b≤2047:=by unfold Rc.next;cases b<;>simp<;>omega
structure MS(io:Io)(w:World)(C L lc lp pb st:Nat)(r:R4)(x:io.S)(X:List Nat):Prop where
 mod:bg w C L lc lp pb st r x.1
 io:io.at_ w x.2 X
 vU:C ∉ X
 yR:L ∉ X
def jd(io:Io)(C L lc lp pb st:Nat)(r:R4)(x:io.S)(X:List Nat)(w w':World):Prop:=
 ∃X',MS io w' C L lc lp pb st r x X'∧Only (C::L::X) w w'∧ ∀i∈X',i∈X∨w.heap.size≤i
def lN(v:Value)(io:Io)(C L lc lp pb st:Nat)(r:R4)(x:io.S)(X:List Nat)(w:World)(e:Ending)(w':World):Prop:=e= .returned v∧jd io C L lc lp pb st r x X w w'
theorem Only.of_below{X:List Nat}{w w':World}(h:Below w.heap.size w w'):Only X w w':=⟨h.os,h.tape,h.output,h.size,fun i hi _=>h.block i hi⟩
theorem jd.trans{io:Io}{C L lc lp pb st':Nat}{r':R4}{x':io.S}{X X1:List Nat}{w w1 w2:World}(hon:Only (C::L::X) w w1)(hX: ∀i∈X1,i∈X∨w.heap.size≤i)(h:jd io C L lc lp pb st' r' x' X1 w1 w2):jd io C L lc lp pb st' r' x' X w w2:=by
 obtain⟨X2,hM,iQ,hX2⟩:=h
 refine⟨X2,hM,hon.trans iQ ?_,fun i hi=> ?_⟩
 ·intro i hi
  simp only[List.mem_cons]at hi ⊢
  rcases hi with rfl | rfl | hi
  ·exact .inl (.inl rfl)
  ·exact .inl (.inr (.inl rfl))
  ·rcases hX i hi with h | h
   ·exact .inl (.inr (.inr h))
   ·exact .inr h
 ·rcases hX2 i hi with h | h
  ·exact hX i h
  ·exact .inr (Nat.le_trans hon.size h)
theorem MS.below{io:Io}{w w':World}{C L lc lp pb st:Nat}{r:R4}{x:io.S}{X:List Nat}(h:MS io w C L lc lp pb st r x X)(hb:Below w.heap.size w w'):MS io w' C L lc lp pb st r x X:=
 ⟨h.mod.keep (hb.block _ h.mod.EW) (hb.block _ h.mod.BN),io.keep h.io hb.size (fun i hi=>hb.block i (io.lt h.io i hi)),h.vU,h.yR⟩
theorem MS.drewN{io:Io}{w:World}{C L lc lp pb st:Nat}{r:R4}{x:io.S}{X:List Nat}(h:MS io w C L lc lp pb st r x X)(n:Nat):MS io (w.drewN n) C L lc lp pb st r x X:=h.below (below_drewN (Below.refl _ _) n)
section
variable{io:Io}{w:World}{C L lc lp pb st:Nat}{r:R4}{x:io.S}{X:List Nat}
theorem MS.aU(h:MS io w C L lc lp pb st r x X){b k:Nat}(hb:b ∉ C::L::X)(u:Value):MS io (w.setCell ⟨b,k,none⟩ u) C L lc lp pb st r x X:=by
 simp only[List.mem_cons,not_or]at hb
 exact⟨h.mod.keep (ah _ _ _ _ (fun e=>hb.1 e.symm)) (ah _ _ _ _ (fun e=>hb.2.1 e.symm)),io.keep h.io (by simp) (fun i hi=>ah _ _ _ _ (fun e=>hb.2.2 (by simp at e;rw[←e];exact hi))),h.vU,h.yR⟩
theorem MS.setHead(h:MS io w C L lc lp pb st r x X){k st':Nat}{r':R4}{v:Value}(hk:k<8)(hh:(dD lc lp pb st r).set k v=dD lc lp pb st' r'):MS io (w.setCell ⟨C,k,none⟩ v) C L lc lp pb st' r' x X:=
 ⟨h.mod.setHead hk hh,io.keep h.io (by simp) (fun i hi=>ah _ _ _ _ (fun e=>h.vU (by simp at e;rw[←e];exact hi))),h.vU,h.yR⟩
end
theorem Ic(io:Io){C L lc lp pb st:Nat}{r:R4}{x:io.S}{X:List Nat}{w:World}(hM:MS io w C L lc lp pb st r x X)(hok:io.ok x.2 1){i b off n cp j:Nat}(hi:Md.used (2^(lc+lp)) i)(ha:Md.rG C L i=⟨b,off+j,none⟩)(hj:j<n)(hn:n≤cp)(hcp:cp≤9223372036854775807)(one:Bool):
  Calls Tryz.prog 203 #[io.v,.slice (some ⟨b,off,none⟩) n cp,.int .i64 (j:Nat),.bool one] w (lN (.int .i64 (dK (io.au i one x).1)) io C L lc lp pb st r (io.au i one x).2 X w):=by
 obtain⟨c,hc,he⟩:=hM.mod.chance i hi
 have hfair:=hM.mod.fair i
 have hf:=hM.mod.aaV i
 rw[ha]at hc hf
 have hb:b=C∨b=L:=by
  have:=Md.BM C L i
  have e:Md.jm C L i=b:=congrArg Addr.block ha
  rw[e]at this;exact this
 have hbX:b ∉ X:=by
  rcases hb with rfl | rfl
  ·exact hM.vU
  ·exact hM.yR
 have hcode:=io.code w x.2 X b off n cp j c one hM.io hok hbX hj hn hcp hc hf (Md.RU he hfair.2)
 rw[he]at hcode
 refine hcode.mono ?_
 rintro e w' ⟨rfl,w1,X',hon,hat,hX',rfl⟩
 have hC:w1.heap[C]? =w.heap[C]? :=hon.block C hM.mod.EW hM.vU
 have hL:w1.heap[L]? =w.heap[L]? :=hon.block L hM.mod.BN hM.yR
 have hm1:=hM.mod.keep hC hL
 obtain⟨n1,n2⟩:=Rc.nZ hfair.1 hfair.2 (io.bit x.2 (x.1 i) one).1
 have hm2:=hm1.RV hi n1 n2
 rw[ha]at hm2
 have vU:C ∉ X':=fun h=>by
  rcases hX' C h with h | h
  ·exact hM.vU h
  ·have:=hM.mod.EW;omega
 have yR:L ∉ X':=fun h=>by
  rcases hX' L h with h | h
  ·exact hM.yR h
  ·have:=hM.mod.BN;omega
 have ak6:b ∉ X':=by
  rcases hb with rfl | rfl
  ·exact vU
  ·exact yR
 refine⟨rfl,X',⟨hm2,io.keep hat (by simp) (fun i hi=>ah _ _ _ _ (fun e=>ak6 (by simp at e;rw[←e];exact hi))),vU,yR⟩,?_,hX'⟩
 have iQ:Only (C::L::X) w w1:=⟨hon.os,hon.tape,hon.output,hon.size,fun k hk hX=>hon.block k hk (fun h=>hX (by simp[h]))⟩
 exact iQ.setCell (p:=⟨b,off+j,none⟩) (.inl (by rcases hb with rfl | rfl<;>simp)) _
end
end Go.Proofs.YtgfpocdiojifoaaGreatDoor
