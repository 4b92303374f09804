import Derived.Test.YtfcaoggfnkhfiaaGreatDoorZ14
import Derived.Test.YtfcaoggfnkhfiaaGreatDoorZ13
import Derived.Laws.BitsAllLaws
namespace Go.Proofs.YtfcaoggfnkhfiaaGreatDoor
set_option maxRecDepth 100000
set_option maxHeartbeats 8000000
open Go.RowKit Go.Proofs.Tryz
variable{k l:Int}{X:List Nat}{ss:List Sy}{L:List UInt8}{C g lc lp pb st:Nat}{y:PD}{r:R4}{w:World}
theorem Cr(st:Nat)(l:Int):((bW st:Nat):Int)=en (st:Nat) 0 l:=by
 unfold bW en;rw[if_pos (show(0:Int)=0 from rfl)];by_cases h1:st<4;·rw[if_pos h1,if_pos (show((st:Nat):Int)<4 by omega)];rfl
 ·rw[if_neg h1,if_neg (show ¬((st:Nat):Int)<4 by omega)];by_cases h2:st<10;·rw[if_pos h2,if_pos (show((st:Nat):Int)<10 by omega)];omega
  ·rw[if_neg h2,if_neg (show ¬((st:Nat):Int)<10 by omega)];omega
theorem vK(st:Nat)(l:Int):(((if st<7 then 7 else 10:Nat)):Int)=en (st:Nat) 1 l:=by
 unfold en;rw[if_neg (show ¬(1:Int)=0 by decide),if_pos (show(1:Int)=1 from rfl)];by_cases h1:st<7;·rw[if_pos h1,if_neg (show ¬(7:Int)≤((st:Nat):Int) by omega)];rfl
 ·rw[if_neg h1,if_pos (show(7:Int)≤((st:Nat):Int) by omega)];rfl
theorem yS(st l:Nat):(((if st<7 then(if l=1 then 9 else 8)else 11:Nat)):Int)=en (st:Nat) 2 (l:Nat):=by
 unfold en;rw[if_neg (show ¬(2:Int)=0 by decide),if_neg (show ¬(2:Int)=1 by decide)];by_cases h1:st<7
 ·rw[if_pos h1,if_neg (show ¬(7:Int)≤((st:Nat):Int) by omega)];by_cases h:l=1;·rw[if_pos h,if_pos (show((l:Nat):Int)=1 by omega)];rfl
  ·rw[if_neg h,if_neg (show ¬((l:Nat):Int)=1 by omega)];rfl
 ·rw[if_neg h1,if_pos (show(7:Int)≤((st:Nat):Int) by omega)];rfl
theorem Cs(r:R4)(q:Nat)(hq:q≤3)(d:Int):aY r q (r4 r.1 r.2.1 r.2.2.1 r.2.2.2 q)=ik r 2 d (q:Nat):=by obtain⟨a,b,c,e⟩:=r;have h:q=0∨q=1∨q=2∨q=3:=aa;rcases h with rfl | rfl | rfl | rfl<;>rfl

structure JO where
 H:List UInt8
 st:Nat
 r:R4
 x:PS
structure Bp(g lc lp pb:Nat)(a:JO)(s:Sy)(b:JO):Prop where
 sym: ∃(k:Int) (c:UInt8) (l d q:Int),Md.sym (aj g) lc lp pb a.st a.r a.H k c l d q a.x=(s,b.st,b.r,b.x)
 k:s.k≤2
 q:s.r≤3
 short:s.l≤273
 pos:s.k≠0→1≤s.l
 af3: ∃bk:Nat,iF a.r (s.k:Nat) (s.d:Nat) (s.r:Nat)=(bk:Int)∧(((s.k:Nat):Int)≠0→1≤bk∧bk≤a.H.length)∧b.H=jV a.H (s.k:Nat) s.b s.l bk
 st:((b.st:Nat):Int)=en (a.st:Nat) (s.k:Nat) (s.l:Nat)
 r:b.r=ik a.r (s.k:Nat) (s.d:Nat) (s.r:Nat)
 ok:b.x.2.ok
theorem JP(H:List UInt8)(b:UInt8)(l l' back af4:Nat):jV H 0 b l back=jV H 0 b l' af4:=by unfold jV;rw[if_pos rfl,if_pos rfl]
theorem Gi(hk:k≠0)(H:List UInt8)(b b':UInt8)(l back:Nat):jV H k b l back=jV H k b' l back:=by unfold jV;rw[if_neg hk,if_neg hk]
theorem Ct{a:JO}{b:UInt8}{d q:Int}(hr:dI a.r)(hf:iW a.r (a.H.length:Int) k l d q=true):
  ∃s st' r' z,Md.sym (aj g) lc lp pb a.st a.r a.H k b l d q a.x=(s,st',r',z)∧r'=ik a.r k d q∧((st':Nat):Int)=en (a.st:Nat) k l∧s.val=RU k b l d q∧ ∀bk:Nat,iF a.r k d q=(bk:Int)→z.2.ok→Bp g lc lp pb a s ⟨jV a.H k b l.toNat bk,st',r',z⟩:=by
 have mf: ∀q:Nat,q≤3→1≤LJ a.r (q:Nat):=by
  intro q hq;obtain⟨⟨a1,a2,a3,a4⟩,_⟩:=hr;unfold LJ;rcases(by omega:q=0∨q=1∨q=2∨q=3)with rfl | rfl | rfl | rfl;·exact a1
  ·exact a2
  ·exact a3
  ·exact a4
 rcases o0 hf with rfl | ⟨rfl,h2,h3,h4,h5,h6⟩ | ⟨rfl,h0,h1,h4,h5⟩
 ·obtain⟨z,hz,_⟩:=Gh g lc lp pb a.st a.r a.H b l d q a.x;refine⟨_,_,_,_,hz,rfl,Cr a.st l,rfl,fun bk lV bL=> ?_⟩;exact⟨⟨0,b,l,d,q,hz⟩,show 0≤2 by decide,show 0≤3 by decide,show 0≤273 by decide,fun h=>absurd rfl h,⟨0,rfl,fun h=>absurd rfl h,JP a.H b l.toNat 0 bk 0⟩,Cr a.st _,rfl,bL⟩
 ·obtain⟨l,rfl⟩: ∃n:Nat,l=n:=⟨l.toNat,aa⟩
  obtain⟨d,rfl⟩: ∃n:Nat,d=n:=⟨d.toNat,aa⟩
  obtain⟨z,hz,_⟩:=Bo g lc lp pb a.st a.r a.H b l d q aa aa aa aa a.x;refine⟨_,_,_,_,hz,rfl,vK a.st l,rfl,fun bk lV bL=> ?_⟩;have hd:iF a.r 1 (d:Nat) q=(d:Int):=by unfold iF;rw[if_pos rfl]
  rw[hd]at lV;refine⟨⟨1,b,l,d,q,hz⟩,show 1≤2 by decide,show 0≤3 by decide,by show l≤273;omega,fun _=>by show 1≤l;omega,⟨bk,?_,fun _=>by show 1≤bk∧bk≤a.H.length;omega,Gi (show(1:Int)≠0 by decide) a.H b 0 l bk⟩,vK a.st _,rfl,bL⟩;show iF a.r 1 (d:Nat) 0=(bk:Int);unfold iF;rw[if_pos rfl];exact lV
 ·obtain⟨l,rfl⟩: ∃n:Nat,l=n:=⟨l.toNat,aa⟩
  obtain⟨q,rfl⟩: ∃n:Nat,q=n:=⟨q.toNat,aa⟩
  obtain⟨z,hz,_⟩:=D6 g lc lp pb a.st a.r a.H b l q d aa aa aa aa a.x;refine⟨_,_,_,_,hz,Cs a.r q aa d,yS a.st l,rfl,fun bk lV bL=> ?_⟩;have hd:iF a.r 2 d (q:Nat)=LJ a.r (q:Nat):=by unfold iF;rw[if_neg ak,if_pos rfl]
  rw[hd]at lV;have S_:=mf q aa;refine⟨⟨2,b,l,d,q,hz⟩,show 2≤2 by decide,by show q≤3;omega,by show l≤273;omega,fun _=>by show 1≤l;omega,⟨bk,?_,fun _=>by show 1≤bk∧bk≤a.H.length;omega,Gi (show(2:Int)≠0 by decide) a.H b 0 l bk⟩,yS a.st l,Cs a.r q aa _,bL⟩;show iF a.r 2 0 (q:Nat)=(bk:Int);unfold iF;rw[if_neg ak,if_pos rfl];exact lV
def jW(g lc lp pb:Nat)(ss:List Sy)(M:Nat→JO):Prop:= ∀t (h:t<ss.length),Bp g lc lp pb (M t) ss[t] (M (t+1))
theorem Bp.step{a b:JO}{s:Sy}(h:Bp g lc lp pb a s b)(hf:Fair a.x.1):Fair b.x.1∧Rc.bq a.x.2 b.x.2:=by obtain⟨k,c,l,d,q,hs⟩:=h.sym;obtain⟨h1,h2⟩:=JN (yN b.x.2) (am h.ok.2) (by rw[Rc.dc];exact Nat.le_refl _) g hf hs;exact⟨h1,h2 (Rc.bq.refl _)⟩
theorem jW.fair{M:Nat→JO}(h:jW g lc lp pb ss M)(h0:Fair (M 0).x.1): ∀t,t≤ss.length→Fair (M t).x.1
 | 0,_=>h0
 | t+1,ht=>((h t aa).step (h.fair h0 t aa)).1
theorem jW.inside{M:Nat→JO}(h:jW g lc lp pb ss M)(h0:Fair (M 0).x.1): ∀n t,t+n=ss.length→Rc.bq (M t).x.2 (M ss.length).x.2
 | 0,t,e=>by have:t=ss.length:=aa;subst this;exact Rc.bq.refl _
 | n+1,t,e=>((h t aa).step (h.fair h0 t aa)).2.trans (h.inside h0 n (t+1) aa)
theorem jW.back{M:Nat→JO}(h:jW g lc lp pb ss M)(h0:Fair (M 0).x.1)(bL:(M ss.length).x.2.ok)(hL:L=Rc.be (5+(M ss.length).x.2.k) (M ss.length).x.2.v)(gd o cap:Nat){t:Nat}(ht:t<ss.length)(hs:SJ (M ss.length).x.2 L (M t).x y):
  ∃z':PD,Md.sym (aq gd o cap L) lc lp pb (M t).st (M t).r (M t).H 0 0 0 0 0 y=(ss[t],(M (t+1)).st,(M (t+1)).r,z')∧SJ (M ss.length).x.2 L (M (t+1)).x z':=by
 subst hL;obtain⟨k,c,l,d,q,VA⟩:=(h t ht).sym;exact SL (yN _) (am bL.2) (by rw[Rc.dc];exact Nat.le_refl _) g gd o cap (h.fair h0 t aa) VA (h.inside h0 (ss.length-(t+1)) (t+1) aa) hs
theorem SR{S:Rc.St}{P:Nat→Nat}(hL:L=Rc.be (5+S.k) S.v)(h:SJ S L (P,S) y):y.2.done L=true:=by
 subst hL;have hl:(Rc.be (5+S.k) S.v).length=5+S.k:=Rc.dc _ _;have h1:=h.2.1 (by rw[hl];exact Nat.le_refl _);have ht:Rc.top S S.k=S.v:=by unfold Rc.top;simp
 rw[ht,Nat.sub_self]at h1;rw[h1];unfold Rd.St.done;rw[hl];simp


theorem MS.ahe{io:Io}{L:Nat}{x:io.S}(h:MS io w C L lc lp pb st r x X): ∀i∈C::L::X,i<w.heap.size:=by
 intro i hi;simp only[List.mem_cons]at hi;rcases hi with rfl | rfl | hi;·exact h.mod.Au
 ·exact h.mod.xS
 ·exact io.lt h.io i hi
theorem Bx{st':Nat}(bQ:st<12)(h:((st':Nat):Int)=en (st:Nat) k l):st'<12:=by
 unfold en at h;split at h
 ·split at h;·omega
  ·split at h<;>omega
 ·split at h;·split at h<;>omega
  ·split at h;·omega
   ·split at h<;>omega
theorem YQ(lc lp pb:Int)(w:World):Calls prog 78 #[.int .i64 lc,.int .i64 lp,.int .i64 pb] w fun e w'=>e= .returned (.bool (jT lc lp pb))∧w=w':=by
 have⟨R,hR⟩:=ex (jT lc lp pb);rw[hR];by_cases awE:0≤lc;case neg=>have E6:Hid (R=false):=ae (by rw[←hR];exact decide_eq_false aa);clear hR;go_enter func78,ntmps78;go_wp2_with fail;go_ret;exact⟨ja,rfl⟩
 by_cases awF:lc≤4;case neg=>have E6:Hid (R=false):=ae (by rw[←hR];exact decide_eq_false aa);clear hR;go_enter func78,ntmps78;go_wp2_with fail;go_ret;exact⟨ja,rfl⟩
 by_cases awG:0≤lp;case neg=>have E6:Hid (R=false):=ae (by rw[←hR];exact decide_eq_false aa);clear hR;go_enter func78,ntmps78;go_wp2_with fail;go_ret;exact⟨ja,rfl⟩
 by_cases awH:lp≤4;case neg=>have E6:Hid (R=false):=ae (by rw[←hR];exact decide_eq_false aa);clear hR;go_enter func78,ntmps78;go_wp2_with fail;go_ret;exact⟨ja,rfl⟩
 by_cases sI:lc+lp≤4;case neg=>have E6:Hid (R=false):=ae (by rw[←hR];exact decide_eq_false aa);clear hR;go_enter func78,ntmps78;go_wp2_with fail;go_ret;exact⟨ja,rfl⟩
 by_cases awI:0≤pb;case neg=>have E6:Hid (R=false):=ae (by rw[←hR];exact decide_eq_false aa);clear hR;go_enter func78,ntmps78;go_wp2_with fail;go_ret;exact⟨ja,rfl⟩
 by_cases awJ:pb≤4;case neg=>have E6:Hid (R=false):=ae (by rw[←hR];exact decide_eq_false aa);clear hR;go_enter func78,ntmps78;go_wp2_with fail;go_ret;exact⟨ja,rfl⟩
 have E6:Hid (R=true):=ae (by rw[←hR];exact decide_eq_true aa);clear hR;go_enter func78,ntmps78;go_wp2_with fail;go_ret;exact⟨ja,rfl⟩
theorem Ul:dI (1,1,1,1):=by unfold dI;decide
section
theorem tE{n cut p:Nat}(hp:p≤4)(hc:cut%16=0)(h:cut≤n):(n-cut)%2^p=n%2^p:=by
 obtain⟨m,rfl⟩: ∃m,cut=16*m:=⟨cut/16,aa⟩
 have hd:(16:Nat)=2^p*2^(4-p):=by rw[←Nat.pow_add,show p+(4-p)=4 by omega]
 have e:n=(n-16*m)+2^p*(2^(4-p)*m):=by rw[←Nat.mul_assoc,←hd];omega
 conv=>rhs;rw[e]
 rw[Nat.add_mul_mod_self_left]
theorem getD_drop{H:List UInt8}{cut i:Nat}:(H.drop cut).getD i 0=H.getD (cut+i) 0:=by simp only[List.getD_eq_getElem?_getD,List.getElem?_drop]
theorem O2{lc lp cut:Nat}{H:List UInt8}(ur:lp≤4)(hc:cut%16=0)(h:cut<H.length):uq lc lp (H.drop cut)=uq lc lp H:=by unfold uq;rw[List.length_drop,tE ur hc aa,if_pos aa,if_pos aa,getD_drop,show cut+(H.length-cut-1)=H.length-1 by omega]
theorem Kq{cut:Nat}{H:List UInt8}{a:Int}(ha:1≤a)(h:a≤((H.length-cut:Nat):Int))(hc:cut<H.length):Md.nS (H.drop cut) a=Md.nS H a:=by unfold Md.nS;rw[List.length_drop,if_pos h,if_pos aa,getD_drop,show cut+(H.length-cut-a.toNat)=H.length-a.toNat by omega]
theorem Ur(io:Io){lc lp pb st cut:Nat}{r:R4}{H:List UInt8}{k:Int}{b:UInt8}{l d q:Int}{x:io.S}(ur:lp≤4)(wn:pb≤4)(hr:1≤r.1)(h:cut=0∨(cut%16=0∧cut<H.length∧r.1≤((H.length-cut:Nat):Int))):
  Md.sym io lc lp pb st r (H.drop cut) k b l d q x=Md.sym io lc lp pb st r H k b l d q x:=by
 rcases h with rfl | ⟨h1,h2,h3⟩
 ·rfl
 ·unfold Md.sym Md.lit;rw[O2 ur h1 h2,Kq hr h3 h2,List.length_drop,tE wn h1 aa]
theorem zL{H:List UInt8}{cut bk:Nat}(h0:1≤bk)(h:cut+bk≤H.length): ∀l,(fA H bk l).drop cut=fA (H.drop cut) bk l
 | 0=>rfl
 | l+1=>by have ih:=zL (cut:=cut) h0 h l;have hl:=eX H bk l;unfold fA;rw[List.drop_append_of_le_length aa,ih,←ih,List.length_drop,getD_drop,show cut+((fA H bk l).length-cut-bk)=(fA H bk l).length-bk by omega]
def cu(gd o cap:Nat)(L:List UInt8)(lc lp pb:Nat)(dict:Int)(fin:Nat):Nat→List UInt8→Nat→R4→PD→Option (List UInt8×Nat×R4×PD)
 | 0,T,st,r,y=>if fin≤T.length then some (T,st,r,y)else none
 | f+1,T,st,r,y=>
  if fin≤T.length then some (T,st,r,y)
  else if(Md.sym (aq gd o cap L) lc lp pb st r T 0 0 0 0 0 y).2.2.2.2.out=true then none
  else if(Md.sym (aq gd o cap L) lc lp pb st r T 0 0 0 0 0 y).1.k=0 then cu gd o cap L lc lp pb dict fin f (T++[(Md.sym (aq gd o cap L) lc lp pb st r T 0 0 0 0 0 y).1.b]) (Md.sym (aq gd o cap L) lc lp pb st r T 0 0 0 0 0 y).2.1 (Md.sym (aq gd o cap L) lc lp pb st r T 0 0 0 0 0 y).2.2.1 (Md.sym (aq gd o cap L) lc lp pb st r T 0 0 0 0 0 y).2.2.2
  else if min (T.length:Int) dict<(Md.sym (aq gd o cap L) lc lp pb st r T 0 0 0 0 0 y).2.2.1.1∨fin-T.length<(Md.sym (aq gd o cap L) lc lp pb st r T 0 0 0 0 0 y).1.l then none
  else cu gd o cap L lc lp pb dict fin f (fA T (Md.sym (aq gd o cap L) lc lp pb st r T 0 0 0 0 0 y).2.2.1.1.toNat (Md.sym (aq gd o cap L) lc lp pb st r T 0 0 0 0 0 y).1.l) (Md.sym (aq gd o cap L) lc lp pb st r T 0 0 0 0 0 y).2.1 (Md.sym (aq gd o cap L) lc lp pb st r T 0 0 0 0 0 y).2.2.1 (Md.sym (aq gd o cap L) lc lp pb st r T 0 0 0 0 0 y).2.2.2
section
variable{gd o cap:Nat}{L:List UInt8}{lc lp pb:Nat}{dict:Int}{fin:Nat}
theorem kE{f:Nat}{T:List UInt8}{st:Nat}{r:R4}{y:PD}(h:fin≤T.length):cu gd o cap L lc lp pb dict fin f T st r y=some (T,st,r,y):=by cases f<;>(unfold cu;rw[if_pos h])
theorem mN{f:Nat}{T:List UInt8}{st:Nat}{r:R4}{y y':PD}{s:Sy}{st':Nat}{r':R4}(h:T.length<fin)(hs:Md.sym (aq gd o cap L) lc lp pb st r T 0 0 0 0 0 y=(s,st',r',y'))(ho:y'.2.out=true):cu gd o cap L lc lp pb dict fin f T st r y=none:=by
 cases f with
 | zero=>unfold cu;rw[if_neg aa]
 | succ f=>unfold cu;rw[if_neg aa,hs,if_pos ho]
theorem kF{f:Nat}{T:List UInt8}{st:Nat}{r:R4}{y y':PD}{s:Sy}{st':Nat}{r':R4}(h:T.length<fin)(hs:Md.sym (aq gd o cap L) lc lp pb st r T 0 0 0 0 0 y=(s,st',r',y'))(ho:y'.2.out=false)(hk:s.k=0):cu gd o cap L lc lp pb dict fin (f+1) T st r y=cu gd o cap L lc lp pb dict fin f (T++[s.b]) st' r' y':=by
 conv=>lhs;unfold cu
 rw[if_neg aa,hs,if_neg (by rw[ho];decide),if_pos hk]
theorem mO{f:Nat}{T:List UInt8}{st:Nat}{r:R4}{y y':PD}{s:Sy}{st':Nat}{r':R4}(h:T.length<fin)(hs:Md.sym (aq gd o cap L) lc lp pb st r T 0 0 0 0 0 y=(s,st',r',y'))(hk:s.k≠0)(hb:min (T.length:Int) dict<r'.1∨fin-T.length<s.l):cu gd o cap L lc lp pb dict fin f T st r y=none:=by
 cases f with
 | zero=>unfold cu;rw[if_neg aa]
 | succ f=>
  unfold cu;rw[if_neg aa,hs];by_cases ho:y'.2.out=true;·rw[if_pos ho]
  ·rw[if_neg ho,if_neg hk,if_pos hb]
theorem kG{f:Nat}{T:List UInt8}{st:Nat}{r:R4}{y y':PD}{s:Sy}{st':Nat}{r':R4}(h:T.length<fin)(hs:Md.sym (aq gd o cap L) lc lp pb st r T 0 0 0 0 0 y=(s,st',r',y'))(ho:y'.2.out=false)(hk:s.k≠0)(hb: ¬(min (T.length:Int) dict<r'.1∨fin-T.length<s.l)):cu gd o cap L lc lp pb dict fin (f+1) T st r y=cu gd o cap L lc lp pb dict fin f (fA T r'.1.toNat s.l) st' r' y':=by
 conv=>lhs;unfold cu
 rw[if_neg aa,hs,if_neg (by rw[ho];decide),if_neg hk,if_neg hb]
end
end
section
def zM(r:R4):Prop:=1≤r.1∧1≤r.2.1∧1≤r.2.2.1∧1≤r.2.2.2
theorem zM.at{r:R4}(h:zM r)(n:Nat):1≤r4 r.1 r.2.1 r.2.2.1 r.2.2.2 n:=by
 obtain⟨a,b,c,d⟩:=h;match n with
 | 0=>exact a
 | 1=>exact b
 | 2=>exact c
 | n+3=>exact d
theorem zM.front{r:R4}(h:zM r){n:Nat}{d:Int}(h1:1≤d):zM (aY r n d):=by
 obtain⟨a,b,c,e⟩:=h;match n with
 | 0=>exact⟨h1,b,c,e⟩
 | 1=>exact⟨h1,a,c,e⟩
 | 2=>exact⟨h1,a,b,e⟩
 | n+3=>exact⟨h1,a,b,c⟩
theorem Us(io:Io)(l:Nat)(dd:Int)(x:io.S):1≤(Md.bM io l dd x).1:=by
 unfold Md.bM;simp only;split;·exact Nat.le_add_left _ _
 ·split;·exact Nat.le_add_left _ _
  ·exact Nat.le_add_left _ _
theorem Ut{io:Io}{lc lp pb st:Nat}{r:R4}{H:List UInt8}{k l d q:Int}{b:UInt8}{x:io.S}(h:zM r):zM (Md.sym io lc lp pb st r H k b l d q x).2.2.1:=by
 unfold Md.sym;simp only;split;·exact h
 ·split;·exact h.front (by have:=Us io (Md.len io 432 (H.length%2^pb) l (io.au (192+st) (k !=1) (io.au (16*st+H.length%2^pb) (k !=0) x).2).2).1 d (Md.len io 432 (H.length%2^pb) l (io.au (192+st) (k !=1) (io.au (16*st+H.length%2^pb) (k !=0) x).2).2).2;omega)
  ·exact h.front (h.at _)
theorem Ex(io:Io)(A p:Nat)(l:Int)(x:io.S):1≤(Md.len io A p l x).1:=by
 unfold Md.len;simp only;split;·omega
 ·split;·omega
  ·omega
theorem Uu(io:Io)(st p:Nat)(l q:Int)(x:io.S):1≤(Md.kP io st p l q x).1.2:=by
 unfold Md.kP;simp only;split
 ·split;·exact Nat.le_refl 1
  ·exact Ex _ _ _ _ _
 ·exact Ex _ _ _ _ _
theorem Uv{io:Io}{lc lp pb st:Nat}{r:R4}{H:List UInt8}{k l d q:Int}{b:UInt8}{x:io.S}(h:(Md.sym io lc lp pb st r H k b l d q x).1.k≠0):1≤(Md.sym io lc lp pb st r H k b l d q x).1.l:=by
 revert h;unfold Md.sym;simp only;split;·intro h;exact absurd rfl h
 ·split;·intro _;exact Ex _ _ _ _ _
  ·intro _;exact Uu _ _ _ _ _ _
theorem Kr{gd o cap:Nat}{L:List UInt8}{lc lp pb cut:Nat}{dict:Int}{fin:Nat}(ur:lp≤4)(wn:pb≤4): ∀(f:Nat) (H:List UInt8) (st:Nat) (r:R4) (y:PD),zM r→(cut=0∨(cut%16=0∧cut<H.length∧r.1≤((H.length-cut:Nat):Int)∧dict≤((H.length-cut:Nat):Int)))→
  cu gd o cap L lc lp pb dict fin f (H.drop cut) st r y=(cu gd o cap L lc lp pb dict (fin+cut) f H st r y).map fun q=>(q.1.drop cut,q.2):=by
 intro f;induction f with
 | zero=>
  intro H st r y hr hc;have hl:(H.drop cut).length=H.length-cut:=List.length_drop;have eS:cut≤H.length:=aa;unfold cu;by_cases h:fin≤H.length-cut;·rw[if_pos (by rw[hl];exact h),if_pos aa];rfl
  ·rw[if_neg (by rw[hl];exact h),if_neg aa];rfl
 | succ f ih=>
  intro H st r y hr hc;have hl:(H.drop cut).length=H.length-cut:=List.length_drop;have eS:cut≤H.length:=aa;have hs:=Ur (aq gd o cap L) (lc:=lc) (lp:=lp) (pb:=pb) (st:=st) (cut:=cut) (r:=r) (H:=H) (k:=0) (b:=0) (l:=0) (d:=0) (q:=0) (x:=y) ur wn hr.1 aa;obtain⟨⟨s,st',r',y'⟩,ht⟩: ∃t,Md.sym (aq gd o cap L) lc lp pb st r H 0 0 0 0 0 y=t:=⟨_,rfl⟩
  have FE:zM r':=by have:=Ut (io:=aq gd o cap L) (lc:=lc) (lp:=lp) (pb:=pb) (st:=st) (H:=H) (k:=0) (l:=0) (d:=0) (q:=0) (b:=0) (x:=y) hr;rw[ht]at this;exact this
  rw[ht]at hs;by_cases h:fin≤H.length-cut;·rw[kE (by rw[hl];exact h),kE aa];rfl
  ·have h1:(H.drop cut).length<fin:=(by rw[hl];omega);have h2:H.length<fin+cut:=aa;by_cases ho:y'.2.out=true;·rw[mN h1 hs ho,mN h2 ht ho];rfl
   ·have mU:y'.2.out=false:=(by simpa using ho);by_cases hk:s.k=0
    ·rw[kF h1 hs mU hk,kF h2 ht mU hk];have e:H.drop cut++[s.b]=(H++[s.b]).drop cut:=(by rw[List.drop_append_of_le_length eS]);rw[e];refine ih (H++[s.b]) st' r' y' FE ?_;rcases hc with hc | ⟨c1,c2,c3,c4⟩
     ·exact .inl hc
     ·have e2:r'=r:=by
       have hz:(Md.sym (aq gd o cap L) lc lp pb st r H 0 0 0 0 0 y).1.k=0→(Md.sym (aq gd o cap L) lc lp pb st r H 0 0 0 0 0 y).2.2.1=r:=by
        unfold Md.sym;simp only;split;·intro _;rfl
        ·split;·intro h;simp at h
         ·intro h;simp at h
       rw[ht]at hz;exact hz hk
      rw[e2];refine .inr ⟨c1,?_,?_,?_⟩<;>rw[List.length_append,List.length_singleton]<;>omega
    ·by_cases hb:min ((H.drop cut).length:Int) dict<r'.1∨fin-(H.drop cut).length<s.l;·have aD:min (H.length:Int) dict<r'.1∨fin+cut-H.length<s.l:=(by rw[hl]at hb;omega);rw[mO h1 hs hk hb,mO h2 ht hk aD];rfl
     ·have aD: ¬(min (H.length:Int) dict<r'.1∨fin+cut-H.length<s.l):=(by rw[hl]at hb;omega);rw[kG h1 hs mU hk hb,kG h2 ht mU hk aD];have h1r:=FE.1;rw[hl]at hb;rw[←zL aa aa];have tT:=eX H r'.1.toNat s.l;refine ih (fA H r'.1.toNat s.l) st' r' y' FE ?_;rcases hc with hc | ⟨c1,c2,c3,c4⟩
      ·exact .inl hc
      ·refine .inr ⟨c1,?_,?_,?_⟩<;>rw[tT]<;>omega
section
variable{g lc lp pb:Nat}{ss:List Sy}{M:Nat→JO}{L:List UInt8}{gd o cap:Nat}{dict:Int}{fin:Nat}
theorem Bp.front{a b:JO}{s:Sy}(h:Bp g lc lp pb a s b)(hk:s.k≠0):b.r.1=iF a.r (s.k:Nat) (s.d:Nat) (s.r:Nat):=by
 rw[h.r];have h2:=h.k;have h3:=h.q;rcases(by omega:s.k=1∨s.k=2)with e | e;·rw[e];simp[ik,iF]
 ·rw[e];rcases(by omega:s.r=0∨s.r=1∨s.r=2∨s.r=3)with e | e | e | e<;>rw[e]<;>simp[ik,iF,LJ,r4]
theorem Bp.Sx{a b:JO}{s:Sy}(h:Bp g lc lp pb a s b):b.H.length=a.H.length+(if s.k=0 then 1 else s.l):=by
 obtain⟨bk,_,_,hH⟩:=h.af3;rw[hH];unfold jV;by_cases hk:s.k=0;·rw[if_pos aa,if_pos hk];simp
 ·rw[if_neg aa,if_neg hk,eX]
theorem jW.longer(h:jW g lc lp pb ss M): ∀d t,t+d≤ss.length→(M t).H.length+d≤(M (t+d)).H.length
 | 0,_,_=>Nat.le_refl _
 | d+1,t,ht=>by
  have h1:=h.longer d t aa;have hl:=h (t+d) aa;have h2:=hl.Sx;have h3:=hl.pos;show(M t).H.length+(d+1)≤(M (t+d+1)).H.length;split at h2;·omega
  ·rename_i hk;have:=h3 hk;omega
theorem jW.reads(h:jW g lc lp pb ss M)(h0:Fair (M 0).x.1)(bL:(M ss.length).x.2.ok)(hL:L=Rc.be (5+(M ss.length).x.2.k) (M ss.length).x.2.v){y:PD}(hs:SJ (M ss.length).x.2 L (M 0).x y):
  ∀t,(ht:t≤ss.length)→(∀i (hi:i<t),(M (i+1)).H.length≤fin∧(ss[i].k≠0→iF (M i).r (ss[i].k:Nat) (ss[i].d:Nat) (ss[i].r:Nat)≤dict))→
   ∃y',SJ (M ss.length).x.2 L (M t).x y'∧ ∀f,cu gd o cap L lc lp pb dict fin (f+t) (M 0).H (M 0).st (M 0).r y=cu gd o cap L lc lp pb dict fin f (M t).H (M t).st (M t).r y':=by
 intro t;induction t with
 | zero=>intro _ _;exact⟨y,hs,fun f=>rfl⟩
 | succ t ih=>
  intro ht hc;obtain⟨y1,js,ud⟩:=ih aa (fun i hi=>hc i aa);obtain⟨z,hz,dl⟩:=h.back h0 bL hL gd o cap (show t<ss.length by omega) js;obtain⟨c1,c2⟩:=hc t aa;have hl:=h t aa;obtain⟨bk,lV,ahk,hH⟩:=hl.af3;have QP:=(h.inside h0 (ss.length-(t+1)) (t+1) aa).1;have my:z.2.out=false:=by have:=dl.2.1 (by rw[hL,Rc.dc];omega);rw[this]
  have hg:=hl.Sx;have hp:=hl.pos;refine⟨z,dl,fun f=> ?_⟩;rw[show f+(t+1)=(f+1)+t by omega,ud (f+1)];by_cases hk:ss[t].k=0;·rw[if_pos hk]at hg;rw[kF aa hz my hk];have e:(M t).H++[ss[t].b]=(M (t+1)).H:=(by rw[hH];unfold jV;rw[if_pos aa]);rw[e]
  ·rw[if_neg hk]at hg;have lW:=hl.front hk;have O_:((ss[t].k:Nat):Int)≠0:=aa;have az:=ahk O_;have hdd:=c2 hk;have Fn:=hp hk;rw[kG aa hz my hk (by rw[lW,lV];rw[lV]at hdd;omega)];have e:fA (M t).H (M (t+1)).r.1.toNat ss[t].l=(M (t+1)).H:=(by rw[hH,lW,lV];unfold jV;rw[if_neg O_,Int.toNat_natCast]);rw[e]
end
end
theorem Ux(x:Nat)(hx:x<2^64):x &&& (18446744073709551615-15)=x/16*16:=by
 have e1:(18446744073709551615-15:Nat)=(2^60-1)*2^4:=ak;rw[e1];apply Nat.eq_of_testBit_eq;intro i;have e2:x/16*16=x/2^4*2^4:=rfl;rw[e2,Nat.testBit_and,Nat.testBit_mul_two_pow,Nat.testBit_mul_two_pow,Nat.testBit_two_pow_sub_one,Nat.testBit_div_two_pow];by_cases h4:4≤i
 ·have e3:i-4+4=i:=by omega
  rw[e3];by_cases w_:i-4<60;·simp[h4,w_]
  ·have hb:x.testBit i=false:=Nat.testBit_lt_two_pow (Nat.lt_of_lt_of_le hx (Nat.pow_le_pow_right ak aa));simp[hb]
 ·simp[h4]
theorem Uy(n:Nat)(hn:n<9223372036854775808):bits .andNot .i64 (n:Int) 15=((n/16*16:Nat):Int):=by
 show IntKind.i64.wrap ((BitVec.ofInt 64 (n:Int) &&& ~~~BitVec.ofInt 64 15).toNat:Int)=_;have h1:(BitVec.ofInt 64 (n:Int)).toNat=n:=by rw[BitVec.toNat_ofInt];omega
 have h2:(BitVec.ofInt 64 (15:Int)).toNat=15:=ak;rw[BitVec.toNat_and,BitVec.toNat_not,h1,h2];have e:2^64-1-15=18446744073709551615-15:=ak;rw[e,Ux n aa];have hle:n/16*16≤n:=Nat.div_mul_le_self n 16;generalize n/16*16=q at*;unfold IntKind.wrap;simp[IntKind.bits,IntKind.signed];omega
def fR(n:Nat)(back:Int):Nat:=(max ((n:Int)-back) 0).toNat/16*16
theorem zN(n:Nat){back:Int}(h:0≤back):fR n back≤n:=by unfold fR;have:=Nat.div_mul_le_self (max ((n:Int)-back) 0).toNat 16;omega
theorem GS(A:Option Addr)(H:List UInt8)(c:Nat)(back:Int)(w:World)(hc:H.length≤c)(hH:H.length≤1000000000)(h1:1≤back)(h2:back≤9223372036854775807):
  Calls prog 271 #[.slice A H.length c,.int .i64 back] w fun e w'=>e= .returned (.slice (if c=fR H.length back then A else A.map (·.add (fR H.length back))) (H.length-fR H.length back) (c-fR H.length back))∧w=w':=by
 have⟨n,hn⟩:=ex (H.length);rw[hn]at hc hH ⊢;have⟨m,hm⟩:=ex ((max ((n:Int)-back) 0).toNat:Nat);have EN:max ((n:Int)-back) 0=(m:Int):=aa;have hmn:m≤n:=aa;have hcut:fR n back=m/16*16:=by unfold fR;rw[hm]
 have hb:=Uy m aa;have hle:m/16*16≤m:=Nat.div_mul_le_self m 16;rw[hcut];generalize m/16*16=q at*;have pX:(n:Int)≤1000000000:=aa;have hqn:(q:Int)≤(n:Int):=aa;have pW:(n:Int)≤(c:Int):=aa;have hsb:wrap64 ((n:Int)-back)=(n:Int)-back:=oy;have⟨AT,hAT⟩:=ex ((if c=q then A else A.map (·.add q)));rw[hAT];have L9:=ae hAT;clear hn hm hcut hAT;go_enter func271,ntmps271;go_wp2_with fail;·go_ret;refine⟨?_,rfl⟩;rw[←L9.out,if_pos (by first | assumption | omega)];rfl
 ·go_ret;refine⟨?_,rfl⟩;rw[←L9.out,if_neg rk];rfl
section
section
variable{g lc lp pb:Nat}{ss:List Sy}{M:Nat→JO}{L:List UInt8}{gd o cap:Nat}{H0:List UInt8}{dict:Int}
theorem jW.mono(h:jW g lc lp pb ss M){i j:Nat}(hij:i≤j)(hj:j≤ss.length):(M i).H.length+(j-i)≤(M j).H.length:=by have:=h.longer (j-i) i aa;rw[show i+(j-i)=j by omega]at this;exact this
end
end
section
theorem MS.Ez{io:Io}{w w':World}{C L lc lp pb st:Nat}{r:R4}{x:io.S}{X:List Nat}(h:MS io w C L lc lp pb st r x X)(hs:w.heap.size≤w'.heap.size)(hk: ∀i∈C::L::X,w'.heap[i]? =w.heap[i]?):MS io w' C L lc lp pb st r x X:=
 ⟨h.mod.aA (hk C ag) (hk L ag),io.aA h.io hs (fun i hi=>hk i (by simp[hi])),h.rt,h.ul⟩
section
variable{w0 w w':World}{io:Io}{C L lc lp pb st:Nat}{r:R4}{x:io.S}{X:List Nat}{C2 base st2:Nat}{r2:R4}{hv:Value}{H:List UInt8}{pv:Value}{ss:List Sy}{R:World→Prop}{Wr:Nat→Prop}{p:Nat→List Nat}
end
end


theorem aw.fresh{a b c:World}(h:aw X a b)(k:Below a.heap.size b c):aw X a c:=
 ⟨k.os.trans h.os,k.tape.trans h.tape,k.output.trans h.output,Nat.le_trans h.size k.size,fun i hi hx=>(k.block i hi).trans (h.block i hi hx)⟩
theorem Own.GV{base:Nat}{w':World}{v:Value}{l:List UInt8}(h:Own base w v l)(hb: ∀g,v.ownBlock=some g→w'.heap[g]? =w.heap[g]?):Own base w' v l:=by
 rcases h with⟨h1,h2 | ⟨g,cap,cur,h2,h3,h4,h5⟩⟩
 ·exact⟨h1,.inl h2⟩
 ·exact⟨h1,.inr ⟨g,cap,cur,h2,h3,(hb g ow).trans h4,h5⟩⟩
def EA(gd o cap:Nat)(L:List UInt8)(C Lb lc lp pb:Nat)(X:List Nat)(n0:Nat)(res:Option (List UInt8×Nat×R4×PD))(w:World)(e:Ending)(w':World):Prop:=
 match res with
 | none=>e= .returned (.tuple #[.slice none 0 0,.int .i64 6])∧aw (C::Lb::X) w w'
 | some (T,st,r,y)=> ∃A c,e= .returned (.tuple #[.slice A (T.length-n0) c,.int .i64 0])∧T.length-n0≤c∧c≤9223372036854775807∧Bytes w' A (T.drop n0)∧gy (aq gd o cap L) C Lb lc lp pb st r y X w w'
theorem ack(g C:Nat)(A:Option Addr)(n c:Nat)(many dict:Int)(h:many<0∨dict<1)(w:World):Calls prog 264 #[PF g,PF C,.slice A n c,.int .i64 many,.int .i64 dict] w fun e w'=>e= .returned (.tuple #[.slice none 0 0,.int .i64 1])∧w=w':=by
 by_cases h1:many<0;·have VM:decide (many<0)=true:=decide_eq_true h1;go_enter func264,ntmps264;go_wp2_with fail;go_ret2;exact⟨rfl,rfl⟩
 ·have VM:decide (many<0)=false:=decide_eq_false h1;have h2:dict<1:=aa;have h2b:decide (dict<1)=true:=decide_eq_true h2;go_enter func264,ntmps264;go_wp2_with fail;go_ret2;exact⟨rfl,rfl⟩
def rX(res:Option (List UInt8×Nat×R4×PD)):Prop:= ∀q,res=some q→q.2.1<12∧dI q.2.2.1
theorem rX.none:rX none:=fun _ h=>iR
theorem rX.some{T:List UInt8}(h:st<12∧dI r):rX (some (T,st,r,y)):=fun _ e=>by injection e with e;rw[←e];exact h
theorem Kw{gd o cap:Nat}{Lb:Nat}(hM:MS (aq gd o cap L) w C Lb lc lp pb st r y X)(si:lc≤4)(ur:lp≤4)(wn:pb≤4)(bQ:st<12)(hr:dI r)(bL:(aq gd o cap L).ok y.2 0)
  (A:Option Addr) (H:List UInt8) (c:Nat) (hB:Bytes w A H) (hc:H.length≤c) (hH:H.length≤500000000) (many:Nat) (ahs:many≤500000000) (dict:Int) (iz:1≤dict) (jz:dict≤9223372036854775807):
  Calls prog 264 #[PF gd,PF C,.slice A H.length c,.int .i64 (many:Nat),.int .i64 dict] w (fun e w'=>EA gd o cap L C Lb lc lp pb X (H.length-fR H.length (max dict r.1)) (cu gd o cap L lc lp pb dict (H.length-fR H.length (max dict r.1)+many) many (H.drop (fR H.length (max dict r.1))) st r y) w e w'∧rX (cu gd o cap L lc lp pb dict (H.length-fR H.length (max dict r.1)+many) many (H.drop (fR H.length (max dict r.1))) st r y)):=by
 have mf:1≤r.1∧r.1≤4294967296:=⟨hr.1.1,hr.2.1⟩
 have⟨back,vt⟩:=ex (max dict r.1);have az:1≤back:=aa;have aD:back≤9223372036854775807:=aa;have eS:=zN H.length (show 0≤back by omega);have og:=ae (fun W=>GS A H c back W hc aa az aD);rw[vt];have⟨cut,hcut⟩:=ex (fR H.length back);rw[hcut]at og eS ⊢;have YV:=hB.cutFrom eS hc;have mh:(H.drop cut).length=H.length-cut:=List.length_drop;have⟨T0,rr⟩:=ex (H.drop cut);rw[rr]at YV mh ⊢;have⟨n0,Bc⟩:=ex (H.length-cut);rw[Bc]at og mh ⊢;have⟨AT,hAT⟩:=ex ((if c=cut then A else A.map (·.add cut)));rw[hAT]at og YV;have⟨cT,hcT⟩:=ex (c-cut);rw[hcT]at og;have⟨vM,pn⟩:=ex (cu gd o cap L lc lp pb dict (n0+many) many T0 st r y);rw[pn];have nl:=ae pn;obtain rfl:X=[gd,o]:=hM.io.1;have HM:=ae hM;have ZD:=ae YV;have Q2:=ae mh;have O6:=ae (And.intro si (And.intro ur wn));have gl:=ae (And.intro bQ (And.intro hr bL));have pX:(n0:Int)≤500000000:=aa;have hnn:n0≤500000000:=aa;have EN:(many:Int)≤500000000:=aa;have aH:=hM.ahe;have AG:=ae aH;have wS:=ae vt;have awR:decide (dict<1)=false:=decide_eq_false aa;have F':decide ((many:Int)<0)=false:=decide_eq_false aa;clear hM hB YV hc hH eS hcut rr Bc hAT hcT pn si ur wn bQ hr bL aH mh vt;go_enter func264,ntmps264;go_wp2_with fail;refine(oZ HM.out.mod).mono ?_;rintro e w1 ⟨rfl,aht⟩;have ix:=QB r.1 r.2.1 r.2.2.1 r.2.2.2 w1;have a7:=ae aht;clear aht;go_wp2_with fail;rw[wS.out];refine(og.out w1).mono ?_;rintro e w1' ⟨rfl,rfl⟩;clear ix;go_upto_region 4 with(at_builtin;refine ap rfl (.const (.slice none 0 0)) (.tmp 36) rfl w.heap.size w1 _ [] rfl (Own.nil _ _) AT T0 cT (by rw[Q2.out];rfl) (ZD.out.below a7.out) (by rw[Q2.out];simp;omega) a7.out.size ?_;intro v2 w2 el gI;have BS:=ae (show Own w.heap.size w2 v2 T0 from el);have dW:=ae (ao a7.out gI a7.out.size (fun g e=>gw));clear el gI)
 have eT:=Q2.out;subst eT;obtain⟨A2,c2,rfl,cU,fJ,_⟩:=BS.out.read;have acl:(T0.length:Int)≤(c2:Int):=aa;have Av:Hid (MS (aq gd o cap L) w2 C Lb lc lp pb st r y [gd,o]):=ae (HM.out.Ez dW.out.size (fun i hi=>dW.out.block i (AG.out i hi)));have anZ:Hid (aw (C::Lb::[gd,o]) w w2):=ae (aw.aF dW.out);clear cU fJ;go_wp2_with fail;go_loopg [12] many (fun gk v wr=> ∃(T:List UInt8) (st:Nat) (r:R4) (y:PD) (vv:Value),vv=v∧T0.length≤T.length∧T.length≤T0.length+many∧T0.length+many≤T.length+gk∧Hid (Own w.heap.size wr vv T)∧Hid (cu gd o cap L lc lp pb dict (T0.length+many) gk T st r y=vM)∧Hid (MS (aq gd o cap L) wr C Lb lc lp pb st r y [gd,o])∧Hid (st<12∧dI r∧(aq gd o cap L).ok y.2 0)∧Hid (aw (C::Lb::[gd,o]) w wr));case atStart=>exact⟨T0,st,r,y,_,rfl,Nat.le_refl _,Nat.le_add_right _ _,Nat.le_refl _,BS,nl,Av,gl,anZ⟩
 case round=>
  obtain⟨T,st,r,y,v,rfl,sh,m7,lh,HO,HU,HM,gl,kg⟩:=hrel;obtain⟨AT,cT,rfl,hcT,hmT,YV⟩:=HO.out.read;have hTi:(T.length:Int)≤1000000000:=aa;have awT:(T0.length:Int)≤(T.length:Int):=aa;have awU:(T.length:Int)≤(cT:Int):=aa;have HTB:=ae (And.intro sh (And.intro m7 lh));have dl:=kg.out.size;by_cases yV:T.length<T0.length+many
  ·have arR:(T.length:Int)-(T0.length:Int)<(many:Int):=(by omega);cases gk with
   | zero=>omega
   | succ gk=>
    obtain⟨⟨s,st',r',y'⟩,ht⟩: ∃t,Md.sym (aq gd o cap L) lc lp pb st r T 0 0 0 0 0 y=t:=⟨_,rfl⟩
    have hk:=Rn (aq gd o cap L) HM.out O6.out.1 O6.out.2.1 O6.out.2.2 gl.out.1 gl.out.2.1 (k:=0) AT T cT YV hcT aa (fun a e=>fun hm=>by have h1:=(HO.out.ax a.block (by rw[e];rfl)).1;have:=AG.out _ hm;omega) 0 0 0 0 0 (fun _=>⟨ak,ak⟩) (fun _ _=>⟨ak,ak⟩) ht gl.out.2.2;have HKD:Hid (Calls prog 195 #[PF C,.iface 321 (.pointer (some ⟨gd,0,none⟩)),.slice AT T.length cT,.agg #[.int .i64 0,.int .u8 0,.int .i64 0,.int .i64 0,.int .i64 0]] wr _):=ae hk;have HTS:=ae ht;clear hk ht YV hcT hmT;go_wp2_with fail;refine HKD.out.mono ?_;rintro e w5 ⟨⟨rfl,X5,VD,AY,_⟩,l6,Cb,ahw,_,x_,YW,ahx⟩;obtain rfl:X5=[gd,o]:=VD.io.1;have hO5:Own w.heap.size w5 (.slice AT T.length cT) T:=HO.out.GV fun g e=>(by have h1:=HO.out.ax g e;exact AY.block g h1.2 (fun hm=>am (AG.out _ hm)));have an0:(s.l:Int)≤273:=aa;have Rb:Hid (aw (C::Lb::[gd,o]) w w5):=ae (kg.out.trans AY (fun i hi=> .inl hi));obtain⟨W6,F7⟩: ∃W,w5.alloc (.cells #[.int .i64 (s.k:Nat),.int .u8 (s.b.toNat:Nat),.int .i64 (s.l:Nat),.int .i64 (s.d:Nat),.int .i64 (s.r:Nat)] 183)=W:=⟨_,rfl⟩
    obtain⟨y0,y1,y2,y3,y4,lI⟩:=aaV F7;have an1:=block_lt_of_cell y0;have AC:Hid (Below w.heap.size w5 W6):=ae (lI.mono Rb.out.size);have Lz:=ae (VD.below lI);have I3:Hid (Own w.heap.size W6 (.slice AT T.length cT) T):=ae (hO5.below lI);have YX:=ae (And.intro x_ (And.intro YW ahx));have EB:Hid (aw (C::Lb::[gd,o]) w W6):=ae (Rb.out.fresh AC.out);have VV:=ae F7;have fG:=ae (Lp gd o cap L y'.2 W6 Lz.out.io.2);have arT:=ae ahw;clear VD AY x_ YW ahx hO5 F7 lI HKD HM HO;go_upto_region 7 with fail;rw[VV.out];cases my:y'.2.out with
    | true=>
     have gY:vM=none:=(by rw[←HU.out];exact mN yV HTS.out my);rw[my]at fG;have Xg:=ae gY;clear gY my;go_wp2_with fail;refine fG.out.mono ?_;rintro e w7 ⟨rfl,rfl⟩;go_wp2_with fail;go_ret2;rw[Xg.out];exact⟨⟨rfl,EB.out⟩,.none⟩
    | false=>
     rw[my]at fG;have HOF:=ae my;clear my;go_wp2_with fail;refine fG.out.mono ?_;rintro e w7 ⟨rfl,rfl⟩;by_cases VU:s.k=0
     ·have y_:Hid (cu gd o cap L lc lp pb dict (T0.length+many) gk (T++[s.b]) st' r' y'=vM):=ae (by rw[←HU.out];exact(kF yV HTS.out HOF.out VU).symm);have an2:(((s.k:Nat):Int)==0)=true:=(by rw[VU];rfl);obtain⟨W8,Ec⟩: ∃W,W6.alloc (.cells #[.int .u8 (s.b.toNat:Nat)] 5)=W:=⟨_,rfl⟩
      have rI:Below w.heap.size W6 W8:=(by rw[←Ec];exact(Below.refl _ _).alloc EB.out.size _);have Bq:Own w.heap.size W8 (.slice AT T.length cT) T:=(by rw[←Ec];exact I3.out.alloc _);have hx8:Bytes W8 (some ⟨W6.heap.size,0,none⟩) [s.b]:=(by rw[←Ec];exact Cf W6 s.b);have HW8:=ae Ec;have Cu:=ae rI;have HO8:=ae Bq;have HX8:=ae hx8;have ahy:Hid (w.heap.size≤W8.heap.size):=ae (Nat.le_trans EB.out.size rI.size);have an4:Hid (T.length≤1000000000):=ae aa;clear Ec rI Bq hx8 VU;go_wp2_with (at_builtin;rw[HW8.out];refine ap rfl (.tmp 57) (.tmp 60) rfl w.heap.size W8 _ T rfl HO8.out (some ⟨W6.heap.size,0,none⟩) [s.b] 1 rfl HX8.out (by have:=an4.out;simp;omega) ahy.out ?_;intro v9 w9 V1 JS;have HO9:Hid (Own w.heap.size w9 v9 (T++[s.b])):=ae V1;have Bs:=ae (ao Cu.out JS ahy.out (fun g e=>(HO8.out.ax g e).1));clear V1 JS)
      go_roundg gk;case measure=>omega
      case rel=>refine⟨T++[s.b],st',r',y',v9,rfl,?_,?_,?_,HO9,y_,ae (Lz.out.Ez Bs.out.size (fun i hi=>Bs.out.block i (AG.out i hi))),YX,ae (EB.out.fresh Bs.out)⟩<;>rw[List.length_append,List.length_singleton]<;>omega
     ·have an2:(((s.k:Nat):Int)==0)=false:=beq_eq_false_iff_ne.2 aa;have HRP:=ae (oZ Lz.out.mod);have HK0:=ae VU;clear VU;go_wp2_with fail;refine HRP.out.mono ?_;rintro e w7 ⟨rfl,mM⟩;have ix:=QB r'.1 r'.2.1 r'.2.2.1 r'.2.2.2 w7;have z2:=(mM.cell (p:=⟨w5.heap.size,2,none⟩) an1).trans y2;have wl:Hid (Below w.heap.size W6 w7):=ae (mM.mono EB.out.size);have SX:Hid (Own w.heap.size w7 (.slice AT T.length cT) T):=ae (I3.out.below mM);have wZ:Hid (1≤r'.1):=ae YX.out.2.1.1.1;have awW:r'.1≤4294967296:=YX.out.2.1.2.1;have awX:1≤r'.1:=wZ.out;clear mM y0 y1 y2 y3 y4;by_cases va:min (T.length:Int) dict<r'.1∨T0.length+many-T.length<s.l
      ·have gY:vM=none:=(by rw[←HU.out];exact mO yV HTS.out HK0.out va);have Xg:=ae gY;clear gY;by_cases az:min (T.length:Int) dict<r'.1;·have ahz:decide (min (T.length:Int) dict<r'.1)=true:=decide_eq_true az;clear va;go_wp2_with fail;go_ret2;rw[Xg.out];exact⟨⟨rfl,EB.out.fresh wl.out⟩,.none⟩
       ·have ahz:decide (min (T.length:Int) dict<r'.1)=false:=decide_eq_false az;have aD:(many:Int)-((T.length:Int)-(T0.length:Int))<(s.l:Int):=aa;have an5:decide ((many:Int)-((T.length:Int)-(T0.length:Int))<(s.l:Int))=true:=decide_eq_true aD;clear va;go_wp2_with fail;go_ret2;rw[Xg.out];exact⟨⟨rfl,EB.out.fresh wl.out⟩,.none⟩
      ·have y_:Hid (cu gd o cap L lc lp pb dict (T0.length+many) gk (fA T r'.1.toNat s.l) st' r' y'=vM):=ae (by rw[←HU.out];exact(kG yV HTS.out HOF.out HK0.out va).symm);have az: ¬min (T.length:Int) dict<r'.1:=fun h=>va (.inl h);have ahz:decide (min (T.length:Int) dict<r'.1)=false:=decide_eq_false az;have aD: ¬(many:Int)-((T.length:Int)-(T0.length:Int))<(s.l:Int):=aa;have an5:decide ((many:Int)-((T.length:Int)-(T0.length:Int))<(s.l:Int))=false:=decide_eq_false aD;obtain⟨bk,lV⟩: ∃bk:Nat,r'.1=(bk:Int):=⟨r'.1.toNat,aa⟩
       have awY:bk≤T.length:=aa;have ahk:1≤bk:=aa;have We:Hid (T.length+s.l≤T0.length+many∧1≤s.l):=ae ⟨aa,by have h:=Uv (io:=aq gd o cap L) (lc:=lc) (lp:=lp) (pb:=pb) (st:=st) (r:=r) (H:=T) (k:=0) (b:=0) (l:=0) (d:=0) (q:=0) (x:=y);rw[HTS.out]at h;exact h HK0.out⟩;rw[lV,Int.toNat_natCast]at y_;clear va;have hbi:(1:Int)≤(bk:Int):=aa;have awZ:(bk:Int)≤(T.length:Int):=aa;go_wp2_with fail;go_loopw [12,84] (fun v i wr2=> ∃(n:Nat) (vv:Value),n≤s.l∧vv=v∧i= .int .i64 (n:Nat)∧Hid (Own w.heap.size wr2 vv (fA T bk n))∧Hid (Below w.heap.size w7 wr2)) (fun _ i _=>s.l-(intOf i).toNat);case atStart=>exact⟨0,_,Nat.zero_le _,rfl,rfl,SX,ae (Below.refl _ _)⟩
       case round=>
        obtain⟨n,v,hn,rfl,rfl,HO,dE⟩:=hrel;by_cases Bl:n<s.l
        ·have pX:(n:Int)<(s.l:Int):=(by omega);have SB:decide ((n:Int)<(s.l:Int))=true:=decide_eq_true pX;have⟨T2,hT⟩:=ex (fA T bk n);have mh:T2.length=T.length+n:=(by rw[←hT];exact eX T bk n);rw[hT]at HO;obtain⟨A2,c2,rfl,cU,fJ,fC⟩:=HO.out.read;have hLi:(T2.length:Int)≤1000000000:=am We.out;have acl:(T2.length:Int)≤(c2:Int):=aa;have⟨x,hx⟩:=ex (T2.length-bk);have Z8:(T2.length:Int)-(bk:Int)=(x:Int):=aa;have hxl:(x:Int)<(T2.length:Int):=aa;obtain⟨g,off,rfl,_,dm⟩:=fC.addr aa;have cx:=dm x aa;have e1:=dj (d:=T2) (i:=x) aa;rw[←e1]at cx;have an6:Hid (fA T bk (n+1)=T2++[T2.getD x 0]):=ae (by unfold fA;rw[hT,hx]);generalize T2.getD x 0=u at*;have⟨W4,mG⟩:=ex (wr.alloc (.cells #[.int .u8 (u.toNat:Nat)] 5));have ki:w.heap.size≤wr.heap.size:=Nat.le_trans EB.out.size (Nat.le_trans wl.out.size dE.out.size);have bm:Below w.heap.size w7 W4:=(by rw[←mG];exact dE.out.alloc ki _);have cY:Own w.heap.size W4 (.slice (some ⟨g,off,none⟩) T2.length c2) T2:=(by rw[←mG];exact HO.out.alloc _);have vu:Bytes W4 (some ⟨wr.heap.size,0,none⟩) [u]:=(by rw[←mG];exact Cf wr u);have ahA:w.heap.size≤W4.heap.size:=(by rw[←mG];simp;omega);have M2:=ae mG;have iV:=ae bm;have ahB:=ae ahA;have Ba:=ae cY;have HX4:=ae vu;have an7:Hid (T2.length≤1000000000):=ae aa;clear mG bm cY vu hT mh cU fJ fC hx dm e1 ki ahA;go_wp2_with (at_builtin;rw[M2.out];refine ap rfl (.tmp 86) (.tmp 94) rfl w.heap.size W4 _ T2 rfl Ba.out (some ⟨wr.heap.size,0,none⟩) [u] 1 rfl HX4.out (by have:=an7.out;simp;omega) ahB.out ?_;intro v5 w5 lZ je;have Qb:Hid (Own w.heap.size w5 v5 (fA T bk (n+1))):=ae (by rw[an6.out];exact lZ);have wC:=ae (ao iV.out je ahB.out (fun g e=>(Ba.out.ax g e).1));clear lZ je)
         exact⟨⟨n+1,_,aa,rfl,aE,Qb,wC⟩,jb⟩
        ·obtain rfl:n=s.l:=(by omega);have SB:decide (((s.l:Nat):Int)<((s.l:Nat):Int))=false:=decide_eq_false aa;go_wp2_with fail;go_roundg gk;case measure=>omega
         case rel=>have hk: ∀i∈C::Lb::[gd,o],wr.heap[i]? =W6.heap[i]? :=fun i hi=>(dE.out.block i (AG.out i hi)).trans (wl.out.block i (AG.out i hi));have tT:=eX T bk s.l;refine⟨fA T bk s.l,st',r',y',v,rfl,?_,?_,?_,HO,y_,ae (Lz.out.Ez (Nat.le_trans wl.out.size dE.out.size) hk),YX,ae ((EB.out.fresh wl.out).fresh dE.out)⟩<;>rw[tT]<;>(have h1:=We.out;have h2:=HTB.out;omega)
  ·have gY:vM=some (T,st,r,y):=(by rw[←HU.out];exact kE aa);have Xg:=ae gY;have arW:decide ((T.length:Int)-(T0.length:Int)<(many:Int))=false:=decide_eq_false aa;have Wf:=YV.cutFrom sh hcT;have lW: ¬(T.length:Int)-(T0.length:Int)<(many:Int):=aa;have⟨AF,Dw⟩:=ex ((if cT=T0.length then AT else AT.map (·.add T0.length)));rw[Dw]at Wf;have VF:=ae Dw;have OV:=ae Wf;clear gY Wf Dw YV;go_wp2_with fail
   all_goals
    go_ret2;rw[Xg.out]
   ·refine⟨⟨AF,0,?_,aa,aa,OV.out,_,HM.out,kg.out,fun i hi=> .inl hi⟩,.some ⟨gl.out.1,gl.out.2.1⟩⟩;rw[←VF.out,if_pos (by first | assumption | omega)];rfl
   ·refine⟨⟨AF,cT-T0.length,?_,aa,aa,OV.out,_,HM.out,kg.out,fun i hi=> .inl hi⟩,.some ⟨gl.out.1,gl.out.2.1⟩⟩;rw[←VF.out,if_neg rk];rfl
end Go.Proofs.YtfcaoggfnkhfiaaGreatDoor
