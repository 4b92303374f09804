import Derived.Test.YtfcaoggfnkhfiaaGreatDoorZ09
import Derived.Test.YtfcaoggfnkhfiaaGreatDoorZ08
import Derived.Laws.BitsAllLaws
namespace Go.Proofs.YtfcaoggfnkhfiaaGreatDoor
set_option maxRecDepth 100000
set_option maxHeartbeats 8000000
open Go.RowKit Go.Proofs.Tryz
variable{d k l q:Int}{g lc lp pb:Nat}{b:UInt8}
theorem sN(st:Nat)(l:Int):((fU st:Nat):Int)=aT (st:Nat) 0 l:=by
 unfold fU aT;rw[ax (show(0:Int)=0 from rfl)];by_cases h1:st<4;·rw[ax h1,ax (show(st:Int)<4 by omega)];rfl
 ·rw[au h1,au (show ¬(st:Int)<4 by omega)];by_cases h2:st<10;·rw[ax h2,ax (show(st:Int)<10 by omega)];omega
  ·rw[au h2,au (show ¬(st:Int)<10 by omega)];omega
theorem nz(st:Nat)(l:Int):(((if st<7 then 7 else 10:Nat)):Int)=aT (st:Nat) 1 l:=by
 unfold aT;rw[au (show ¬(1:Int)=0 by decide),ax (show(1:Int)=1 from rfl)];by_cases h1:st<7;·rw[ax h1,au (show ¬7<=(st:Int) by omega)];rfl
 ·rw[au h1,ax (show(7:Int)<=(st:Int) by omega)];rfl
theorem pC(st l:Nat):(((if st<7 then(if l=1 then 9 else 8)else 11:Nat)):Int)=aT (st:Nat) 2 (l:Nat):=by
 unfold aT;rw[au (show ¬(2:Int)=0 by decide),au (show ¬(2:Int)=1 by decide)];by_cases h1:st<7
 ·rw[ax h1,au (show ¬7<=(st:Int) by omega)];by_cases h:l=1;·rw[ax h,ax (show(l:Int)=1 by omega)];rfl
  ·rw[au h,au (show ¬(l:Int)=1 by omega)];rfl
 ·rw[au h1,ax (show(7:Int)<=(st:Int) by omega)];rfl
theorem sO(r:R4)(q:Nat)(hq:q<=3)(d:Int):ie r q (r4 r.1 r.2.1 r.2.2.1 r.2.2.2 q)=dM r 2 d (q:Nat):=by obtain⟨a,b,c,e⟩:=r;have h:q=0\/q=1\/q=2\/q=3:=aa;rcases h with rfl|rfl|rfl|rfl<;>rfl
def aq6(g lc lp pb:Nat)(H:An)(x:(ao g).S)(r:R4)(st:Nat)(k:Int)(b:UInt8)(l d q:Int)(st':Nat)(r':R4)(z:(ao g).S):Prop:=
 ∀(C base h N:Nat) (Y:List Nat) (w:Lo) (m:Nat) (A:As) (c:Nat),RE w C base h N (lc:Nat) (lp:Nat) (pb:Nat) (st:Nat) r x Y->base<=w.heap.size->N=2180+768*2^(lc+lp)->N<=1000000->(ao g).ok x.2 (m+82)->Bytes w A H->(∀a,A=some a->a.block ∉ Y)->H.length<=c->
  Calls prog 125 #[PF C,PF h,.slice A H.length c,mq k b l d q] w (ph ((ao g).ok z.2 m) (lQ (.tuple #[]) C base h N (lc:Nat) (lp:Nat) (pb:Nat) (st':Nat) r' z Y w))
theorem Wz{st:Nat}{r:R4}{x:(ao g).S}{H:An}(lj:lc<=4)(Dn:lp<=4)(DG:pb<=4)(da:st<12)(hr:fp r)(hH:H.length<=1000000000)(hf:kt r (H.length:Int) k l d q=true):
  ∃s' st' r' z,Md.sym (ao g) lc lp pb st r H k b l d q x=(s',st',r',z)/\r'=dM r k d q/\((st':Nat):Int)=aT (st:Nat) k l/\s'.val=Gg k b l d q/\aq6 g lc lp pb H x r st k b l d q st' r' z:=by
 rcases nw hf with rfl|⟨rfl,h2,h3,h4,h5,h6⟩|⟨rfl,h0,h1,h4,h5⟩
 ·obtain⟨z,hz,vV⟩:=yN g lc lp pb st r H b l d q x;refine⟨_,_,_,_,hz,rfl,sN st l,rfl,?_⟩;intro C base h N Y w m A c hM aX hN uV bK hB hA hc;have hp:=Rr hM lj Dn DG da hr.1.1 hr.2.1 (k:=m) ((ao g).le bK aa) A H c hB hA hc hH hN uV b l d q vV.symm;rw[<-sN]at hp;exact hp
 ·obtain⟨l,rfl⟩: ∃n:Nat,l=n:=⟨l.toNat,aa⟩
  obtain⟨d,rfl⟩: ∃n:Nat,d=n:=⟨d.toNat,aa⟩
  obtain⟨z,hz,vV⟩:=tQ g lc lp pb st r H b l d q aa aa aa aa x;refine⟨_,_,_,_,hz,rfl,nz st l,rfl,?_⟩;intro C base h N Y w m A c hM aX hN uV bK hB hA hc;have hp:=JV hM DG da aX (k:=m) bK A H c hc hH aa uV b l d q aa aa aa aa vV.symm;rw[<-nz]at hp;exact hp
 ·obtain⟨l,rfl⟩: ∃n:Nat,l=n:=⟨l.toNat,aa⟩
  obtain⟨q,rfl⟩: ∃n:Nat,q=n:=⟨q.toNat,aa⟩
  obtain⟨z,hz,vV⟩:=vX g lc lp pb st r H b l q d aa aa aa aa x;refine⟨_,_,_,_,hz,sO r q aa d,pC st l,rfl,?_⟩;intro C base h N Y w m A c hM aX hN uV bK hB hA hc;have hp:=Nd hM DG da aX (k:=m) ((ao g).le bK aa) A H c hc hH aa uV b l q d aa aa aa aa vV.symm;rw[<-pC,<-sO r q aa d]at hp;exact hp

structure MSt where
 H:List UInt8
 st:Nat
 r:R4
 x:PS
structure aq7(g lc lp pb:Nat)(a:MSt)(s:Sy)(b:MSt):Prop where
 sym: ∃(k:Int) (c:UInt8) (l d q:Int),Md.sym (ao g) lc lp pb a.st a.r a.H k c l d q a.x=(s,b.st,b.r,b.x)
 k:s.k<=2
 q:s.r<=3
 short:s.l<=273
 pos:s.k≠0->1<=s.l
 azI: ∃bk:Nat,nu a.r (s.k:Nat) (s.d:Nat) (s.r:Nat)=(bk:Int)/\((s.k:Int)≠0->1<=bk/\bk<=a.H.length)/\b.H=pY a.H (s.k:Nat) s.b s.l bk
 st:(b.st:Int)=aT (a.st:Nat) (s.k:Nat) (s.l:Nat)
 r:b.r=dM a.r (s.k:Nat) (s.d:Nat) (s.r:Nat)
 ok:b.x.2.ok
theorem Nf(H:An)(b:UInt8)(l l' back aka:Nat):pY H 0 b l back=pY H 0 b l' aka:=by unfold pY;rw[ax rfl,ax rfl]
theorem JX(hk:k≠0)(H:An)(b b':UInt8)(l back:Nat):pY H k b l back=pY H k b' l back:=by unfold pY;rw[au hk,au hk]
theorem Ru{a:MSt}(hr:fp a.r)(hf:kt a.r (a.H.length:Int) k l d q=true):
  ∃s st' r' z,Md.sym (ao g) lc lp pb a.st a.r a.H k b l d q a.x=(s,st',r',z)/\r'=dM a.r k d q/\((st':Nat):Int)=aT (a.st:Nat) k l/\s.val=Gg k b l d q/\ ∀bk:Nat,nu a.r k d q=(bk:Int)->z.2.ok->aq7 g lc lp pb a s ⟨pY a.H k b l.toNat bk,st',r',z⟩:=by
 have qj: ∀q:Nat,q<=3->1<=QR a.r (q:Nat):=by
  intro q hq;obtain⟨⟨a1,a2,a3,a4⟩,_⟩:=hr;unfold QR;rcases(by omega:q=0\/q=1\/q=2\/q=3)with rfl|rfl|rfl|rfl;·exact a1
  ·exact a2
  ·exact a3
  ·exact a4
 rcases nw hf with rfl|⟨rfl,h2,h3,h4,h5,h6⟩|⟨rfl,h0,h1,h4,h5⟩
 ·obtain⟨z,hz,_⟩:=yN g lc lp pb a.st a.r a.H b l d q a.x;refine⟨_,_,_,_,hz,rfl,sN a.st l,rfl,λbk nk bK=> ?_⟩;exact⟨⟨0,b,l,d,q,hz⟩,show 0<=2 by decide,show 0<=3 by decide,show 0<=273 by decide,λh=>absurd rfl h,⟨0,rfl,λh=>absurd rfl h,Nf a.H b l.toNat 0 bk 0⟩,sN a.st _,rfl,bK⟩
 ·obtain⟨l,rfl⟩: ∃n:Nat,l=n:=⟨l.toNat,aa⟩
  obtain⟨d,rfl⟩: ∃n:Nat,d=n:=⟨d.toNat,aa⟩
  obtain⟨z,hz,_⟩:=tQ g lc lp pb a.st a.r a.H b l d q aa aa aa aa a.x;refine⟨_,_,_,_,hz,rfl,nz a.st l,rfl,λbk nk bK=> ?_⟩;have hd:nu a.r 1 (d:Nat) q=(d:Int):=by unfold nu;rw[ax rfl]
  rw[hd]at nk;refine⟨⟨1,b,l,d,q,hz⟩,show 1<=2 by decide,show 0<=3 by decide,by show l<=273;omega,λ_=>by show 1<=l;omega,⟨bk,?_,λ_=>by show 1<=bk/\bk<=a.H.length;omega,JX (show(1:Int)≠0 by decide) a.H b 0 l bk⟩,nz a.st _,rfl,bK⟩;show nu a.r 1 (d:Nat) 0=(bk:Int);unfold nu;rw[ax rfl];exact nk
 ·obtain⟨l,rfl⟩: ∃n:Nat,l=n:=⟨l.toNat,aa⟩
  obtain⟨q,rfl⟩: ∃n:Nat,q=n:=⟨q.toNat,aa⟩
  obtain⟨z,hz,_⟩:=vX g lc lp pb a.st a.r a.H b l q d aa aa aa aa a.x;refine⟨_,_,_,_,hz,sO a.r q aa d,pC a.st l,rfl,λbk nk bK=> ?_⟩;have hd:nu a.r 2 d (q:Nat)=QR a.r (q:Nat):=by unfold nu;rw[au ar,ax rfl]
  rw[hd]at nk;have h1':=qj q aa;refine⟨⟨2,b,l,d,q,hz⟩,show 2<=2 by decide,by show q<=3;omega,by show l<=273;omega,λ_=>by show 1<=l;omega,⟨bk,?_,λ_=>by show 1<=bk/\bk<=a.H.length;omega,JX (show(2:Int)≠0 by decide) a.H b 0 l bk⟩,pC a.st l,sO a.r q aa _,bK⟩;show nu a.r 2 0 (q:Nat)=(bk:Int);unfold nu;rw[au ar,ax rfl];exact nk


theorem aaS(lc lp pb:Int)(w:Lo):Calls prog 78 #[.int .i64 lc,.int .i64 lp,.int .i64 pb] w λe w'=>e= .returned (.bool (ro lc lp pb))/\w=w':=by
 have⟨R,hR⟩:=ex (ro lc lp pb);rw[hR];by_cases aA5:0<=lc;case neg=>have Ij:Hid (R=false):=ae (by rw[<-hR];exact du aa);clear hR;go_enter func78,ntmps78;go_wp2;go_ret;exact⟨kB,rfl⟩
 by_cases aA6:lc<=4;case neg=>have Ij:Hid (R=false):=ae (by rw[<-hR];exact du aa);clear hR;go_enter func78,ntmps78;go_wp2;go_ret;exact⟨kB,rfl⟩
 by_cases aA7:0<=lp;case neg=>have Ij:Hid (R=false):=ae (by rw[<-hR];exact du aa);clear hR;go_enter func78,ntmps78;go_wp2;go_ret;exact⟨kB,rfl⟩
 by_cases aA8:lp<=4;case neg=>have Ij:Hid (R=false):=ae (by rw[<-hR];exact du aa);clear hR;go_enter func78,ntmps78;go_wp2;go_ret;exact⟨kB,rfl⟩
 by_cases tg:lc+lp<=4;case neg=>have Ij:Hid (R=false):=ae (by rw[<-hR];exact du aa);clear hR;go_enter func78,ntmps78;go_wp2;go_ret;exact⟨kB,rfl⟩
 by_cases aA9:0<=pb;case neg=>have Ij:Hid (R=false):=ae (by rw[<-hR];exact du aa);clear hR;go_enter func78,ntmps78;go_wp2;go_ret;exact⟨kB,rfl⟩
 by_cases aBa:pb<=4;case neg=>have Ij:Hid (R=false):=ae (by rw[<-hR];exact du aa);clear hR;go_enter func78,ntmps78;go_wp2;go_ret;exact⟨kB,rfl⟩
 have Ij:Hid (R=true):=ae (by rw[<-hR];exact iz aa);clear hR;go_enter func78,ntmps78;go_wp2;go_ret;exact⟨kB,rfl⟩
section
section
variable{gd o cap:Nat}{L:An}{lc lp pb:Nat}{dict:Int}{fin:Nat}
end
end
section
section
variable{g lc lp pb:Nat}{ss:List Sy}{M:Nat->MSt}{L:An}{gd o cap:Nat}{dict:Int}{fin:Nat}
end
end

section
section
variable{g lc lp pb:Nat}{ss:List Sy}{M:Nat->MSt}{L:An}{gd o cap:Nat}{H0:An}{dict:Int}
end
end
section
section
variable{w0 w w':Lo}{io:Io}{C L lc lp pb st:Nat}{r:R4}{x:io.S}{X:List Nat}{C2 base Yr:Nat}{r2:R4}{hv:Value}{H:An}{pv:Value}{ss:List Sy}{R:World->Prop}{Wr:Nat->Prop}{p:Nat->List Nat}
end
end



end Go.Proofs.YtfcaoggfnkhfiaaGreatDoor
