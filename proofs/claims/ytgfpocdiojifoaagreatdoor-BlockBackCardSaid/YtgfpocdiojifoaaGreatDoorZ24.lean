import Derived.Deep.DeepCutAuto
import Derived.Deep.RegionHeld3
import Derived.Test.YtgfpocdiojifoaaGreatDoorZ15
import Derived.Test.YtgfpocdiojifoaaGreatDoorZ23
namespace Go.Proofs.YtgfpocdiojifoaaGreatDoor
set_option maxRecDepth 100000
set_option maxHeartbeats 8000000
open Go.RowKit
structure Gz(w:World)(h o cap:Nat)(s:Rc.St):Prop where
 blk:w.heap[h]? =some (.cells #[.slice (some ⟨o,0,none⟩) (4+s.k) cap,.int .u64 ((s.r:Nat):Int)] 207 (0,0))
 own:w.ownsRow 0 5 1 (.slice (some ⟨o,0,none⟩) (4+s.k) cap) (4+s.k) ((Rc.be (4+s.k) s.v).map B8)
 ne:h≠o
theorem uO{w:World}{base base' e n:Nat}{v:Value}{xs:List Value}(h:w.ownsRow base e 1 v n xs)(hb:base'≤base):w.ownsRow base' e 1 v n xs:=by
 rcases h with⟨h1,h2 | ⟨g,cap,cur,h2,h3,h4⟩⟩
 ·exact⟨h1,.inl h2⟩
 ·exact⟨h1,.inr ⟨g,cap,cur,h2,by omega,h4⟩⟩


structure RE(w:World)(C base h N:Nat)(lc lp pb st:Int)(r:R4)(x:(Nat→Nat)×Rc.St)(Y:List Nat):Prop where
 ex: ∃(Pl:List Nat) (vR:Value) (gR gP OI o cap:Nat),qW w C base lc lp pb st r Pl vR (.slice (some ⟨gP,0,none⟩) N OI)∧vR.ownBlock=some gR∧Gz w h o cap x.2∧Pl.length=N∧(∀i,i<N→Pl[i]? =some (x.1 i))∧Y=[C,gR,gP,h,o]
 fair: ∀i,1≤x.1 i∧x.1 i≤2047
def Ye(C base h N:Nat)(lc lp pb st:Int)(r:R4)(x:(Nat→Nat)×Rc.St)(Y:List Nat)(w w':World):Prop:= ∃Y',RE w' C base h N lc lp pb st r x Y'∧Only Y w w'∧ ∀i∈Y',i∈Y∨w.heap.size≤i
theorem Ye.trans{C base h N:Nat}{lc lp pb st':Int}{r':R4}{x':(Nat→Nat)×Rc.St}{Y Y1:List Nat}{w w1 w2:World}(hon:Only Y w w1)(hY: ∀i∈Y1,i∈Y∨w.heap.size≤i)(hh:Ye C base h N lc lp pb st' r' x' Y1 w1 w2):Ye C base h N lc lp pb st' r' x' Y w w2:=by
 obtain⟨Y2,hM,iQ,hY2⟩:=hh
 refine⟨Y2,hM,hon.trans iQ hY,fun i hi=> ?_⟩
 rcases hY2 i hi with h1 | h1
 ·exact hY i h1
 ·exact .inr (Nat.le_trans hon.size h1)
theorem Gz.aip{w w':World}{h o cap:Nat}{s:Rc.St}(hR:Gz w h o cap s)(h1:w'.heap[h]? =w.heap[h]?)(h2:w'.heap[o]? =w.heap[o]?):Gz w' h o cap s:=⟨h1.trans hR.blk,JO hR.own h2,hR.ne⟩
theorem Gz.row{w:World}{h o cap:Nat}{s:Rc.St}(hR:Gz w h o cap s): ∃cs,w.heap[o]? =some (.cells cs 5 (0,0)):=by
 rcases hR.own with⟨_,⟨h1,_⟩ | ⟨g,cap',cur,e,_,h3,_⟩⟩
 ·cases h1
 ·injection e with e1 _ _
  injection e1 with e1
  injection e1 with e1
  subst e1
  exact⟨cur,h3⟩
theorem row_ne{w:World}{a b:Nat}{ca cb:Array Value}{ta tb:TypeId}{fa fb:Nat×Nat}(ha:w.heap[a]? =some (.cells ca ta fa))(hb:w.heap[b]? =some (.cells cb tb fb))(h:ta≠tb):a≠b:=by
 intro e
 subst e
 rw[ha]at hb
 injection hb with hb
 injection hb with _ hb _
 exact h hb
theorem dB.row{t:TypeId}{base:Nat}{w:World}{g n cap:Nat}{l:List Value}(h:dB t base w (.slice (some ⟨g,0,none⟩) n cap) l): ∃cs,w.heap[g]? =some (.cells cs t (0,0)):=by
 rcases h with⟨_,⟨h1,_⟩ | ⟨g',cap',cur,e,_,h3,_⟩⟩
 ·cases h1
 ·injection e with e1 _ _
  injection e1 with e1
  injection e1 with e1
  subst e1
  exact⟨cur,h3⟩
theorem RE.st{C base h N:Nat}{lc lp pb st:Int}{r:R4}{x:(Nat→Nat)×Rc.St}{Y:List Nat}{w:World}(hM:RE w C base h N lc lp pb st r x Y):w.cell? ⟨C,3,none⟩=some (.int .i64 st):=by
 obtain⟨Pl,vR,gR,gP,OI,o,cap,hC,_⟩:=hM.ex
 exact hC.cells.1
theorem abP(v j:Nat):((v/2^j%2:Nat):Int)=dK (Md.aG (v:Nat) j):=by
 unfold Md.aG dK
 have e:((v:Nat):Int)/2^j%2=((v/2^j%2:Nat):Int):=by simp
 rw[e]
 by_cases h:v/2^j%2=1
 ·rw[h];rfl
 ·have h0:v/2^j%2=0:=by omega
  rw[h0];rfl
theorem zn(v j:Nat):(Md.aG (v:Nat) j).toNat=v/2^j%2:=by
 have h:=abP v j
 have h2:dK (Md.aG (v:Nat) j)=((Md.aG (v:Nat) j).toNat:Int):=by cases Md.aG (v:Nat) j<;>rfl
 rw[h2]at h
 omega
section
section
variable{C base h N:Nat}{lc lp pb st:Nat}{r:R4}{x:(Nat→Nat)×Rc.St}{Y:List Nat}{w:World}
end
end
theorem IK{x:Nat}(h1:2≤x)(h2:x≤3):Lib.bitLen x=2:=by
 rcases(by omega:x=2∨x=3)with rfl | rfl<;>decide
theorem abQ{d n:Nat}(h2:2≤d/2^n)(h3:d/2^n≤3)(hd:d<4294967296)(hn:1≤n):jq d=2*n+d/2^n∧4≤d:=by
 have hp:2≤2^n:=by
  have:2^1≤2^n:=Nat.pow_le_pow_right (by omega) hn
  omega
 have hle:2*2^n≤d:=(Nat.le_div_iff_mul_le (by omega)).1 h2
 have h4:4≤d:=by omega
 have hb:Lib.bitLen d=n+2:=by
  rw[Lib.bitLen_shift n d (by omega) (by omega),IK h2 h3]
 refine⟨?_,h4⟩
 unfold jq
 rw[if_neg (by omega),hb,Nat.add_sub_cancel]
 omega
theorem DF(g at_ v:Nat): ∀n m (x:(aj g).S),(Md.dF (aj g) at_ (v:Nat) n m x).1=m*2^n+v%2^n
 | 0,m,x=>by unfold Md.dF;simp;omega
 | n+1,m,x=>by
  unfold Md.dF
  rw[DF g at_ v n]
  have e:((aj g).au (at_+m) (Md.aG (v:Nat) n) x).1=Md.aG (v:Nat) n:=rfl
  rw[e,zn,Nat.mod_pow_succ,Nat.pow_succ,Nat.add_mul]
  generalize v/2^n%2=B
  rw[Nat.mul_comm 2 m,Nat.mul_assoc,Nat.mul_comm 2 (2^n),Nat.mul_comm B]
  omega
theorem xQ(g at_ v n:Nat)(hv:v<2^n)(x:(aj g).S):(Md.tree (aj g) at_ n (v:Nat) x).1=v:=by
 unfold Md.tree
 rw[DF,Nat.mod_eq_of_lt hv]
 simp
theorem GH(g at_ v:Nat): ∀k i m q (x:(aj g).S),(Md.jo (aj g) at_ (v:Nat) k i m q x).1=q+v/2^i%2^k*2^i
 | 0,i,m,q,x=>by unfold Md.jo;simp[Nat.mod_one]
 | k+1,i,m,q,x=>by
  unfold Md.jo
  rw[GH g at_ v k]
  have e:((aj g).au (at_+m) (Md.aG (v:Nat) i) x).1=Md.aG (v:Nat) i:=rfl
  rw[e,zn]
  have e2:v/2^(i+1)=v/2^i/2:=by rw[Nat.div_div_eq_div_mul,←Nat.pow_succ]
  rw[e2]
  generalize v/2^i=u
  have e3:u%2^(k+1)=u%2+2*(u/2%2^k):=by
   have h:=Nat.div_add_mod (u%2^(k+1)) 2
   rw[Nat.pow_succ,Nat.mul_comm (2^k) 2]at h ⊢
   rw[Nat.mod_mul_right_div_self,Nat.mod_mul_right_mod]at h
   omega
  rw[e3,Nat.add_mul,Nat.pow_succ]
  generalize 2^i=P
  generalize u/2%2^k=W
  generalize u%2=B
  rw[Nat.mul_comm P 2,←Nat.mul_assoc W 2 P,Nat.mul_comm W 2]
  omega
theorem QX(g at_ v n:Nat)(x:(aj g).S):(Md.rev (aj g) at_ n (v:Nat) x).1=v%2^n:=by
 unfold Md.rev
 rw[GH]
 simp
theorem IL(g A p l:Nat)(h2:2≤l)(h3:l≤273)(x:(aj g).S):(Md.len (aj g) A p (l:Nat) x).1=l:=by
 obtain⟨n,rfl⟩: ∃n,l=n+2:=⟨l-2,by omega⟩
 have e0:((n+2:Nat):Int)-2=(n:Int):=by omega
 unfold Md.len
 simp only[e0]
 have b1:((aj g).au A (decide ((8:Int)≤(n:Int))) x).1=decide ((8:Int)≤(n:Int)):=rfl
 rw[b1]
 by_cases h8:8≤n
 ·rw[show decide ((8:Int)≤(n:Int))=true from decide_eq_true (by omega)]
  simp only[Bool.true_eq_false,if_false]
  by_cases h16:16≤n
  ·rw[show decide ((16:Int)≤(n:Int))=true from decide_eq_true (by omega)]
   have b2:((aj g).au (A+1) true ((aj g).au A true x).2).1=true:=rfl
   rw[b2]
   simp only[Bool.true_eq_false,if_false]
   rw[show(n:Int)-16=((n-16:Nat):Int) by omega,xQ _ _ _ _ (by omega)]
   omega
  ·rw[show decide ((16:Int)≤(n:Int))=false from decide_eq_false (by omega)]
   have b2:((aj g).au (A+1) false ((aj g).au A true x).2).1=false:=rfl
   rw[b2]
   simp only[if_true]
   rw[show(n:Int)-8=((n-8:Nat):Int) by omega,xQ _ _ _ _ (by omega)]
   omega
 ·rw[show decide ((8:Int)≤(n:Int))=false from decide_eq_false (by omega)]
  simp only[if_true]
  rw[xQ _ _ _ _ (by omega)]
  omega

theorem aiq: ∀(d:Nat),4≤d→ ∃n,1≤n∧2≤d/2^n∧d/2^n≤3:=by
 intro d
 induction d using Nat.strongRecOn with
 | ind d ih=>
  intro h
  by_cases h3:d/2≤3
  ·exact⟨1,by omega,by simp;omega,by simp;omega⟩
  ·obtain⟨n,h1,h2,h4⟩:=ih (d/2) (by omega) (by omega)
   refine⟨n+1,by omega,?_,?_⟩
   ·rw[Nat.pow_succ,Nat.mul_comm,←Nat.div_div_eq_div_mul];exact h2
   ·rw[Nat.pow_succ,Nat.mul_comm,←Nat.div_div_eq_div_mul];exact h4
theorem Yf{d:Nat}(h4:4≤d)(hd:d<4294967296): ∃n q,jq d/2-1=n∧d/2^n=q∧1≤n∧n≤30∧2≤q∧q≤3∧jq d=2*n+q:=by
 obtain⟨n,h1,h2,h3⟩:=aiq d h4
 obtain⟨hs,_⟩:=abQ h2 h3 hd h1
 have hn:jq d/2-1=n:=by omega
 have:=JZ hd
 exact⟨n,_,hn,rfl,h1,by omega,h2,h3,hs⟩
theorem Yg(g l dd:Nat)(h1:1≤dd)(h2:dd≤4294967295)(x:(aj g).S):(Md.dist (aj g) l (dd:Nat) x).1=dd:=by
 obtain⟨d,rfl⟩: ∃d,dd=d+1:=⟨dd-1,by omega⟩
 have e0:((((d+1:Nat):Int)-1)%4294967296).toNat=d:=by omega
 have hsl:=JZ (d:=d) (by omega)
 unfold Md.dist
 rw[e0]
 simp only
 rw[xQ _ _ _ _ (by omega)]
 by_cases h4:d<4
 ·rw[show jq d=d by unfold jq;rw[if_pos h4],if_pos h4]
 ·obtain⟨n,q,hn,hq,n1,n30,q2,q3,hs⟩:=Yf (d:=d) (by omega) (by omega)
  rw[if_neg (by omega),hn]
  have hm:2+jq d%2=q:=by omega
  rw[hm]
  have hdm:=Nat.div_add_mod d (2^n)
  rw[hq,Nat.mul_comm]at hdm
  by_cases RZ:jq d<14
  ·rw[if_pos RZ]
   simp only
   rw[QX]
   omega
  ·rw[if_neg RZ]
   simp only
   have e1: ∀(s:(aj g).σ) (v m:Nat),((aj g).plain s v m).1=v:=fun _ _ _=>rfl
   rw[e1,QX]
   have hV:d/16%2^(n-4)<2^(n-4):=Nat.mod_lt _ (Nat.pow_pos (by decide))
   rw[Nat.mod_eq_of_lt hV]
   have e2:d%2^n=d/16%2^(n-4)*16+d%2^4:=by
    have e3:2^n=16*2^(n-4):=by
     rw[show(16:Nat)=2^4 from rfl,←Nat.pow_add,show 4+(n-4)=n by omega]
    have h:=Nat.div_add_mod (d%2^n) 16
    rw[e3,Nat.mod_mul_right_div_self,Nat.mod_mul_right_mod]at h
    rw[e3]
    omega
   omega
theorem GI(g T like v:Nat): ∀n m al (x:(aj g).S),(Md.jA (aj g) T like (v:Nat) n m al x).1=m*2^n+v%2^n
 | 0,m,al,x=>by unfold Md.jA;simp;omega
 | n+1,m,al,x=>by
  unfold Md.jA
  rw[GI g T like v n]
  have e: ∀i (x:(aj g).S),((aj g).au i (Md.aG (v:Nat) n) x).1=Md.aG (v:Nat) n:=fun _ _=>rfl
  rw[e,zn,Nat.mod_pow_succ,Nat.pow_succ,Nat.add_mul]
  generalize v/2^n%2=B
  rw[Nat.mul_comm 2 m,Nat.mul_assoc,Nat.mul_comm 2 (2^n),Nat.mul_comm B]
  omega
theorem abR(g lc lp st:Nat)(a:Int)(H:List UInt8)(b:UInt8)(x:(aj g).S):(Md.lit (aj g) lc lp st a H (b.toNat:Nat) x).1=b:=by
 unfold Md.lit
 simp only
 rw[GI]
 have hb:=b.toNat_lt
 apply UInt8.toNat_inj.1
 rw[UInt8.toNat_ofNat']
 omega
theorem RE.drewN{C base h N:Nat}{lc lp pb st:Int}{r:R4}{x:(Nat→Nat)×Rc.St}{Y:List Nat}{w:World}(hM:RE w C base h N lc lp pb st r x Y)(n:Nat):RE (w.drewN n) C base h N lc lp pb st r x Y:=by
 obtain⟨Pl,vR,gR,gP,OI,o,cap,hC,hgR,hE,hPl,hP,hY⟩:=hM.ex
 exact⟨⟨Pl,vR,gR,gP,OI,o,cap,⟨hC.box,hC.rZ,hC.ps⟩,hgR,⟨hE.blk,hE.own,hE.ne⟩,hPl,hP,hY⟩,hM.fair⟩
theorem TB(g st q:Nat)(hq:q≤3)(x:(aj g).S):(Md.which (aj g) st (q:Nat) x).1=q:=by
 have b0: ∀i b y,((aj g).au i b y).1=b:=fun _ _ _=>rfl
 unfold Md.which
 simp only[b0]
 have h:q=0∨q=1∨q=2∨q=3:=by omega
 rcases h with rfl | rfl | rfl | rfl<;>rfl
theorem Yh(g st p q l:Nat)(hq:q≤3)(h1:1≤l)(h2:q≠0→2≤l)(h3:l≤273)(x:(aj g).S):(Md.ni (aj g) st p (l:Nat) (q:Nat) x).1=(q,l):=by
 have b0: ∀i b y,((aj g).au i b y).1=b:=fun _ _ _=>rfl
 unfold Md.ni
 simp only[TB g st q hq,b0]
 by_cases h0:q=0
 ·rw[if_pos h0]
  by_cases hl:l=1
  ·subst hl
   simp[h0]
  ·have hb:((l:Int) !=1)=true:=by
    simp only[bne_iff_ne,ne_eq]
    omega
   rw[if_neg (by rw[hb];decide)]
   simp only[IL g 946 p l (by omega) h3]
   rw[h0]
 ·rw[if_neg h0]
  simp only[IL g 946 p l (h2 h0) h3]
theorem KT(g lc lp pb st:Nat)(r:R4)(H:List UInt8)(b:UInt8)(l d q:Int)(x:(aj g).S): ∃z,Md.sym (aj g) lc lp pb st r H 0 b l d q x=(⟨0,b,0,0,0⟩,bU st,r,z)∧z=(Md.lit (aj g) lc lp st r.1 H (b.toNat:Nat) ((aj g).au (16*st+H.length%2^pb) false x).2).2:=by
 refine⟨_,?_,rfl⟩
 have b0: ∀i b y,((aj g).au i b y).1=b:=fun _ _ _=>rfl
 unfold Md.sym
 simp only[b0,show((0:Int) !=0)=false from rfl,if_true]
 rw[abR]
theorem FP(g lc lp pb st:Nat)(r:R4)(H:List UInt8)(b:UInt8)(l d:Nat)(q:Int)(h2:2≤l)(h3:l≤273)(h4:1≤d)(h5:d≤4294967295)(x:(aj g).S): ∃z,Md.sym (aj g) lc lp pb st r H 1 b (l:Nat) (d:Nat) q x=(⟨1,0,l,d,0⟩,(if st<7 then 7 else 10),aS r 3 (d:Nat),z)∧z=(Md.dist (aj g) l (d:Nat) (Md.len (aj g) 432 (H.length%2^pb) (l:Nat) ((aj g).au (192+st) false ((aj g).au (16*st+H.length%2^pb) true x).2).2).2).2:=by
 refine⟨_,?_,rfl⟩
 have b0: ∀i b y,((aj g).au i b y).1=b:=fun _ _ _=>rfl
 unfold Md.sym
 simp only[b0,show((1:Int) !=0)=true from rfl,show((1:Int) !=1)=false from rfl,Bool.true_eq_false,if_false,if_true]
 simp only[IL g 432 _ l h2 h3,Yg g l d h4 h5]
theorem IQ(g lc lp pb st:Nat)(r:R4)(H:List UInt8)(b:UInt8)(l q:Nat)(d:Int)(hq:q≤3)(h1:1≤l)(h2:q≠0→2≤l)(h3:l≤273)(x:(aj g).S): ∃z,Md.sym (aj g) lc lp pb st r H 2 b (l:Nat) d (q:Nat) x=(⟨2,0,l,0,q⟩,(if st<7 then(if l=1 then 9 else 8)else 11),aS r q (r4 r.1 r.2.1 r.2.2.1 r.2.2.2 q),z)∧z=(Md.ni (aj g) st (H.length%2^pb) (l:Nat) (q:Nat) ((aj g).au (192+st) true ((aj g).au (16*st+H.length%2^pb) true x).2).2).2:=by
 refine⟨_,?_,rfl⟩
 have b0: ∀i b y,((aj g).au i b y).1=b:=fun _ _ _=>rfl
 unfold Md.sym
 simp only[b0,show((2:Int) !=0)=true from rfl,show((2:Int) !=1)=true from rfl,Bool.true_eq_false,if_false]
 simp only[Yh g st _ q l hq h1 h2 h3]

theorem RE.lt{C base h N:Nat}{lc lp pb st:Int}{r:R4}{x:(Nat→Nat)×Rc.St}{Y:List Nat}{w:World}(hM:RE w C base h N lc lp pb st r x Y): ∀i∈Y,i<w.heap.size:=by
 obtain⟨Pl,vR,gR,gP,OI,o,cap,hC,hgR,hE,hPl,hP,rfl⟩:=hM.ex
 intro i hi
 simp only[List.mem_cons,List.not_mem_nil,or_false]at hi
 rcases hi with rfl | rfl | rfl | rfl | rfl
 ·exact hC.lt
 ·exact(hC.rZ.lt _ hgR).2
 ·exact(hC.ps.lt _ rfl).2
 ·exact(Array.getElem?_eq_some_iff.1 hE.blk).1
 ·obtain⟨cs,hcs⟩:=hE.row
  exact(Array.getElem?_eq_some_iff.1 hcs).1
theorem RE.below{C base h N:Nat}{lc lp pb st:Int}{r:R4}{x:(Nat→Nat)×Rc.St}{Y:List Nat}{w w1:World}(hM:RE w C base h N lc lp pb st r x Y)(hb:Below w.heap.size w w1):RE w1 C base h N lc lp pb st r x Y:=by
 obtain⟨Pl,vR,gR,gP,OI,o,cap,hC,hgR,hE,hPl,hP,hY⟩:=hM.ex
 obtain⟨cs,hcs⟩:=hE.row
 exact⟨⟨Pl,vR,gR,gP,OI,o,cap,hC.below hb,hgR,hE.aip (hb.block _ (Array.getElem?_eq_some_iff.1 hE.blk).1) (hb.block _ (Array.getElem?_eq_some_iff.1 hcs).1),hPl,hP,hY⟩,hM.fair⟩


theorem GK(st:Nat)(l:Int):((bU st:Nat):Int)=stateAfter (st:Nat) 0 l:=by
 unfold bU stateAfter
 rw[if_pos (show(0:Int)=0 from rfl)]
 by_cases h1:st<4
 ·rw[if_pos h1,if_pos (show((st:Nat):Int)<4 by omega)];rfl
 ·rw[if_neg h1,if_neg (show ¬((st:Nat):Int)<4 by omega)]
  by_cases h2:st<10
  ·rw[if_pos h2,if_pos (show((st:Nat):Int)<10 by omega)];omega
  ·rw[if_neg h2,if_neg (show ¬((st:Nat):Int)<10 by omega)];omega
theorem Ae(st:Nat)(l:Int):(((if st<7 then 7 else 10:Nat)):Int)=stateAfter (st:Nat) 1 l:=by
 unfold stateAfter
 rw[if_neg (show ¬(1:Int)=0 by decide),if_pos (show(1:Int)=1 from rfl)]
 by_cases h1:st<7
 ·rw[if_pos h1,if_neg (show ¬(7:Int)≤((st:Nat):Int) by omega)];rfl
 ·rw[if_neg h1,if_pos (show(7:Int)≤((st:Nat):Int) by omega)];rfl
theorem DI(st l:Nat):(((if st<7 then(if l=1 then 9 else 8)else 11:Nat)):Int)=stateAfter (st:Nat) 2 (l:Nat):=by
 unfold stateAfter
 rw[if_neg (show ¬(2:Int)=0 by decide),if_neg (show ¬(2:Int)=1 by decide)]
 by_cases h1:st<7
 ·rw[if_pos h1,if_neg (show ¬(7:Int)≤((st:Nat):Int) by omega)]
  by_cases h:l=1
  ·rw[if_pos h,if_pos (show((l:Nat):Int)=1 by omega)];rfl
  ·rw[if_neg h,if_neg (show ¬((l:Nat):Int)=1 by omega)];rfl
 ·rw[if_neg h1,if_pos (show(7:Int)≤((st:Nat):Int) by omega)];rfl
theorem GL(r:R4)(q:Nat)(hq:q≤3)(d:Int):aS r q (r4 r.1 r.2.1 r.2.2.1 r.2.2.2 q)=jK r 2 d (q:Nat):=by
 obtain⟨a,b,c,e⟩:=r
 have h:q=0∨q=1∨q=2∨q=3:=by omega
 rcases h with rfl | rfl | rfl | rfl<;>rfl

structure KU where
 H:List UInt8
 st:Nat
 r:R4
 x:PS
structure Link(g lc lp pb:Nat)(a:KU)(s:Sy)(b:KU):Prop where
 sym: ∃(k:Int) (c:UInt8) (l d q:Int),Md.sym (aj g) lc lp pb a.st a.r a.H k c l d q a.x=(s,b.st,b.r,b.x)
 k:s.k≤2
 q:s.r≤3
 short:s.l≤273
 pos:s.k≠0→1≤s.l
 hist: ∃bk:Nat,jU a.r (s.k:Nat) (s.d:Nat) (s.r:Nat)=(bk:Int)∧(((s.k:Nat):Int)≠0→1≤bk∧bk≤a.H.length)∧b.H=growS a.H (s.k:Nat) s.b s.l bk
 st:((b.st:Nat):Int)=stateAfter (a.st:Nat) (s.k:Nat) (s.l:Nat)
 r:b.r=jK a.r (s.k:Nat) (s.d:Nat) (s.r:Nat)
 ok:b.x.2.ok
theorem OJ(H:List UInt8)(b:UInt8)(l l' back back':Nat):growS H 0 b l back=growS H 0 b l' back':=by
 unfold growS
 rw[if_pos rfl,if_pos rfl]
theorem KW{k:Int}(hk:k≠0)(H:List UInt8)(b b':UInt8)(l back:Nat):growS H k b l back=growS H k b' l back:=by
 unfold growS
 rw[if_neg hk,if_neg hk]
theorem GN{g lc lp pb:Nat}{a:KU}{k:Int}{b:UInt8}{l d q:Int}(hr:eP a.r)(hf:kC a.r (a.H.length:Int) k l d q=true):
  ∃s st' r' z,Md.sym (aj g) lc lp pb a.st a.r a.H k b l d q a.x=(s,st',r',z)∧r'=jK a.r k d q∧((st':Nat):Int)=stateAfter (a.st:Nat) k l∧s.val=Xq k b l d q∧ ∀bk:Nat,jU a.r k d q=(bk:Int)→z.2.ok→Link g lc lp pb a s ⟨growS a.H k b l.toNat bk,st',r',z⟩:=by
 have hr1: ∀q:Nat,q≤3→1≤QN a.r (q:Nat):=by
  intro q hq
  obtain⟨⟨a1,a2,a3,a4⟩,_⟩:=hr
  unfold QN
  rcases(by omega:q=0∨q=1∨q=2∨q=3)with rfl | rfl | rfl | rfl
  ·exact a1
  ·exact a2
  ·exact a3
  ·exact a4
 rcases sD hf with rfl | ⟨rfl,h2,h3,h4,h5,h6⟩ | ⟨rfl,h0,h1,h4,h5⟩
 ·obtain⟨z,hz,_⟩:=KT g lc lp pb a.st a.r a.H b l d q a.x
  refine⟨_,_,_,_,hz,rfl,GK a.st l,rfl,fun bk hbk hok=> ?_⟩
  exact⟨⟨0,b,l,d,q,hz⟩,show 0≤2 by decide,show 0≤3 by decide,show 0≤273 by decide,fun h=>absurd rfl h,⟨0,rfl,fun h=>absurd rfl h,OJ a.H b l.toNat 0 bk 0⟩,GK a.st _,rfl,hok⟩
 ·obtain⟨l,rfl⟩: ∃n:Nat,l=n:=⟨l.toNat,by omega⟩
  obtain⟨d,rfl⟩: ∃n:Nat,d=n:=⟨d.toNat,by omega⟩
  obtain⟨z,hz,_⟩:=FP g lc lp pb a.st a.r a.H b l d q (by omega) (by omega) (by omega) (by omega) a.x
  refine⟨_,_,_,_,hz,rfl,Ae a.st l,rfl,fun bk hbk hok=> ?_⟩
  have hd:jU a.r 1 (d:Nat) q=(d:Int):=by unfold jU;rw[if_pos rfl]
  rw[hd]at hbk
  refine⟨⟨1,b,l,d,q,hz⟩,show 1≤2 by decide,show 0≤3 by decide,by show l≤273;omega,fun _=>by show 1≤l;omega,⟨bk,?_,fun _=>by show 1≤bk∧bk≤a.H.length;omega,KW (show(1:Int)≠0 by decide) a.H b 0 l bk⟩,Ae a.st _,rfl,hok⟩
  show jU a.r 1 (d:Nat) 0=(bk:Int)
  unfold jU
  rw[if_pos rfl];exact hbk
 ·obtain⟨l,rfl⟩: ∃n:Nat,l=n:=⟨l.toNat,by omega⟩
  obtain⟨q,rfl⟩: ∃n:Nat,q=n:=⟨q.toNat,by omega⟩
  obtain⟨z,hz,_⟩:=IQ g lc lp pb a.st a.r a.H b l q d (by omega) (by omega) (by omega) (by omega) a.x
  refine⟨_,_,_,_,hz,GL a.r q (by omega) d,DI a.st l,rfl,fun bk hbk hok=> ?_⟩
  have hd:jU a.r 2 d (q:Nat)=QN a.r (q:Nat):=by unfold jU;rw[if_neg (by decide),if_pos rfl]
  rw[hd]at hbk
  have h1':=hr1 q (by omega)
  refine⟨⟨2,b,l,d,q,hz⟩,show 2≤2 by decide,by show q≤3;omega,by show l≤273;omega,fun _=>by show 1≤l;omega,⟨bk,?_,fun _=>by show 1≤bk∧bk≤a.H.length;omega,KW (show(2:Int)≠0 by decide) a.H b 0 l bk⟩,DI a.st l,GL a.r q (by omega) _,hok⟩
  show jU a.r 2 0 (q:Nat)=(bk:Int)
  unfold jU
  rw[if_neg (by decide),if_pos rfl];exact hbk
def Chain(g lc lp pb:Nat)(ss:List Sy)(M:Nat→KU):Prop:= ∀t (h:t<ss.length),Link g lc lp pb (M t) ss[t] (M (t+1))
theorem Chain.snoc{g lc lp pb:Nat}{ss:List Sy}{M:Nat→KU}{s:Sy}{b:KU}(h:Chain g lc lp pb ss M)(hl:Link g lc lp pb (M ss.length) s b):Chain g lc lp pb (ss++[s]) (fun t=>if t≤ss.length then M t else b)∧(if(ss++[s]).length≤ss.length then M (ss++[s]).length else b)=b:=by
 refine⟨fun t ht=> ?_,if_neg (by simp)⟩
 have ht':t<ss.length+1:=by simpa using ht
 show Link g lc lp pb (if t≤ss.length then M t else b) (ss++[s])[t] (if t+1≤ss.length then M (t+1)else b)
 rw[if_pos (show t≤ss.length by omega)]
 by_cases h1:t<ss.length
 ·rw[if_pos (show t+1≤ss.length by omega),List.getElem_append_left h1]
  exact h t h1
 ·obtain rfl:t=ss.length:=by omega
  rw[if_neg (show ¬ss.length+1≤ss.length by omega)]
  simpa using hl
theorem Link.step{g lc lp pb:Nat}{a b:KU}{s:Sy}(h:Link g lc lp pb a s b)(hf:Fair a.x.1):Fair b.x.1∧Rc.Inside a.x.2 b.x.2:=by
 obtain⟨k,c,l,d,q,hs⟩:=h.sym
 obtain⟨h1,h2⟩:=OH (Dx b.x.2) (by have:=h.ok.2;omega) (by rw[Rc.dJ];exact Nat.le_refl _) g hf hs
 exact⟨h1,h2 (Rc.Inside.refl _)⟩
theorem Chain.fair{g lc lp pb:Nat}{ss:List Sy}{M:Nat→KU}(h:Chain g lc lp pb ss M)(h0:Fair (M 0).x.1): ∀t,t≤ss.length→Fair (M t).x.1
 | 0,_=>h0
 | t+1,ht=>((h t (by omega)).step (h.fair h0 t (by omega))).1
theorem Chain.inside{g lc lp pb:Nat}{ss:List Sy}{M:Nat→KU}(h:Chain g lc lp pb ss M)(h0:Fair (M 0).x.1): ∀n t,t+n=ss.length→Rc.Inside (M t).x.2 (M ss.length).x.2
 | 0,t,e=>by
  have:t=ss.length:=by omega
  subst this;exact Rc.Inside.refl _
 | n+1,t,e=>((h t (by omega)).step (h.fair h0 t (by omega))).2.trans (h.inside h0 n (t+1) (by omega))
theorem Chain.back{g lc lp pb:Nat}{ss:List Sy}{M:Nat→KU}(h:Chain g lc lp pb ss M)(h0:Fair (M 0).x.1)(hok:(M ss.length).x.2.ok){L:List UInt8}(hL:L=Rc.be (5+(M ss.length).x.2.k) (M ss.length).x.2.v)(gd o cap:Nat){t:Nat}(ht:t<ss.length){y:PD}(hs:Yb (M ss.length).x.2 L (M t).x y):
  ∃z':PD,Md.sym (ak gd o cap L) lc lp pb (M t).st (M t).r (M t).H 0 0 0 0 0 y=(ss[t],(M (t+1)).st,(M (t+1)).r,z')∧Yb (M ss.length).x.2 L (M (t+1)).x z':=by
 subst hL
 obtain⟨k,c,l,d,q,hsy⟩:=(h t ht).sym
 exact Yd (Dx _) (by have:=hok.2;omega) (by rw[Rc.dJ];exact Nat.le_refl _) g gd o cap (h.fair h0 t (by omega)) hsy (h.inside h0 (ss.length-(t+1)) (t+1) (by omega)) hs
theorem Yi{S:Rc.St}{L:List UInt8}{P:Nat→Nat}{y:PD}(hL:L=Rc.be (5+S.k) S.v)(h:Yb S L (P,S) y):y.2.done L=true:=by
 subst hL
 have hl:(Rc.be (5+S.k) S.v).length=5+S.k:=Rc.dJ _ _
 have h1:=h.2.1 (by rw[hl];exact Nat.le_refl _)
 have ht:Rc.top S S.k=S.v:=by unfold Rc.top;simp
 rw[ht,Nat.sub_self]at h1
 rw[h1]
 unfold Rd.St.done
 rw[hl];simp

end Go.Proofs.YtgfpocdiojifoaaGreatDoor
