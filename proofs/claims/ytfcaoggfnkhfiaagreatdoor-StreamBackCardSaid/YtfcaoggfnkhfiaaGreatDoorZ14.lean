import Derived.Deep.RegionHeld3
import Derived.Test.YtfcaoggfnkhfiaaGreatDoorZ06
namespace Go.Proofs.YtfcaoggfnkhfiaaGreatDoor
set_option maxRecDepth 100000
set_option maxHeartbeats 8000000
open Go.RowKit Go.Proofs.Tryz
variable{d:Nat}
theorem l7{w:World}{a b:Nat}{ca cb:Array Value}{ta tb:TypeId}{fa fb:Nat×Nat}(ha:w.heap[a]? =some (.cells ca ta fa))(hb:w.heap[b]? =some (.cells cb tb fb))(h:ta≠tb):a≠b:=by intro e;subst e;rw[ha]at hb;injection hb with hb;injection hb with _ hb _;exact h hb
theorem XP(v j:Nat):((v/2^j%2:Nat):Int)=de (Md.aQ (v:Nat) j):=by
 unfold Md.aQ de;have e:((v:Nat):Int)/2^j%2=((v/2^j%2:Nat):Int):=ag;rw[e];by_cases h:v/2^j%2=1;·rw[h];rfl
 ·have h0:v/2^j%2=0:=by omega
  rw[h0];rfl
theorem uF(v j:Nat):(Md.aQ (v:Nat) j).toNat=v/2^j%2:=by
 have h:=XP v j;have h2:de (Md.aQ (v:Nat) j)=((Md.aQ (v:Nat) j).toNat:Int):=by cases Md.aQ (v:Nat) j<;>rfl
 rw[h2]at h;omega
section
section
variable{C base h N:Nat}{lc lp pb st:Nat}{r:R4}{x:(Nat→Nat)×Rc.St}{Y:List Nat}{w:World}
end
end
theorem D4{x:Nat}(h1:2≤x)(h2:x≤3):Lib.bitLen x=2:=by rcases(by omega:x=2∨x=3)with rfl | rfl<;>decide
theorem XQ{n:Nat}(h2:2≤d/2^n)(h3:d/2^n≤3)(hd:d<4294967296)(hn:1≤n):gr d=2*n+d/2^n∧4≤d:=by
 have hp:2≤2^n:=by have:2^1≤2^n:=Nat.pow_le_pow_right aa hn;omega
 have hle:2*2^n≤d:=(Nat.le_div_iff_mul_le aa).1 h2;have h4:4≤d:=aa;have hb:Lib.bitLen d=n+2:=by rw[Lib.bitLen_shift n d aa aa,D4 h2 h3]
 refine⟨?_,h4⟩;unfold gr;rw[if_neg aa,hb,Nat.add_sub_cancel];omega
theorem yR(g at_ v:Nat): ∀n m (x:(aj g).S),(Md.cW (aj g) at_ (v:Nat) n m x).1=m*2^n+v%2^n
 | 0,m,x=>by unfold Md.cW;simp;omega
 | n+1,m,x=>by unfold Md.cW;rw[yR g at_ v n];have e:((aj g).au (at_+m) (Md.aQ (v:Nat) n) x).1=Md.aQ (v:Nat) n:=rfl;rw[e,uF,Nat.mod_pow_succ,Nat.pow_succ,Nat.add_mul];generalize v/2^n%2=B;rw[Nat.mul_comm 2 m,Nat.mul_assoc,Nat.mul_comm 2 (2^n),Nat.mul_comm B];omega
theorem sX(g at_ v n:Nat)(hv:v<2^n)(x:(aj g).S):(Md.tree (aj g) at_ n (v:Nat) x).1=v:=by unfold Md.tree;rw[yR,Nat.mod_eq_of_lt hv];simp
theorem Cp(g at_ v:Nat): ∀k i m q (x:(aj g).S),(Md.gq (aj g) at_ (v:Nat) k i m q x).1=q+v/2^i%2^k*2^i
 | 0,i,m,q,x=>by unfold Md.gq;simp[Nat.mod_one]
 | k+1,i,m,q,x=>by
  unfold Md.gq;rw[Cp g at_ v k];have e:((aj g).au (at_+m) (Md.aQ (v:Nat) i) x).1=Md.aQ (v:Nat) i:=rfl;rw[e,uF];have e2:v/2^(i+1)=v/2^i/2:=by rw[Nat.div_div_eq_div_mul,←Nat.pow_succ]
  rw[e2];generalize v/2^i=u;have e3:u%2^(k+1)=u%2+2*(u/2%2^k):=by have h:=Nat.div_add_mod (u%2^(k+1)) 2;rw[Nat.pow_succ,Nat.mul_comm (2^k) 2]at h ⊢;rw[Nat.mod_mul_right_div_self,Nat.mod_mul_right_mod]at h;omega
  rw[e3,Nat.add_mul,Nat.pow_succ];generalize 2^i=P;generalize u/2%2^k=W;generalize u%2=B;rw[Nat.mul_comm P 2,←Nat.mul_assoc W 2 P,Nat.mul_comm W 2];omega
theorem L4(g at_ v n:Nat)(x:(aj g).S):(Md.rev (aj g) at_ n (v:Nat) x).1=v%2^n:=by unfold Md.rev;rw[Cp];simp
theorem D5(g A p l:Nat)(h2:2≤l)(h3:l≤273)(x:(aj g).S):(Md.len (aj g) A p (l:Nat) x).1=l:=by
 obtain⟨n,rfl⟩: ∃n,l=n+2:=⟨l-2,aa⟩
 have e0:((n+2:Nat):Int)-2=(n:Int):=aa;unfold Md.len;simp only[e0];have b1:((aj g).au A (decide ((8:Int)≤(n:Int))) x).1=decide ((8:Int)≤(n:Int)):=rfl;rw[b1];by_cases h8:8≤n
 ·rw[show decide ((8:Int)≤(n:Int))=true from decide_eq_true aa];simp only[Bool.true_eq_false,if_false];by_cases h16:16≤n;·rw[show decide ((16:Int)≤(n:Int))=true from decide_eq_true aa];have b2:((aj g).au (A+1) true ((aj g).au A true x).2).1=true:=rfl;rw[b2];simp only[Bool.true_eq_false,if_false];rw[show(n:Int)-16=((n-16:Nat):Int) by omega,sX _ _ _ _ aa];omega
  ·rw[show decide ((16:Int)≤(n:Int))=false from decide_eq_false aa];have b2:((aj g).au (A+1) false ((aj g).au A true x).2).1=false:=rfl;rw[b2];simp only[if_true];rw[show(n:Int)-8=((n-8:Nat):Int) by omega,sX _ _ _ _ aa];omega
 ·rw[show decide ((8:Int)≤(n:Int))=false from decide_eq_false aa];simp only[if_true];rw[sX _ _ _ _ aa];omega

theorem af2: ∀(d:Nat),4≤d→ ∃n,1≤n∧2≤d/2^n∧d/2^n≤3:=by
 intro d;induction d using Nat.strongRecOn with
 | ind d ih=>
  intro h;by_cases h3:d/2≤3;·exact⟨1,aa,av,av⟩
  ·obtain⟨n,h1,h2,h4⟩:=ih (d/2) aa aa;refine⟨n+1,aa,?_,?_⟩;·rw[Nat.pow_succ,Nat.mul_comm,←Nat.div_div_eq_div_mul];exact h2
   ·rw[Nat.pow_succ,Nat.mul_comm,←Nat.div_div_eq_div_mul];exact h4
theorem SN(h4:4≤d)(hd:d<4294967296): ∃n q,gr d/2-1=n∧d/2^n=q∧1≤n∧n≤30∧2≤q∧q≤3∧gr d=2*n+q:=by obtain⟨n,h1,h2,h3⟩:=af2 d h4;obtain⟨hs,_⟩:=XQ h2 h3 hd h1;have hn:gr d/2-1=n:=aa;have:=FA hd;exact⟨n,_,hn,rfl,h1,aa,h2,h3,hs⟩
theorem SP(g l dd:Nat)(h1:1≤dd)(h2:dd≤4294967295)(x:(aj g).S):(Md.bM (aj g) l (dd:Nat) x).1=dd:=by
 obtain⟨d,rfl⟩: ∃d,dd=d+1:=⟨dd-1,aa⟩
 have e0:((((d+1:Nat):Int)-1)%4294967296).toNat=d:=aa;have qJ:=FA (d:=d) aa;unfold Md.bM;rw[e0];simp only;rw[sX _ _ _ _ aa];by_cases h4:d<4;·rw[show gr d=d by unfold gr;rw[if_pos h4],if_pos h4]
 ·obtain⟨n,q,hn,hq,n1,n30,q2,q3,hs⟩:=SN (d:=d) aa aa;rw[if_neg aa,hn];have hm:2+gr d%2=q:=aa;rw[hm];have hdm:=Nat.div_add_mod d (2^n);rw[hq,Nat.mul_comm]at hdm;by_cases MY:gr d<14;·rw[if_pos MY];simp only;rw[L4];omega
  ·rw[if_neg MY];simp only;have e1: ∀(s:(aj g).σ) (v m:Nat),((aj g).plain s v m).1=v:=fun _ _ _=>rfl;rw[e1,L4];have hV:d/16%2^(n-4)<2^(n-4):=Nat.mod_lt _ (Nat.pow_pos ak);rw[Nat.mod_eq_of_lt hV];have e2:d%2^n=d/16%2^(n-4)*16+d%2^4:=(by have e3:2^n=16*2^(n-4):=(by rw[show(16:Nat)=2^4 from rfl,←Nat.pow_add,show 4+(n-4)=n by omega]);have h:=Nat.div_add_mod (d%2^n) 16;rw[e3,Nat.mod_mul_right_div_self,Nat.mod_mul_right_mod]at h;rw[e3];omega);omega
theorem Cq(g T like v:Nat): ∀n m al (x:(aj g).S),(Md.gJ (aj g) T like (v:Nat) n m al x).1=m*2^n+v%2^n
 | 0,m,al,x=>by unfold Md.gJ;simp;omega
 | n+1,m,al,x=>by unfold Md.gJ;rw[Cq g T like v n];have e: ∀i (x:(aj g).S),((aj g).au i (Md.aQ (v:Nat) n) x).1=Md.aQ (v:Nat) n:=fun _ _=>rfl;rw[e,uF,Nat.mod_pow_succ,Nat.pow_succ,Nat.add_mul];generalize v/2^n%2=B;rw[Nat.mul_comm 2 m,Nat.mul_assoc,Nat.mul_comm 2 (2^n),Nat.mul_comm B];omega
theorem XR(g lc lp st:Nat)(a:Int)(H:List UInt8)(b:UInt8)(x:(aj g).S):(Md.lit (aj g) lc lp st a H (b.toNat:Nat) x).1=b:=by unfold Md.lit;simp only;rw[Cq];have hb:=b.toNat_lt;apply UInt8.toNat_inj.1;rw[UInt8.toNat_ofNat'];omega
theorem NQ(g st q:Nat)(hq:q≤3)(x:(aj g).S):(Md.which (aj g) st (q:Nat) x).1=q:=by have b0: ∀i b y,((aj g).au i b y).1=b:=fun _ _ _=>rfl;unfold Md.which;simp only[b0];have h:q=0∨q=1∨q=2∨q=3:=aa;rcases h with rfl | rfl | rfl | rfl<;>rfl
theorem SQ(g st p q l:Nat)(hq:q≤3)(h1:1≤l)(h2:q≠0→2≤l)(h3:l≤273)(x:(aj g).S):(Md.kP (aj g) st p (l:Nat) (q:Nat) x).1=(q,l):=by
 have b0: ∀i b y,((aj g).au i b y).1=b:=fun _ _ _=>rfl;unfold Md.kP;simp only[NQ g st q hq,b0];by_cases h0:q=0
 ·rw[if_pos h0];by_cases hl:l=1;·subst hl;simp[h0]
  ·have hb:((l:Int) !=1)=true:=(by simp only[bne_iff_ne,ne_eq];omega);rw[if_neg (by rw[hb];decide)];simp only[D5 g 946 p l aa h3];rw[h0]
 ·rw[if_neg h0];simp only[D5 g 946 p l (h2 h0) h3]
theorem Gh(g lc lp pb st:Nat)(r:R4)(H:List UInt8)(b:UInt8)(l d q:Int)(x:(aj g).S): ∃z,Md.sym (aj g) lc lp pb st r H 0 b l d q x=(⟨0,b,0,0,0⟩,bW st,r,z)∧z=(Md.lit (aj g) lc lp st r.1 H (b.toNat:Nat) ((aj g).au (16*st+H.length%2^pb) false x).2).2:=by refine⟨_,?_,rfl⟩;have b0: ∀i b y,((aj g).au i b y).1=b:=fun _ _ _=>rfl;unfold Md.sym;simp only[b0,show((0:Int) !=0)=false from rfl,if_true];rw[XR]
theorem Bo(g lc lp pb st:Nat)(r:R4)(H:List UInt8)(b:UInt8)(l d:Nat)(q:Int)(h2:2≤l)(h3:l≤273)(h4:1≤d)(h5:d≤4294967295)(x:(aj g).S): ∃z,Md.sym (aj g) lc lp pb st r H 1 b (l:Nat) (d:Nat) q x=(⟨1,0,l,d,0⟩,(if st<7 then 7 else 10),aY r 3 (d:Nat),z)∧z=(Md.bM (aj g) l (d:Nat) (Md.len (aj g) 432 (H.length%2^pb) (l:Nat) ((aj g).au (192+st) false ((aj g).au (16*st+H.length%2^pb) true x).2).2).2).2:=by refine⟨_,?_,rfl⟩;have b0: ∀i b y,((aj g).au i b y).1=b:=fun _ _ _=>rfl;unfold Md.sym;simp only[b0,show((1:Int) !=0)=true from rfl,show((1:Int) !=1)=false from rfl,Bool.true_eq_false,if_false,if_true];simp only[D5 g 432 _ l h2 h3,SP g l d h4 h5]
theorem D6(g lc lp pb st:Nat)(r:R4)(H:List UInt8)(b:UInt8)(l q:Nat)(d:Int)(hq:q≤3)(h1:1≤l)(h2:q≠0→2≤l)(h3:l≤273)(x:(aj g).S): ∃z,Md.sym (aj g) lc lp pb st r H 2 b (l:Nat) d (q:Nat) x=(⟨2,0,l,0,q⟩,(if st<7 then(if l=1 then 9 else 8)else 11),aY r q (r4 r.1 r.2.1 r.2.2.1 r.2.2.2 q),z)∧z=(Md.kP (aj g) st (H.length%2^pb) (l:Nat) (q:Nat) ((aj g).au (192+st) true ((aj g).au (16*st+H.length%2^pb) true x).2).2).2:=by refine⟨_,?_,rfl⟩;have b0: ∀i b y,((aj g).au i b y).1=b:=fun _ _ _=>rfl;unfold Md.sym;simp only[b0,show((2:Int) !=0)=true from rfl,show((2:Int) !=1)=true from rfl,Bool.true_eq_false,if_false];simp only[SQ g st _ q l hq h1 h2 h3]




end Go.Proofs.YtfcaoggfnkhfiaaGreatDoor
