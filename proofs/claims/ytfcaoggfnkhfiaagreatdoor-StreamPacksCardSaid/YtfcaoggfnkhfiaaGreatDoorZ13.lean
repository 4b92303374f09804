import Derived.Test.YtfcaoggfnkhfiaaGreatDoorZ05
import Derived.Deep.RegionHeld3
import Derived.Laws.BitsAllLaws
import Derived.Test.YtfcaoggfnkhfiaaGreatDoorRows
import Derived.WalkKit
import Derived.WalkSpells
import Derived.WalkLawsBesides
import Derived.Lib.Hide
import Derived.Deep.QuietTactic
import Derived.BigQuiet
import Derived.Deep.OwnRows
import Derived.Deep.WholeRow
import Derived.Deep.MidRow
import Derived.Laws.CopyOwn
import Derived.MapKept
namespace Go.Proofs.YtfcaoggfnkhfiaaGreatDoor
set_option maxRecDepth 100000
set_option maxHeartbeats 8000000
open Go.RowKit Go.Proofs.Tryz
variable{cs:Array Value}{a a':Int}{g j k n:Nat}{fr:Nat×Nat}{t:TypeId}{w:Lo}
def f6(a b:Int):Int:=a*b/18446744073709551616
def lS(a b:Int):Int:=a*b%18446744073709551616
theorem wA(a b:Int)(ha:0<=a)(hb:0<=b)(aK:b<18446744073709551616):0<=f6 a b/\f6 a b<=a:=by unfold f6;have h0:0<=a*b:=Int.mul_nonneg ha hb;have h1:a*b<=a*18446744073709551616:=Int.mul_le_mul_of_nonneg_left aa ha;exact⟨Int.ediv_nonneg h0 aa,aa⟩
theorem wB(a b:Int):0<=lS a b/\lS a b<18446744073709551616:=by unfold lS;omega
def sq(n:Int):Nat->Int
 | 0=>0
 | k+1=>if f6 (sq n k+2^(36-k)) (sq n k+2^(36-k))<n then sq n k+2^(36-k)else sq n k
def ES(y:Int):Int:=(lS (f6 y y) y+f6 (lS y y) y)%18446744073709551616
def GQ(y:Int):Int:=if ES y<lS (f6 y y) y then f6 (f6 y y) y+1 else f6 (f6 y y) y
def cb(n:Int):Nat->Int
 | 0=>0
 | k+1=>if GQ (cb n k+2^(35-k))=0/\ES (cb n k+2^(35-k))/4294967296<n then cb n k+2^(35-k)else cb n k
theorem rU(m k:Nat)(h:k<m):(2:Int)^(m-k)=2*2^(m-(k+1)):=by
 obtain⟨d,rfl⟩: ∃d,m=k+1+d:=⟨m-(k+1),aa⟩
 rw[show k+1+d-k=d+1 by omega,show k+1+d-(k+1)=d by omega,Int.pow_succ,Int.mul_comm]
theorem pow_pos(m:Nat):(0:Int)<2^m:=Int.pow_pos ar
theorem acs(n:Int): ∀k,k<=37->0<=sq n k/\sq n k+2^(37-k)<=2^37
 | 0,_=>by simp[sq]
 | k+1,hk=>by obtain⟨h0,h1⟩:=acs n k aa;rw[rU 37 k aa]at h1;have hp:=pow_pos (37-(k+1));have e:(36-k:Nat)=37-(k+1):=aa;simp only[sq,e];generalize(2:Int)^(37-(k+1))=B at*;split<;>constructor<;>omega
theorem act(n:Int): ∀k,k<=36->0<=cb n k/\cb n k+2^(36-k)<=2^36
 | 0,_=>by simp[cb]
 | k+1,hk=>by obtain⟨h0,h1⟩:=act n k aa;rw[rU 36 k aa]at h1;have hp:=pow_pos (36-(k+1));have e:(35-k:Nat)=36-(k+1):=aa;simp only[cb,e];generalize(2:Int)^(36-(k+1))=B at*;split<;>constructor<;>omega
def aD(m k:Nat):Int:=if k<=m then 2^(m-k)else 0
theorem CE(m k:Nat)(h:k<=m):aD m k/2=aD m (k+1):=by
 unfold aD;rw[ax h];by_cases h2:k+1<=m;·rw[ax h2,rU m k aa];omega
 ·have:m-k=0:=by omega
  rw[au h2,this];rfl
def ET(l:List Nat)(n:Nat):List Nat:=if l.all (λp=>n%p !=0)then l++[n]else l
def dW:Nat->List Nat
 | 0=>[]
 | k+1=>ET (dW k) (k+2)
theorem NB(k:Nat):(dW k).length<=(dW (k+1)).length:=by simp only[dW,ET];split<;>simp
theorem Xt{m:Nat}(h:k<=m):(dW k).length<=(dW m).length:=by
 induction h with
 | refl=>exact aF _
 | step _ ih=>exact a8 ih (NB _)
theorem sR: ∀k,∀p∈dW k,2<=p/\p<=k+1
 | 0,p,h=>by simp[dW]at h
 | k+1,p,h=>by
  simp only[dW,ET]at h;split at h
  ·rw[List.mem_append]at h;rcases h with h|h;·have:=sR k p h;omega
   ·simp at h;omega
  ·have:=sR k p h;omega
theorem CF:(dW 309).length=63/\(dW 310).length=64:=m9
def lB:List Int:=((dW 310).take 8).map fun(p:Nat)=>sq (p:Int) 37%4294967296
def nV:List Int:=(dW 310).map fun(p:Nat)=>cb (p:Int) 36%4294967296
theorem EU:lB=[1779033703,3144134277,1013904242,2773480762,1359893119,2600822924,528734635,1541459225]:=m9
theorem EV:nV=Bx.map λx=>(x.toNat:Int):=m9
theorem Sm(a0 a1 b0 b1 p q r s:Int)(hp:a0*b0=p)(hq:a1*b0=q)(hr:a0*b1=r)(hs:a1*b1=s):(a1*4294967296+a0)*(b1*4294967296+b0)=s*18446744073709551616+(q+r)*4294967296+p:=by
 subst hp hq hr hs;rw[Int.add_mul,Int.mul_add,Int.mul_add];have e1:a1*4294967296*(b1*4294967296)=a1*b1*18446744073709551616:=by rw[Int.mul_assoc,Int.mul_left_comm 4294967296 b1,<-Int.mul_assoc];rfl
 have e2:a1*4294967296*b0=a1*b0*4294967296:=by rw[Int.mul_assoc,Int.mul_comm 4294967296 b0,<-Int.mul_assoc]
 have e3:a0*(b1*4294967296)=a0*b1*4294967296:=by rw[<-Int.mul_assoc]
 rw[e1,e2,e3,Int.add_mul];omega
theorem Au(a b:Int)(ha:0<=a)(ha2:a<4294967296)(hb:0<=b)(aK:b<4294967296):0<=a*b/\a*b<=18446744065119617025:=by refine⟨Int.mul_nonneg ha hb,?_⟩;have h1:a*b<=4294967295*b:=Int.mul_le_mul_of_nonneg_right aa hb;omega
theorem Xu{k k':IntKind}{b b':Int}(h1:a=a')(h2:b=b'):Ending.returned (.tuple #[.int k a,.int k' b])= .returned (.tuple #[.int k a',.int k' b']):=by rw[h1,h2]
theorem Kl{k:IntKind}(h1:a=a'):Ending.returned (.int k a)= .returned (.int k a'):=by rw[h1]
theorem Av(a b:Int)(ha:0<=a)(ha2:a<18446744073709551616)(hb:0<=b)(aK:b<18446744073709551616)(w:Lo):
  Calls prog 214 #[.int .u64 a,.int .u64 b] w λe w'=>e= .returned (.tuple #[.int .u64 (f6 a b),.int .u64 (lS a b)])/\w=w':=by
 obtain⟨a0,h1⟩: ∃x,a%4294967296=x:=⟨_,rfl⟩
 obtain⟨a1,h2⟩: ∃x,a/4294967296=x:=⟨_,rfl⟩
 obtain⟨b0,h3⟩: ∃x,b%4294967296=x:=⟨_,rfl⟩
 obtain⟨b1,h4⟩: ∃x,b/4294967296=x:=⟨_,rfl⟩
 have d1:0<=a0/\a0<4294967296:=aa;have d2:0<=a1/\a1<4294967296:=aa;have d3:0<=b0/\b0<4294967296:=aa;have d4:0<=b1/\b1<4294967296:=aa;have ep:=Au a0 b0 d1.1 d1.2 d3.1 d3.2;have eq:=Au a1 b0 d2.1 d2.2 d3.1 d3.2;have er:=Au a0 b1 d1.1 d1.2 d4.1 d4.2;have es:=Au a1 b1 d2.1 d2.2 d4.1 d4.2;obtain⟨p,hp⟩: ∃x,a0*b0=x:=⟨_,rfl⟩
 obtain⟨q,hq⟩: ∃x,a1*b0=x:=⟨_,rfl⟩
 obtain⟨r,hr⟩: ∃x,a0*b1=x:=⟨_,rfl⟩
 obtain⟨s,hs⟩: ∃x,a1*b1=x:=⟨_,rfl⟩
 have hm:=Sm a0 a1 b0 b1 p q r s hp hq hr hs;rw[hp]at ep;rw[hq]at eq;rw[hr]at er;rw[hs]at es;have ea:a1*4294967296+a0=a:=aa;have eb:b1*4294967296+b0=b:=aa;rw[ea,eb]at hm;have Ll:f6 a b=s+q/4294967296+r/4294967296+(p/4294967296+q%4294967296+r%4294967296)/4294967296:=by unfold f6;rw[hm];omega
 have yr:lS a b=(p/4294967296+q%4294967296+r%4294967296)%4294967296*4294967296+p%4294967296:=by unfold lS;rw[hm];omega
 rw[Ll,yr];obtain⟨p0,p1⟩:=ep;obtain⟨q0,q1⟩:=eq;obtain⟨r0,r1⟩:=er;obtain⟨s0,s1⟩:=es;clear hm ea eb Ll yr d1 d2 d3 d4;go_enter func214,ntmps214;go_wp2;go_ret2;exact⟨Xu aa aa,rfl⟩
theorem NC(n:Int)(hn:0<=n)(yv:n<18446744073709551616)(w:Lo):Calls prog 175 #[.int .u64 n] w λe w'=>e= .returned (.int .u32 (sq n 37%4294967296))/\w=w':=by
 go_enter func175,ntmps175;go_wp2_with fail;go_loop [3,4] (λx b=> ∃k:Nat,k<=37/\x= .int .u64 (sq n k)/\b= .int .u64 (aD 36 k)) (λ_ b=>(intOf b).toNat);·exact⟨0,aa,rfl,rfl⟩
 ·
  obtain⟨k,hk,rfl,rfl⟩:=hrel;obtain⟨x0,x1⟩:=acs n k hk;by_cases aV:k<37
  ·have hb:aD 36 k=2^(36-k):=(by unfold aD;rw[ax aa]);have sY:=pow_pos (36-k);rw[rU 37 k aV,show 37-(k+1)=36-k by omega]at x1;have hS:sq n (k+1)=if f6 (sq n k+2^(36-k)) (sq n k+2^(36-k))<n then sq n k+2^(36-k)else sq n k:=rfl;have iU:=CE 36 k aa;have mr:aD 36 (k+1)<aD 36 k:=(by rw[<-iU,hb];omega);rw[hb]at iU mr ⊢;generalize(2:Int)^(36-k)=B at*;obtain⟨B2,fq⟩: ∃x,aD 36 (k+1)=x:=⟨_,rfl⟩
   rw[fq]at iU mr;have dG:=ae fq;clear fq;have x2:sq n k+2*B<=137438953472:=(by simpa using x1);clear x1 hb;generalize sq n k=x at*;have hh:=wA (x+B) (x+B) aa aa aa;have hl:=wB (x+B) (x+B);have HM:=ae (λw=>Av (x+B) (x+B) aa aa aa aa w);have HS:=ae hS;have ia:=ae iU;clear hS iU;generalize f6 (x+B) (x+B)=hi at*;generalize lS (x+B) (x+B)=lo at*;obtain⟨hh0,TN⟩:=hh;obtain⟨IR,zq⟩:=hl;have fq:B/2=B2:=ia.out;by_cases hc:hi<n
   ·clear fq;go_wp2_with ((with_reducible refine(HM.out _).mono ?_);rintro e w' ⟨rfl,rfl⟩)
    go_round;case rel=>exact⟨k+1,aa,by rw[HS.out,ax hc],sr⟩
    case measure=>simp[intOf];omega
   ·clear fq;go_wp2_with ((with_reducible refine(HM.out _).mono ?_);rintro e w' ⟨rfl,rfl⟩)
    go_round;case rel=>exact⟨k+1,aa,by rw[HS.out,au aa],sr⟩
    case measure=>simp[intOf];omega
  ·obtain rfl:k=37:=(by omega);have hb:aD 36 37=0:=rfl;rw[hb];simp only[lJ]at x1;have x2:sq n 37<137438953472:=(by have:(2:Int)^37=137438953472:=ar;have:(2:Int)^0=1:=ar;omega);clear x1;generalize hx:sq n 37=x at*;have HX:=ae hx;clear hx;go_wp2;go_ret;exact⟨Kl kN,rfl⟩
theorem Xv(n:Int)(w:Lo):Calls prog 176 #[.int .u64 n] w λe w'=>e= .returned (.int .u32 (cb n 36%4294967296))/\w=w':=by
 go_enter func176,ntmps176;go_wp2_with fail;go_loop [3,4] (λx b=> ∃k:Nat,k<=36/\x= .int .u64 (cb n k)/\b= .int .u64 (aD 35 k)) (λ_ b=>(intOf b).toNat);·exact⟨0,aa,rfl,rfl⟩
 ·
  obtain⟨k,hk,rfl,rfl⟩:=hrel;obtain⟨x0,x1⟩:=act n k hk;by_cases aV:k<36
  ·have hb:aD 35 k=2^(35-k):=(by unfold aD;rw[ax aa]);have sY:=pow_pos (35-k);rw[rU 36 k aV,show 36-(k+1)=35-k by omega]at x1;have hS:cb n (k+1)=if GQ (cb n k+2^(35-k))=0/\ES (cb n k+2^(35-k))/4294967296<n then cb n k+2^(35-k)else cb n k:=rfl;have iU:=CE 35 k aa;have mr:aD 35 (k+1)<aD 35 k:=(by rw[<-iU,hb];omega);rw[hb]at iU mr ⊢;generalize(2:Int)^(35-k)=B at*;obtain⟨B2,fq⟩: ∃x,aD 35 (k+1)=x:=⟨_,rfl⟩
   rw[fq]at iU mr;have dG:=ae fq;clear fq;have x2:cb n k+2*B<=68719476736:=(by simpa using x1);clear x1 hb;generalize cb n k=x at*;have hH:GQ (x+B)=if ES (x+B)<lS (f6 (x+B) (x+B)) (x+B)then f6 (f6 (x+B) (x+B)) (x+B)+1 else f6 (f6 (x+B) (x+B)) (x+B):=rfl;have hU:ES (x+B)=(lS (f6 (x+B) (x+B)) (x+B)+f6 (lS (x+B) (x+B)) (x+B))%18446744073709551616:=rfl;have h1:=wA (x+B) (x+B) aa aa aa;have h2:=wB (x+B) (x+B);have mT:=ae (λw=>Av (x+B) (x+B) aa aa aa aa w);generalize f6 (x+B) (x+B)=hi at*;generalize lS (x+B) (x+B)=lo at*;have h3:=wA hi (x+B) aa aa aa;have h4:=wB hi (x+B);have F1:=ae (λw=>Av hi (x+B) aa aa aa aa w);have h5:=wA lo (x+B) aa aa aa;have h6:=wB lo (x+B);have U7:=ae (λw=>Av lo (x+B) aa aa aa aa w);generalize f6 hi (x+B)=a at*;generalize lS hi (x+B)=b at*;generalize f6 lo (x+B)=c at*;generalize lS lo (x+B)=c' at*;generalize GQ (x+B)=hg at*;have⟨u,hu⟩:=ex (ES (x+B));rw[hu]at hS hH hU;have hub:0<=u/\u<18446744073709551616:=aa;obtain⟨h1a,i_⟩:=h1;obtain⟨h2a,h2b⟩:=h2;obtain⟨h3a,h3b⟩:=h3;obtain⟨h4a,h4b⟩:=h4;obtain⟨h5a,h5b⟩:=h5;obtain⟨h6a,h6b⟩:=h6;obtain⟨u0,u1⟩:=hub;have HS:=ae hS;have ia:=ae iU;have HH:=ae hH;have HU:=ae hU;clear hS iU hH hU hu;have hd:hg=a\/hg=a+1:=(by have:=HH.out;split at this<;>omega);have hu:IntKind.u64.wrap (b+c)=u:=(by rw[IntKind.wrap_u64];exact HU.symm);have fq:B/2=B2:=ia.out;by_cases hc:u<b
   ·have hga:hg=a+1:=(by rw[HH.out,ax hc]);have sE: ¬(hg=0/\u/4294967296<n):=aa;have HR:Hid (cb n (k+1)=x):=ae (by rw[HS.out,au sE]);have Km:a+1≠0:=aa;have ha1:(a+1==0)=false:=(by simpa using Km);have ha2:a≠ -1:=aa;have ha3:(a== -1)=false:=(by simpa using ha2);clear hd hga sE;go_wp2_with (first|((with_reducible refine(mT.out _).mono ?_);rintro e w' ⟨rfl,rfl⟩)|((with_reducible refine(F1.out _).mono ?_);rintro e w' ⟨rfl,rfl⟩)|((with_reducible refine(U7.out _).mono ?_);rintro e w' ⟨rfl,rfl⟩))
    go_round;case rel=>exact⟨k+1,aa,by rw[HR.out],sr⟩
    case measure=>simp[intOf];omega
   ·have hga:hg=a:=(by rw[HH.out,au hc]);by_cases ha:a=0
    ·by_cases hq:u/4294967296<n
     ·have HR:Hid (cb n (k+1)=x+B):=ae (by rw[HS.out,ax aa]);clear hd hga;subst ha;go_wp2_with (first|((with_reducible refine(mT.out _).mono ?_);rintro e w' ⟨rfl,rfl⟩)|((with_reducible refine(F1.out _).mono ?_);rintro e w' ⟨rfl,rfl⟩)|((with_reducible refine(U7.out _).mono ?_);rintro e w' ⟨rfl,rfl⟩))
      go_round;case rel=>exact⟨k+1,aa,by rw[HR.out],sr⟩
      case measure=>simp[intOf];omega
     ·have HR:Hid (cb n (k+1)=x):=ae (by rw[HS.out,au aa]);clear hd hga;subst ha;go_wp2_with (first|((with_reducible refine(mT.out _).mono ?_);rintro e w' ⟨rfl,rfl⟩)|((with_reducible refine(F1.out _).mono ?_);rintro e w' ⟨rfl,rfl⟩)|((with_reducible refine(U7.out _).mono ?_);rintro e w' ⟨rfl,rfl⟩))
      go_round;case rel=>exact⟨k+1,aa,by rw[HR.out],sr⟩
      case measure=>simp[intOf];omega
    ·have HR:Hid (cb n (k+1)=x):=ae (by rw[HS.out,au aa]);have ha1:(a==0)=false:=(by simpa using ha);clear hd hga;go_wp2_with (first|((with_reducible refine(mT.out _).mono ?_);rintro e w' ⟨rfl,rfl⟩)|((with_reducible refine(F1.out _).mono ?_);rintro e w' ⟨rfl,rfl⟩)|((with_reducible refine(U7.out _).mono ?_);rintro e w' ⟨rfl,rfl⟩))
     go_round;case rel=>exact⟨k+1,aa,by rw[HR.out],sr⟩
     case measure=>simp[intOf];omega
  ·obtain rfl:k=36:=(by omega);have hb:aD 35 36=0:=rfl;rw[hb];simp only[lJ]at x1;have x2:cb n 36<68719476736:=(by have:(2:Int)^36=68719476736:=ar;have:(2:Int)^0=1:=ar;omega);clear x1;generalize hx:cb n 36=x at*;have HX:=ae hx;clear hx;go_wp2;go_ret;exact⟨Kl kN,rfl⟩
abbrev U64(n:Nat):Value:= .int .u64 n
theorem aeY:Elem 235 48 (.int .u64 0) 8:=⟨underlying235,ak,rfl⟩
theorem sS:Elem 191 24 (.int .u32 0) 4:=⟨underlying191,ak,rfl⟩
def ND(w:Lo)(e:Ending)(w':Lo):Prop:= ∃v,e= .returned v/\aZ 48 w.heap.size w' v ((dW 310).map U64)/\Below w.heap.size w w'
theorem D0(l:List Nat)(f:Nat->Bool)(i:Nat)(h:i<l.length):(l.take (i+1)).all f=((l.take i).all f&&f l[i]):=by rw[lE h,List.all_append];simp
theorem NE(w:Lo):Calls prog 174 #[.int .i64 64] w (ND w):=by
 go_enter func174,ntmps174;go_wp2_with fail;go_loopw [3,4] (λv n wr=> ∃k:Nat,k<=310/\n= .int .u64 ((k:Int)+2)/\aZ 48 w.heap.size wr v ((dW k).map U64)/\aq w wr) (λ_ n _=>(312-intOf n).toNat);·exact⟨0,aa,rfl,aZ.nil _ _ _,aP _ _⟩
 ·
  obtain⟨k,hk,rfl,aL,hb⟩:=hrel;obtain⟨A,c,rfl,hc,hm,hcell⟩:=aL.read;have hlen:((dW k).map U64).length=(dW k).length:=cX ..;rw[hlen]at hc aL ⊢;have sY:=sR k;have hk0:0<=(k:Int):=aa;have hkm:(k:Int)<=310:=aa;by_cases aV:k<310
  ·have yp:(dW k).length<64:=(by have:=Xt (show k<=309 by omega);have:=CF.1;omega);have gZ: ∀i (h:i<(dW k).length),∃g,A=some ⟨g,0,none⟩/\wr.cell? ⟨g,i,none⟩=some (U64 (dW k)[i]):=λi h=>(by obtain⟨g,h1,h2⟩:=hcell i (by rw[hlen];exact h);exact⟨g,h1,by rw[h2];simp⟩);have jm:Hid (dW (k+1)=ET (dW k) (k+2)):=ae rfl;have HL:=ae hlen;clear hcell hlen;generalize dW k=L at*;have az9:(L.length:Int)<64:=aa;go_wp2_with fail;go_loop [5,6] (λb i=> ∃j:Nat,j<=L.length/\i= .int .i64 j/\b= .bool ((L.take j).all λp=>(k+2)%p !=0)) (λ_ i=>L.length-(intOf i).toNat);·exact⟨0,aa,rfl,rfl⟩
   ·
    obtain⟨j,hj,rfl,rfl⟩:=hrel;by_cases qu:j<L.length
    ·obtain⟨g,rfl,Lr⟩:=gZ j qu;obtain⟨p0,p1⟩:=sY L[j] (lF _);have HA:=ae (D0 L (λp=>(k+2)%p !=0) j qu);have zo:(j:Int)<L.length:=aa;generalize L[j]=p at*;have p0i:2<=(p:Int):=aa;have p1i:(p:Int)<=312:=aa;generalize(L.take j).all (λp=>(k+2)%p !=0)=bb at*;have tF:((k:Int)+2)%(p:Int)=(((k+2)%p:Nat):Int):=(by rw[Int.natCast_emod];rfl);by_cases hz:(k+2)%p=0
     ·have arL:((k:Int)+2)%(p:Int)=0:=(by rw[tF,hz];rfl);clear tF;go_wp2_with fail;go_round;case rel=>exact⟨j+1,aa,aA,by rw[HA.out,hz];simp⟩
      case measure=>simp[intOf];omega
     ·have hzi:(((k+2)%p:Nat):Int)≠0:=(by omega);generalize(k+2)%p=m at*;have hmb:((m:Int)==0)=false:=(by simpa using hzi);go_wp2_with fail;go_round;case rel=>exact⟨j+1,aa,aA,by
       rw[HA.out];have:(m !=0)=true:=(by simpa using hz);rw[this];simp⟩
      case measure=>simp[intOf];omega
    ·obtain rfl:j=L.length:=(by omega);have HT:Hid ((L.take L.length).all (λp=>(k+2)%p !=0)=L.all (λp=>(k+2)%p !=0)):=ae (by rw[List.take_length]);by_cases dZ:L.all (λp=>(k+2)%p !=0)=true
     ·have HR:Hid (dW (k+1)=L++[k+2]):=ae (by rw[jm.out,ET,ax dZ]);rw[HT.out,dZ];have cG:=aL.alloc (.cells #[.int .u64 ((k:Int)+2)] 48);have lj:=gJ wr (.int .u64 ((k:Int)+2)) 48;have aK:=hb.alloc hb.size (.cells #[.int .u64 ((k:Int)+2)] 48);have dF:(L.map U64).length+1<=200:=(by rw[cX];omega);have qx:w.heap.size<=(wr.alloc (.cells #[.int .u64 ((k:Int)+2)] 48)).heap.size:=aK.size;have mS: ∀u∈[Value.int .u64 ((k:Int)+2)],u.oneCell'=true:=oY;clear dZ;go_wp2_with (refine bB aeY rfl _ _ rfl w.heap.size _ (.slice A L.length c) _ rfl cG wr.heap.size 1 1 [.int .u64 ((k:Int)+2)] rfl rfl lj mS aa aa qx ?_;intro v' w3 bJ kg _)
      have bm:=f7 aK kg qx (λg e=>(cG.lt g e).1);go_roundw;case rel=>exact⟨k+1,aa,aA,by rw[HR.out,iI];exact bJ,bm⟩
      case measure=>simp[intOf];omega
     ·have HR:Hid (dW (k+1)=L):=ae (by rw[jm.out,ET,au dZ]);have hf:L.all (λp=>(k+2)%p !=0)=false:=(by simpa using dZ);rw[HT.out,hf];clear dZ hf;go_wp2_with fail;go_roundw;case rel=>exact⟨k+1,aa,aA,by rw[HR.out];exact aL,hb⟩
      case measure=>simp[intOf];omega
  ·obtain rfl:k=310:=(by omega);have h64:=CF.2;have hi:((dW 310).length:Int)=64:=aa;have HI:=ae hi;have aAa:((dW 310).length:Int)>=64:=aa;clear hi h64 hcell hlen;go_wp2;go_ret;exact⟨_,rfl,aL,hb⟩
abbrev I32(n:Int):Value:= .int .u32 n
def EW:List Value:=Bx.map aJ
def Sn(w:Lo)(e:Ending)(w':Lo):Prop:= ∃v1 v2,e= .returned (.tuple #[v1,v2])/\aZ 24 w.heap.size w' v1 dP.agg.toList/\aZ 24 w.heap.size w' v2 EW/\Below w.heap.size w w'
theorem uz:lB.length=8:=by rw[EU];rfl
theorem uA:nV.length=64:=by rw[EV];rfl
theorem Kn(k:Nat)(h:k<8)(hk:k<(dW 310).length):lB.take (k+1)=lB.take k++[sq ((dW 310)[k]:Nat) 37%4294967296]:=by rw[lE (by rw[uz];exact h)];simp[lB]
theorem Kp(k:Nat)(h:k<64)(hk:k<(dW 310).length):nV.take (k+1)=nV.take k++[cb ((dW 310)[k]:Nat) 36%4294967296]:=by rw[lE (by rw[uA];exact h)];simp[nV]
theorem NF(k:Nat)(h:8<=k):lB.take k=lB:=mZ (by rw[uz];exact h)
theorem NG:nV.take 64=nV:=mZ (by rw[uA];exact aF _)
theorem Kq:lB.map I32=dP.agg.toList:=by rw[EU];rfl
theorem Kr:nV.map I32=EW:=by rw[EV];unfold EW;rw[List.map_map];rfl
theorem sU{k:IntKind}(n:Int): ∀u∈[Value.int k n],u.oneCell'=true:=oY
theorem So(w:Lo):Calls prog 133 #[] w (Sn w):=by
 go_enter func133,ntmps133;go_wp2_with fail;refine(NE w).mono ?_;rintro e w1 ⟨vp,rfl,hp,aI⟩;have tx:=ae CF.2;have xe:0<((dW 310).map U64).length:=by rw[cX,tx.out];omega
 obtain⟨gp,cp,rfl,aAb,akN,arM,aAc,hpc⟩:=hp.bT xe;have e64:((dW 310).map U64).length=64:=by rw[cX,tx.out]
 rw[e64]at arM ⊢;have HPC:Hid (∀i (h:i<(dW 310).length),w1.cell? ⟨gp,i,none⟩=some (U64 (dW 310)[i])/\(dW 310)[i]<=311):=ae (λi h=>⟨by rw[hpc i (by rw[cX];exact h)];simp,by have:=sR 310 _ (lF h);omega⟩);have qy:=ae Kn;have Lj:=ae Kp;have HE:=ae NF;clear hpc e64 xe hp;generalize dW 310=P at*;go_wp2_with fail;go_loopw [3,4,5] (λv3 v4 i wr=> ∃k:Nat,k<=64/\i= .int .i64 k/\aZ 24 w1.heap.size wr v3 ((lB.take k).map I32)/\aZ 24 w1.heap.size wr v4 ((nV.take k).map I32)/\(∀g,v3.ownBlock=some g->v4.ownBlock≠some g)/\Below w1.heap.size w1 wr) (λ_ _ i _=>(64-intOf i).toNat);·exact⟨0,aa,rfl,aZ.nil _ _ _,aZ.nil _ _ _,AW,aP _ _⟩
 ·
  obtain⟨k,hk,rfl,bJ,jD,fj,hb⟩:=hrel;by_cases aV:k<64
  ·obtain⟨xz,dE⟩:=HPC.out k zP;have kh:=λh=>qy.out k h zP;have TJ:=Lj.out k aV zP;generalize P[k]'zP=p at*;have hc:=(hb.cell (p:=⟨gp,k,none⟩) akN).trans xz;have ud:(p:Int)<=311:=aa;have aeZ:=ae TJ;have akO:=ae kh;have xO:(k:Int)<64:=aa;have HC0:=ae xz;have HSQ:=ae (λw=>NC (p:Int) aa aa w);have Ie:=ae (λw=>Xv (p:Int) w);have⟨s,hs⟩:=ex (sq (p:Int) 37%4294967296);have⟨c,xU⟩:=ex (cb (p:Int) 36%4294967296);rw[hs]at HSQ akO;rw[xU]at Ie aeZ;have zu:((lB.take k).map I32).length<=8:=(by rw[cX,eZ,uz];omega);have tJ:((nV.take k).map I32).length<=64:=(by rw[cX,eZ,uA];omega);clear hs xU kh TJ xz;by_cases h8:k<8
   ·have h8i:(k:Int)<8:=(by omega);go_wp2_with fail;refine(HSQ _).mono ?_;rintro e w' ⟨rfl,rfl⟩;have qb:=bJ.alloc (.cells #[.int .u32 s] 24);have ae0:=jD.alloc (.cells #[.int .u32 s] 24);have lj:=gJ wr (.int .u32 s) 24;have sF:=hb.alloc hb.size (.cells #[.int .u32 s] 24);have hsA:=sF.size;have akP:(wr.alloc (.cells #[.int .u32 s] 24)).heap.size=wr.heap.size+1:=ah;have il:=ae akP;clear hc akP;go_wp2_with (refine bB sS rfl _ _ rfl w1.heap.size _ u3 _ rfl qb wr.heap.size 1 1 [.int .u32 s] rfl rfl lj (sU s) aa aa hsA ?_;intro v3' w3 PX hgB arN;have U3:=f7 sF hgB hsA (λg e=>(qb.lt g e).1);have ju:=(U3.cell (p:=⟨gp,k,none⟩) akN).trans HC0.out)
    have ae1:=ae0.grown hgB (λg e h=>fj g h e);have akR: ∀g,v3'.ownBlock=some g->u4.ownBlock≠some g:=λg e h=>by
     rcases arN with h2|h2;·exact fj g (h2.symm.trans e) h
     ·have:=(jD.lt g h).2;rw[h2]at e;injection e with e
      have h3:=il.out;omega
    refine(Ie _).mono ?_;rintro e w' ⟨rfl,rfl⟩;have Xw:=PX.alloc (.cells #[.int .u32 c] 24);have CG:=ae1.alloc (.cells #[.int .u32 c] 24);have ae2:=gJ w3 (.int .u32 c) 24;have T':=U3.alloc U3.size (.cells #[.int .u32 c] 24);have hsC:=T'.size;have Xx:(w3.alloc (.cells #[.int .u32 c] 24)).heap.size=w3.heap.size+1:=ah;have ae3:=ae Xx;clear Xx ju;go_wp2_with (refine bB sS rfl _ _ rfl w1.heap.size _ u4 _ rfl CG w3.heap.size 1 1 [.int .u32 c] rfl rfl ae2 (sU c) aa aa hsC ?_;intro v4' w5 Xy hgD ae4)
    have NH:=Xw.grown hgD (λg e h=>akR g e h);have hbD:=f7 T' hgD hsC (λg e=>(CG.lt g e).1);go_roundw;case rel=>
     refine⟨k+1,aa,aA,by rw[akO.out h8,iI];exact NH,by rw[aeZ.out,iI];exact Xy,λg e h=> ?_,hbD⟩;rcases ae4 with h2|h2;·exact akR g e (h2.symm.trans h)
     ·have:=(PX.lt g e).2;rw[h2]at h;injection h with h
      have h3:=ae3.out;omega
    case measure=>simp[intOf];omega
   ·have h8i:8<=(k:Int):=(by omega);have HK1:Hid (lB.take (k+1)=lB.take k):=ae (by rw[HE.out k aa,HE.out (k+1) aa]);go_wp2_with fail;refine(Ie _).mono ?_;rintro e w' ⟨rfl,rfl⟩;have Xw:=bJ.alloc (.cells #[.int .u32 c] 24);have CG:=jD.alloc (.cells #[.int .u32 c] 24);have ae2:=gJ wr (.int .u32 c) 24;have T':=hb.alloc hb.size (.cells #[.int .u32 c] 24);have hsC:=T'.size;have Xx:(wr.alloc (.cells #[.int .u32 c] 24)).heap.size=wr.heap.size+1:=ah;have ae3:=ae Xx;clear Xx hc;go_wp2_with (refine bB sS rfl _ _ rfl w1.heap.size _ u4 _ rfl CG wr.heap.size 1 1 [.int .u32 c] rfl rfl ae2 (sU c) aa aa hsC ?_;intro v4' w5 Xy hgD ae4)
    have NH:=Xw.grown hgD (λg e h=>fj g e h);have hbD:=f7 T' hgD hsC (λg e=>(CG.lt g e).1);go_roundw;case rel=>
     refine⟨k+1,aa,aA,by rw[HK1.out];exact NH,by rw[aeZ.out,iI];exact Xy,λg e h=> ?_,hbD⟩;rcases ae4 with h2|h2;·exact fj g e (h2.symm.trans h)
     ·have:=(bJ.lt g e).2;rw[h2]at h;injection h with h
      have h3:=ae3.out;omega
    case measure=>simp[intOf];omega
  ·obtain rfl:k=64:=(by omega);rw[HE.out 64 aa,Kq]at bJ;rw[NG,Kr]at jD;go_wp2;go_ret2;exact⟨_,_,rfl,bJ.weaken aI.size,jD.weaken aI.size,aQ aI hb⟩
def wC(aE:An)(k:Nat):Nat->Nat
 | 0=>0
 | j+1=>256*wC aE k j+(aE.getD (4*k+j) 0).toNat
theorem aaz(aE:An)(k:Nat):wC aE k 0<1/\wC aE k 1<256/\wC aE k 2<65536/\wC aE k 3<16777216/\wC aE k 4<4294967296:=by have h0:=(aE.getD (4*k+0) 0).toNat_lt;have h1:=(aE.getD (4*k+1) 0).toNat_lt;have h2:=(aE.getD (4*k+2) 0).toNat_lt;have h3:=(aE.getD (4*k+3) 0).toNat_lt;simp only[wC];omega
theorem aaA(aE:An)(k j:Nat)(h:j<4):wC aE k j<16777216:=by
 have:=aaz aE k;match j,h with
 | 0,_|1,_|2,_|3,_=>omega
theorem Xz(aE:An)(k:Nat):wC aE k 4=(Bu aE k).toNat:=by unfold Bu;rw[UU];simp only[wC,Nat.add_zero];omega
def NI(w:Lo)(aE:An)(e:Ending)(w':Lo):Prop:= ∃v,e= .returned v/\aZ 24 w.heap.size w' v ((bw aE 64).map aJ)/\Below w.heap.size w w'
theorem NJ(aE:An)(k:Nat):(bw aE (k+1)).map aJ=(bw aE k).map aJ++[aJ (vD aE (bw aE k) k)]:=by simp[bw]
theorem Ks(l:List (BitVec 32))(i:Nat)(h:i<(l.map aJ).length):(l.map aJ)[i]=aJ (l.getD i 0):=by have h':i<l.length:=qH;rw[List.getElem_map];simp[List.getD,h']
theorem NK(aE:An)(l:List (BitVec 32))(n:Nat)(h:n<16):vD aE l n=Bu aE n:=by unfold vD;rw[ax h]
theorem Kt(A:As)(aE:An)(c:Nat)(w:Lo)(hB:Bytes w A aE)(nN:aE.length=64):
  Calls prog 135 #[.slice A 64 c] w (NI w aE):=by
 obtain⟨bb,off,rfl,eX,hcell⟩:=hB.addr aa;have Ie:Hid (∀i,i<64->w.cell? ⟨bb,off+i,none⟩=some (B8 (aE.getD i 0))):=ae (λi hi=>by rw[hcell i aa];simp[List.getD,show i<aE.length by omega]);have TD:=ae (NJ aE);have gC:=ae (jV aE);have yW:=ae (aaA aE);have arO:=ae (Xz aE);clear hB hcell nN;go_enter func135,ntmps135;go_wp2_with fail;go_loopw [3,4] (λv i wr=> ∃k:Nat,k<=64/\i= .int .i64 k/\aZ 24 w.heap.size wr v ((bw aE k).map aJ)/\aq w wr) (λ_ i _=>64-(intOf i).toNat);·exact⟨0,aa,rfl,aZ.nil _ _ _,aP _ _⟩
 ·
  obtain⟨k,hk,rfl,aL,hb⟩:=hrel;by_cases aV:k<64
  ·have xO:(k:Int)<64:=(by omega);have hk0:0<=(k:Int):=aa;have hs:=TD.out k;have xa:((bw aE k).map aJ).length=k:=(by rw[cX,gC.out]);have vk:=ae xa;by_cases h16:k<16
   ·have aee:(k:Int)<16:=(by omega);rw[NK aE _ k h16]at hs;have HS:=ae hs;obtain⟨v0,Lk⟩: ∃v,Bu aE k=v:=⟨_,rfl⟩
    have HV:=ae Lk;clear hs Lk xa;go_wp2_with fail;go_loop [5,6] (λn j=> ∃q:Nat,q<=4/\j= .int .i64 q/\n= .int .u32 (wC aE k q:Nat)) (λ_ j=>4-(intOf j).toNat);·exact⟨0,aa,rfl,rfl⟩
    ·
     obtain⟨q,hq,rfl,rfl⟩:=hrel;by_cases hq4:q<4
     ·have gZ:=(hb.cell (p:=⟨bb,off+(4*k+q),none⟩) eX).trans (Ie (4*k+q) aa);have ZN:=yW.out k q hq4;have HN:Hid (wC aE k (q+1)=256*wC aE k q+(aE.getD (4*k+q) 0).toNat):=ae rfl;generalize aE.getD (4*k+q) 0=xb at*;have hx:=xb.toNat_lt;generalize wC aE k q=a at*;have hqi:(q:Int)<4:=aa;have tM:0<=(q:Int):=aa;have hti:(4*(k:Int)+(q:Int)).toNat=4*k+q:=aa;have arP:4*(k:Int)+(q:Int)<64:=aa;have arQ:0<=4*(k:Int)+(q:Int):=aa;have Km:0<=(a:Int):=aa;have ha1:(a:Int)<16777216:=aa;have uX:0<=(xb.toNat:Int):=aa;have ks:(xb.toNat:Int)<256:=aa;go_wp2_with fail;go_round;case rel=>exact⟨q+1,aa,aA,by rw[HN.out];go_num⟩
      case measure=>simp[intOf];omega
     ·obtain rfl:q=4:=(by omega);rw[arO.out,HV.out];have cG:=aL.alloc (.cells #[aJ v0] 24);have lj:=gJ wr (aJ v0) 24;have aK:=hb.alloc hb.size (.cells #[aJ v0] 24);have zq:((bw aE k).map aJ).length<=64:=(by rw[vk.out];omega);have qx:=aK.size;generalize(bw aE k).map aJ=L at*;go_wp2_with (refine bB sS rfl _ _ rfl w.heap.size _ u3 L rfl cG wr.heap.size 1 1 [aJ v0] rfl rfl lj (sU _) aa aa qx ?_;intro v2 w3 bJ kg _)
      have bm:=f7 aK kg qx (λg e=>(cG.lt g e).1);go_roundw;case rel=>exact⟨k+1,aa,aA,by rw[HS.out,HV.out];exact bJ,bm⟩
      case measure=>simp[intOf];omega
   ·have aee:16<=(k:Int):=(by omega);have hn:=Ek aE (bw aE k) k aa;obtain⟨g,cap,rfl,lN,gB,hgc,hgm,hcg⟩:=aL.bT (by rw[xa];omega);rw[xa]at hgc aL ⊢;have xU: ∀i,i<k->wr.cell? ⟨g,i,none⟩=some (aJ ((bw aE k).getD i 0)):=λi hi=>(by rw[hcg i (by rw[xa];exact hi),Ks]);have dE:=xU (k-15) aa;have ei:=xU (k-2) aa;have ju:=xU (k-16) aa;have jM:=xU (k-7) aa;generalize(bw aE k).getD (k-15) 0=x at*;generalize(bw aE k).getD (k-2) 0=y at*;generalize(bw aE k).getD (k-16) 0=a at*;generalize(bw aE k).getD (k-7) 0=b at*;have HS0:=ae (UW x);have sD:=ae (UX y);generalize s0 x=p at*;generalize s1 y=q at*;have Mn:=ae (iL a p);generalize a+p=v1 at*;have I1:=ae (iL v1 b);generalize v1+b=v2' at*;have Zc:=ae (iL v2' q);generalize v2'+q=v at*;have ia:=ae hn;have HR7:=ae (λw=>kU 7 aa x w);have arR:=ae (λw=>kU 18 aa x w);have arS:=ae (λw=>kU 17 aa y w);have arT:=ae (λw=>kU 19 aa y w);have HS:=ae hs;have HOW:Hid (aZ 24 w.heap.size (wr.drew.alloc (.cells #[aJ v] 24)) (.slice (some ⟨g,0,none⟩) k cap) ((bw aE k).map aJ)):=ae (aL.drew.alloc _);have ZG:=ae (gJ wr.drew (aJ v) 24);have akU:Hid ((((bw aE k).map aJ).length+1)*4<=140737488355328):=ae (by rw[xa];omega);have akV:Hid (((bw aE k).map aJ).length+1<=140737488355328):=ae (by rw[xa];omega);have ZN:=(hb.drew).alloc hb.size (.cells #[aJ v] 24);have il:Hid (w.heap.size<=(wr.drew.alloc (.cells #[aJ v] 24)).heap.size):=ae ZN.size;have cW:=ae ZN;have k3:wr.drew.cell? ⟨g,k-16,none⟩=some (aJ a):=ju;have k4:wr.drew.cell? ⟨g,k-7,none⟩=some (aJ b):=jM;have i15:((k:Int)-15).toNat=k-15:=aa;have i2:((k:Int)-2).toNat=k-2:=aa;have l15:15<=(k:Int):=aa;have l2:2<=(k:Int):=aa;have m15:(k:Int)-15<(k:Int):=aa;have m2:(k:Int)-2<(k:Int):=aa;clear hs hn xU ju jM hcg xa ZN;generalize(bw aE k).map aJ=L at*;go_wp2_with fail;refine(HR7 _).mono ?_;rintro e w' ⟨rfl,rfl⟩;go_wp2_with fail;refine(arR _).mono ?_;rintro e w' ⟨rfl,rfl⟩;have Ey:=HS0.out;go_wp2_with fail;clear Ey;refine(arS _).mono ?_;rintro e w' ⟨rfl,rfl⟩;go_wp2_with fail;refine(arT _).mono ?_;rintro e w' ⟨rfl,rfl⟩;have kQ:=sD.out;go_wp2_with fail;clear kQ i15 i2 l15 l2 m15 m2;refine wp_region_held_drew (S:=λ_=>True) ak trivial (λhS=> ?_)
    refine ag 0 hS (h:=ag 1 hS (h:=ag 2 hS (h:=bx 3 rfl (λw hSw=>by have q:=em ((k:Int)-16) aa;go_simp;all_goals(with_reducible rfl)) hS (h:=bx 4 rfl (λw hSw=>by have q0:0<=(k:Int)-16:=aa;have q1:(k:Int)-16<64:=aa;have q2:((k:Int)-16).toNat=k-16:=aa;have q3:16<=(k:Int):=aa;have q4:(k:Int)-16<(k:Int):=aa;go_simp;all_goals(with_reducible rfl)) hS (h:=ag 6 hS (h:=ag 8 hS (h:=ag 9 hS (h:=bx 10 rfl (λw hSw=>by have q:=em ((k:Int)-7) aa;go_simp;all_goals(with_reducible rfl)) hS (h:=bx 11 rfl (λw hSw=>by have q0:0<=(k:Int)-7:=aa;have q1:(k:Int)-7<64:=aa;have q2:((k:Int)-7).toNat=k-7:=aa;have q3:7<=(k:Int):=aa;have q4:(k:Int)-7<(k:Int):=aa;go_simp;all_goals(with_reducible rfl)) hS (h:=ag 14 hS (h:= ?_)))))))))));refine wpAnyH_ready (rs:=[5,12]) ak ah ?_;refine(AllReadyH.cons rfl (λK hK=> ?_) (AllReadyH.cons rfl (λK hK=> ?_) AllReadyH.nil))
    ·skip;go_simp;refine hK _ _ trivial (λ_=> ?_);clear hK K;refine ag 7 trivial (h:= ?_);rw[Mn.out];refine aO 12 (λK hK=> ?_);go_simp;refine hK _ _ trivial (λ_=> ?_);clear hK K;refine ag 13 trivial (h:= ?_);rw[I1.out];refine ag 15 trivial (h:= ?_);rw[Zc.out];refine aO 16 (λK hK=> ?_);go_simp;refine hK _ _ trivial (λ_=> ?_);clear hK K;refine aO 17 (λK hK=> ?_);refine iB sS rfl (.tmp 62) (.tmp 78) rfl w.heap.size (wr.drew.alloc (.cells #[aJ v] 24)) (.slice (some ⟨g,0,none⟩) k cap) L rfl HOW.out wr.heap.size 1 1 [aJ v] rfl rfl ZG.out (sU _) akU.out akV.out il.out ?_;intro v2 w3 bJ kg _;refine en ?_;refine hK _ _ trivial (λ_=> ?_);clear hK K;refine ag 18 trivial (h:= ?_);refine wpAnyH_done ak ?_ _;go_wp2_with fail;have bm:=f7 cW.out kg il.out (λg e=>(HOW.lt g e).1);go_roundw;case rel=>exact⟨k+1,aa,aA,by rw[HS.out,ia.out];exact bJ,bm⟩
     case measure=>simp[intOf];omega
    ·skip;go_simp;refine hK _ _ trivial (λ_=> ?_);clear hK K;refine aO 5 (λK hK=> ?_);go_simp;refine hK _ _ trivial (λ_=> ?_);clear hK K;refine ag 7 trivial (h:= ?_);rw[Mn.out];refine ag 13 trivial (h:= ?_);rw[I1.out];refine ag 15 trivial (h:= ?_);rw[Zc.out];refine aO 16 (λK hK=> ?_);go_simp;refine hK _ _ trivial (λ_=> ?_);clear hK K;refine aO 17 (λK hK=> ?_);refine iB sS rfl (.tmp 62) (.tmp 78) rfl w.heap.size (wr.drew.alloc (.cells #[aJ v] 24)) (.slice (some ⟨g,0,none⟩) k cap) L rfl HOW.out wr.heap.size 1 1 [aJ v] rfl rfl ZG.out (sU _) akU.out akV.out il.out ?_;intro v2 w3 bJ kg _;refine en ?_;refine hK _ _ trivial (λ_=> ?_);clear hK K;refine ag 18 trivial (h:= ?_);refine wpAnyH_done ak ?_ _;go_wp2_with fail;have bm:=f7 cW.out kg il.out (λg e=>(HOW.lt g e).1);go_roundw;case rel=>exact⟨k+1,aa,aA,by rw[HS.out,ia.out];exact bJ,bm⟩
     case measure=>simp[intOf];omega
  ·obtain rfl:k=64:=(by omega);go_wp2;go_ret;exact⟨_,rfl,aL,hb⟩
theorem fx{ops:Array Oper}{o:Oper}{a:Act}{K:Act->World->Prop}{Q:Exit->Act->World->Prop}(oV:o.guard=none)(s x:Operand)
  (ho:o.op= .call {callee:= .builtin .append,args:= #[s,x],argTypes:= #[22,22]})
  (base:Nat) (w:Lo) (v:Value) (xs:An) (hs:a.eval s=v) (aL:Own base w v xs) (A:As) (l:An) (c:Nat) (hx:a.eval x= .slice A l.length c) (hB:Bytes w A l)
  (dF:xs.length+l.length<=140737488355328) (aX:base<=w.heap.size)
  (h: ∀v' w',Own base w' v' (xs++l)->w.grownBy w' v.ownBlock->K (a.put o.dst v') w'):if Region.wanted o (yielded ops a.tmps)=true then Oper.wp prog o a w K Q else K (a.put o.dst undef) w:=by
 rw[ax nH];obtain⟨v',w',hr,h2,h3⟩:=fR base o.type w v xs aL A l c hB dF aX;unfold Oper.wp execOp;simp only[ho,resolve,invoke,builtin,Sem.run_bind,Sem.run_pure,Result.andThen_ok,List.map_toArray,gy,List.map_nil,hs,hx,hr];exact h v' w' h2 h3
def comp(r:R8)(L:An):Nat->R8
 | 0=>r
 | j+1=>qo (comp r L j) ((L.drop (64*j)).take 64)
theorem aaB(aE ch:An)(hb:aE.length=64)(hc:ch.length=64):lay aE 0 ch=ch:=by unfold lay;rw[hc,pT aa];simp
theorem EX(s:St)(L:An)(hs:s.n%64=0)(hb:s.aE.length=64): ∀j,64*j<=L.length->(s.fI (L.take (64*j))).ws=comp s.ws L j
 | 0,_=>rfl
 | j+1,h=>by
  have ih:=EX s L hs hb j aa;have e:L.take (64*(j+1))=L.take (64*j)++(L.drop (64*j)).take 64:=by rw[show 64*(j+1)=64*j+64 by omega,List.take_add]
  have Hl:((L.drop (64*j)).take 64).length=64:=by rw[eZ,fZ];omega
  have hn:(s.fI (L.take (64*j))).n%64=0:=by rw[St.Ga,eZ];omega
  have eX:=St.U1 (L.take (64*j)) s hb;rw[e,St.rj,St.BA _ _ eX (by rw[hn,Hl];omega),hn,Hl];simp only[comp,Nat.zero_add,if_true];rw[aaB _ _ eX Hl,ih]
def mK(l:An):Nat:=(l.length+(padding l.length).length)/64
theorem pG(l:An):(l++padding l.length).length=64*mK l:=by unfold mK;rw[aG,mz];unfold eu;omega
theorem Ku(l:An):(St.new.fI l).gN=ik (comp dP (l++padding l.length) (mK l)) 8:=by
 have h:=EX St.new (l++padding l.length) rfl (by simp[St.new]) (mK l) (by rw[pG];exact aF _);rw[<-pG,List.take_length]at h;unfold St.gN;rw[St.Ga,<-St.rj];have e:St.new.n+l.length=l.length:=by show 0+l.length=_;omega
 rw[e,h];rfl
theorem yc(x:BitVec 32)(d:Nat):IntKind.u8.wrap ((x.toNat:Int)/(d:Int))=((UInt8.ofNat (x.toNat/d%256)).toNat:Int):=by rw[IntKind.wrap_u8,ui,<-Int.natCast_ediv];omega
theorem NL(x:BitVec 32):IntKind.u8.wrap (x.toNat:Int)=((UInt8.ofNat (x.toNat%256)).toNat:Int):=by rw[IntKind.wrap_u8,ui];omega
theorem XA(i:Nat)(h:i<EW.length):EW[i]=aJ (Kc i):=by have h':i<Bx.length:=h;show(Bx.map aJ)[i]'(by simpa using h')=_;rw[List.getElem_map];unfold Kc;simp[List.getD,h']
theorem aaC(e:BitVec 32):IntKind.u32.wrap (4294967295-(e.toNat:Int))=((~~~e).toNat:Int):=by have h:=e.isLt;rw[IntKind.wrap_u32,BitVec.toNat_not];omega
theorem XB(A:As)(l:An)(c:Nat)(w:Lo)(hB:Bytes w A l)(hn:l.length<=100000000):
  Calls prog 91 #[.slice A l.length c] w (bV w (St.new.fI l).gN):=by
 have HDG:=ae (Ku l);have HBL:=ae (pG l);have HN:=ae hn;have Qy:mK l<=100000000:=by unfold mK;rw[mz];have:=uj l.length;omega
 generalize mK l=m at*;have Ge:=ae (λw' (h:Bytes w' A l)=>Nz A l c w' h hn);clear hn;generalize l++padding l.length=L at*;go_enter func91,ntmps91;go_wp2_with fail;refine(So w).mono ?_;rintro e w1 ⟨v1,v2,rfl,Ja,U8,aI⟩;have i9:=hB.below aI;go_wp2_with fail;refine(Ge w1 i9).mono ?_;rintro e w2 ⟨AL,cL,rfl,hcL,hmL,hBL,aK⟩;have akW:=Ja.below aK;have akX:=U8.below aK;have Sp:=aQ aI aK;obtain⟨gq,cq,rfl,aAk,akY,hcq,hmq,hqc⟩:=akX.bT (by show 0<64;omega);have HQC:Hid (∀i,i<64->w2.cell? ⟨gq,i,none⟩=some (aJ (Kc i))):=ae (λi hi=>(hqc i hi).trans (aR some (XA i hi)));rw[show EW.length=64 from rfl]at hcq ⊢;clear Ja U8 akX hB i9 aI aK hqc;rw[HBL.out]at hcL ⊢;go_wp2_with fail;go_loopw [3,6] (λv i wr=> ∃j:Nat,j<=m/\i= .int .i64 ((64*j:Nat):Int)/\aZ 24 w.heap.size wr v (comp dP L j).agg.toList/\aq w2 wr) (λ_ i _=>64*m-(intOf i).toNat);·exact⟨0,aa,rfl,akW,aP _ _⟩
 ·
  obtain⟨j,hj,rfl,hv,hb⟩:=hrel;clear akW;obtain⟨gl,cl,rfl,aAn,DJ,gZ,vu,lj⟩:=hv.bT (by show 0<8;omega);rw[show(comp dP L j).agg.toList.length=8 from rfl]at gZ ⊢;have ZG:=ae lj;clear lj;by_cases aV:j<m
  ·have qT:(L.drop (64*j)).length=64*m-64*j:=(by rw[fZ,HBL.out]);obtain⟨bL,oL,rfl,arV,XC⟩:=(hBL.below hb).addr (by rw[HBL.out];omega);have TM:Bytes wr (some ⟨bL,oL+64*j,none⟩) ((L.drop (64*j)).take 64):=(Bytes.drop (64*j) (.inr ⟨bL,oL,rfl,arV,XC⟩)).take 64;have Hl:((L.drop (64*j)).take 64).length=64:=(by rw[eZ,qT];omega);have Ao:Hid (comp dP L (j+1)=qo (comp dP L j) ((L.drop (64*j)).take 64)):=ae rfl;have HRN:Hid (∀aE n r,rounds aE (n+1) r=roundOf (Kc n) (wd aE n) (rounds aE n r)):=ae (λ_ _ _=>rfl);have lV:=ae (Kt (some ⟨bL,oL+64*j,none⟩) ((L.drop (64*j)).take 64) (cL-64*j) wr TM Hl);have HJ:Hid (64*(j+1)=64*j+64):=ae aa;have cZ:64*j+64<=64*m:=aa;have Iz:64*m<=6400000000:=aa;clear qT TM Hl XC;generalize(L.drop (64*j)).take 64=aE at*;obtain⟨at_,ae5⟩: ∃t,64*j=t:=⟨_,rfl⟩
   rw[ae5]at lV cZ HJ ⊢;have EH:=ae ae5;clear ae5;obtain⟨N,hN⟩: ∃t,64*m=t:=⟨_,rfl⟩
   rw[hN]at cZ Iz hcL ⊢;have xg:=ae hN;clear hN;have hti:(at_:Int)<N:=aa;have arQ:0<=(at_:Int):=aa;have arP:(at_:Int)+64<=(N:Int):=aa;have aAo:(N:Int)<=6400000000:=aa;have aAp:(N:Int)<=cL:=aa;go_wp2_with fail;refine lV.mono ?_;rintro e w3 ⟨v3,rfl,hv3,bm⟩;have ja:=aQ hb bm;obtain⟨gw,cw,rfl,aAq,arW,hcw,hmw,hwc⟩:=hv3.bT (by rw[cX,jV];omega);have e64:((bw aE 64).map aJ).length=64:=(by rw[cX,jV]);have zz:Hid (∀i,i<64->w3.cell? ⟨gw,i,none⟩=some (aJ (wd aE i))):=ae (λi hi=>by rw[hwc i (by rw[e64];exact hi),Ks];rfl);rw[e64]at hcw ⊢;have q_:Hid (∀i,i<64->w3.cell? ⟨gq,i,none⟩=some (aJ (Kc i))):=ae (λi hi=>(ja.cell (p:=⟨gq,i,none⟩) akY).trans (HQC i hi));have EN:Hid (∀i (h:i<(comp dP L j).agg.toList.length),w3.cell? ⟨gl,i,none⟩=some (comp dP L j).agg.toList[i]):=ae (λi h=>(bm.cell (p:=⟨gl,i,none⟩) DJ).trans (ZG i h));have tm:gl<w3.heap.size:=db DJ bm.size;have arX:gq<w3.heap.size:=db akY ja.size;have RY:w.heap.size<=w3.heap.size:=a8 Sp.size ja.size;clear hwc e64 bm ZG hv hv3 DJ lV;generalize comp dP L j=r at*;obtain⟨x0,x1,x2,x3,x4,x5,x6,x7⟩:=r;have y0:w3.cell? ⟨gl,0,none⟩=some (aJ x0):=EN.out 0 (by show 0<8;omega);have y1:w3.cell? ⟨gl,1,none⟩=some (aJ x1):=EN.out 1 (by show 1<8;omega);have y2:w3.cell? ⟨gl,2,none⟩=some (aJ x2):=EN.out 2 (by show 2<8;omega);have y3:w3.cell? ⟨gl,3,none⟩=some (aJ x3):=EN.out 3 (by show 3<8;omega);have y4:w3.cell? ⟨gl,4,none⟩=some (aJ x4):=EN.out 4 (by show 4<8;omega);have y5:w3.cell? ⟨gl,5,none⟩=some (aJ x5):=EN.out 5 (by show 5<8;omega);have y6:w3.cell? ⟨gl,6,none⟩=some (aJ x6):=EN.out 6 (by show 6<8;omega);have y7:w3.cell? ⟨gl,7,none⟩=some (aJ x7):=EN.out 7 (by show 7<8;omega);go_wp2_with fail;clear y0 y1 y2 y3 y4 y5 y6 y7;go_loopw [8,9,10,11,12,13,14,15,16] (λs8 s9 Po s11 Ms s13 s14 s15 i wr=> ∃(k:Nat) (a b c d e f g h:BitVec 32),k<=64/\rounds aE k ⟨x0,x1,x2,x3,x4,x5,x6,x7⟩=⟨a,b,c,d,e,f,g,h⟩/\s8=aJ a/\s9=aJ b/\Po=aJ c/\s11=aJ d/\Ms=aJ e/\s13=aJ f/\s14=aJ g/\s15=aJ h/\i= .int .i64 k/\aq w3 wr) (λ_ _ _ _ _ _ _ _ i _=>64-(intOf i).toNat);·exact⟨0,x0,x1,x2,x3,x4,x5,x6,x7,aa,rfl,rfl,rfl,rfl,rfl,rfl,rfl,rfl,rfl,rfl,aP _ _⟩
   ·
    obtain⟨k,a,b,c,d,e,f,g,h,hk,hr,rfl,rfl,rfl,rfl,rfl,rfl,rfl,rfl,rfl,sH⟩:=hrel;by_cases ak0:k<64
    ·have hn:=HRN.out aE k ⟨x0,x1,x2,x3,x4,x5,x6,x7⟩;rw[hr]at hn;have hu:uOf ⟨a,b,c,d,e,f,g,h⟩=(lg 2 a ^^^ lg 13 a ^^^ lg 22 a)+((a &&& b) ^^^ (a &&& c) ^^^ (b &&& c)):=rfl;have ht:tOf ⟨a,b,c,d,e,f,g,h⟩ (Kc k) (wd aE k)=h+(lg 6 e ^^^ lg 11 e ^^^ lg 25 e)+((e &&& f) ^^^ (~~~e &&& g))+Kc k+wd aE k:=rfl;have kM:roundOf (Kc k) (wd aE k) ⟨a,b,c,d,e,f,g,h⟩=⟨tOf ⟨a,b,c,d,e,f,g,h⟩ (Kc k) (wd aE k)+uOf ⟨a,b,c,d,e,f,g,h⟩,a,b,c,d+tOf ⟨a,b,c,d,e,f,g,h⟩ (Kc k) (wd aE k),e,f,g⟩:=rfl;rw[kM,hu,ht]at hn;have kq:wr.drew.cell? ⟨gq,k,none⟩=some (aJ (Kc k)):=(sH.cell (p:=⟨gq,k,none⟩) arX).trans (q_ k ak0);have kw:wr.drew.cell? ⟨gw,k,none⟩=some (aJ (wd aE k)):=(sH.cell (p:=⟨gw,k,none⟩) arW).trans (zz k ak0);generalize wd aE k=wv at*;generalize Kc k=kk at*;have HR6:=ae (λw=>kU 6 aa e w);have adu:=ae (λw=>kU 11 aa e w);have adv:=ae (λw=>kU 25 aa e w);have qy:=ae (λw=>kU 2 aa a w);have adw:=ae (λw=>kU 13 aa a w);have adx:=ae (λw=>kU 22 aa a w);clear hu ht kM hr;generalize lg 6 e=r6 at*;generalize lg 11 e=r11 at*;generalize lg 25 e=r25 at*;generalize lg 2 a=r2 at*;generalize lg 13 a=r13 at*;generalize lg 22 a=r22 at*;have HX1:=ae (pk r6 r11);generalize r6 ^^^ r11=z1 at*;have HX2:=ae (pk z1 r25);generalize z1 ^^^ r25=z2 at*;have HV1:=ae (iL h z2);generalize h+z2=t1 at*;have HA1:=ae (DH e f);generalize e &&& f=a1 at*;have HNO:=ae (aaC e);generalize ~~~e=n1 at*;have HA2:=ae (DH n1 g);generalize n1 &&& g=a2 at*;have zv:=ae (pk a1 a2);generalize a1 ^^^ a2=c1 at*;have HV2:=ae (iL t1 c1);generalize t1+c1=t2 at*;have HV3:=ae (iL t2 kk);generalize t2+kk=t3 at*;have HV4:=ae (iL t3 wv);generalize t3+wv=t at*;have U6:=ae (pk r2 r13);generalize r2 ^^^ r13=p1 at*;have TL:=ae (pk p1 r22);generalize p1 ^^^ r22=p2 at*;have mT:=ae (DH a b);generalize a &&& b=m1 at*;have F1:=ae (DH a c);generalize a &&& c=m2 at*;have U7:=ae (pk m1 m2);generalize m1 ^^^ m2=m3 at*;have Dz:=ae (DH b c);generalize b &&& c=m4 at*;have UA:=ae (pk m3 m4);generalize m3 ^^^ m4=m5 at*;have HU:=ae (jW p2 m5);generalize p2+m5=u at*;have HDT:=ae (jW d t);generalize d+t=dt at*;have HTU:=ae (jW t u);generalize t+u=tu at*;have TC:=ae hn;have xO:(k:Int)<64:=aa;have hk0:0<=(k:Int):=aa;clear hn;go_wp2_with fail;refine wp_region_held_drew (S:=λw'=>w'.cell? ⟨gq,k,none⟩=some (aJ kk)/\w'.cell? ⟨gw,k,none⟩=some (aJ wv)) ak ⟨kq,kw⟩ (λhS=> ?_);refine ag 0 hS (h:=ag 1 hS (h:=ag 3 hS (h:=ag 6 hS (h:=ag 10 hS (h:=ag 11 hS (h:=ag 12 hS (h:= ?_)))))));rw[HA1.out];refine ag 13 hS (h:=ag 14 hS (h:= ?_));rw[HNO.out];refine ag 15 hS (h:=ag 16 hS (h:= ?_));rw[HA2.out];refine ag 17 hS (h:= ?_);rw[zv.out]
     refine ag 19 hS (h:=ag 20 hS (h:=bx 21 rfl (λw hSw=>by have q0:0<=(k:Int):=aa;have q1:(k:Int)<64:=aa;go_simp;all_goals(with_reducible rfl)) hS (h:=bN 22 hS (h:=ag 24 hS (h:=ag 25 hS (h:=bx 26 rfl (λw hSw=>by have q0:0<=(k:Int):=aa;have q1:(k:Int)<64:=aa;go_simp;all_goals(with_reducible rfl)) hS (h:=bN 27 hS (h:= ?_))))))));refine aO 2 (λK hK=> ?_);go_simp;refine(HR6 _).mono ?_;rintro e w' ⟨rfl,rfl⟩;go_wp2_with fail;refine hK _ _ hS (λ_=> ?_);clear hK K;refine aO 4 (λK hK=> ?_);go_simp;refine(adu _).mono ?_;rintro e w' ⟨rfl,rfl⟩;go_wp2_with fail;refine hK _ _ hS (λ_=> ?_);clear hK K;refine ag 5 hS (h:= ?_);rw[HX1.out];refine aO 7 (λK hK=> ?_);go_simp;refine(adv _).mono ?_;rintro e w' ⟨rfl,rfl⟩;go_wp2_with fail;refine hK _ _ hS (λ_=> ?_);clear hK K;refine ag 8 hS (h:= ?_);rw[HX2.out];refine ag 9 hS (h:= ?_);rw[HV1.out];refine ag 18 hS (h:= ?_);rw[HV2.out];refine ag 23 hS (h:= ?_);rw[HV3.out];refine ag 28 hS (h:= ?_);rw[HV4.out];refine ag 29 hS (h:= ?_);refine wpAnyH_done ak ?_ _;clear kq kw;have q1:=U6.out;have q2:=TL.out;have q3:=mT.out;have q4:=F1.out;have q5:=U7.out;have q6:=Dz.out;have q7:=UA.out;have q8:=HU.out;have q9:=HDT.out;have q10:=HTU.out;go_wp2_with fail;refine(qy _).mono ?_;rintro e w' ⟨rfl,rfl⟩;go_wp2_with fail;refine(adw _).mono ?_;rintro e w' ⟨rfl,rfl⟩;go_wp2_with fail;refine(adx _).mono ?_;rintro e w' ⟨rfl,rfl⟩;go_wp2_with fail;go_roundw;case rel=>exact⟨k+1,tu,a,b,c,dt,e,f,g,aa,TC.out,(by first|rfl|exact aR (Value.int .u32) HTU.out),rfl,rfl,rfl,(by first|rfl|exact aR (Value.int .u32) HDT.out),rfl,rfl,rfl,aA,sH.drew⟩
     case measure=>simp[intOf];omega
    ·obtain rfl:k=64:=(by omega);have hm:qo ⟨x0,x1,x2,x3,x4,x5,x6,x7⟩ aE=⟨x0+a,x1+b,x2+c,x3+d,x4+e,x5+f,x6+g,x7+h⟩:=(by show R8.add _ (rounds aE 64 _)=_;rw[hr];rfl);have HM:=ae hm;clear hm hr;have y0:wr.drew.cell? ⟨gl,0,none⟩=some (aJ x0):=(sH.cell (p:=⟨gl,0,none⟩) tm).trans (EN 0 (by show 0<8;omega));have y1:wr.drew.cell? ⟨gl,1,none⟩=some (aJ x1):=(sH.cell (p:=⟨gl,1,none⟩) tm).trans (EN 1 (by show 1<8;omega));have y2:wr.drew.cell? ⟨gl,2,none⟩=some (aJ x2):=(sH.cell (p:=⟨gl,2,none⟩) tm).trans (EN 2 (by show 2<8;omega));have y3:wr.drew.cell? ⟨gl,3,none⟩=some (aJ x3):=(sH.cell (p:=⟨gl,3,none⟩) tm).trans (EN 3 (by show 3<8;omega));have y4:wr.drew.cell? ⟨gl,4,none⟩=some (aJ x4):=(sH.cell (p:=⟨gl,4,none⟩) tm).trans (EN 4 (by show 4<8;omega));have y5:wr.drew.cell? ⟨gl,5,none⟩=some (aJ x5):=(sH.cell (p:=⟨gl,5,none⟩) tm).trans (EN 5 (by show 5<8;omega));have y6:wr.drew.cell? ⟨gl,6,none⟩=some (aJ x6):=(sH.cell (p:=⟨gl,6,none⟩) tm).trans (EN 6 (by show 6<8;omega));have y7:wr.drew.cell? ⟨gl,7,none⟩=some (aJ x7):=(sH.cell (p:=⟨gl,7,none⟩) tm).trans (EN 7 (by show 7<8;omega));have HS0:=ae (iL x0 a);generalize Ey:x0+a=s0 at*;clear Ey;have sD:=ae (iL x1 b);generalize kQ:x1+b=s1 at*;clear kQ;have iy:=ae (iL x2 c);generalize qx:x2+c=s2 at*;clear qx;have Hm:=ae (iL x3 d);generalize Hv:x3+d=s3 at*;clear Hv;have HS4:=ae (iL x4 e);generalize tg:x4+e=s4 at*;clear tg;have HS5:=ae (iL x5 f);generalize hs5:x5+f=s5 at*;clear hs5;have HS6:=ae (iL x6 g);generalize hs6:x6+g=s6 at*;clear hs6;have PY:=ae (iL x7 h);generalize hs7:x7+h=s7 at*;clear hs7;have kj:=bq wr.drew (.cells #[aJ s0,aJ s1,aJ s2,aJ s3,aJ s4,aJ s5,aJ s6,aJ s7] 24)
     have TI:Hid ((wr.drew.alloc (.cells #[aJ s0,aJ s1,aJ s2,aJ s3,aJ s4,aJ s5,aJ s6,aJ s7] 24)).cell? ⟨gl,0,none⟩=some (aJ x0)/\(wr.drew.alloc (.cells #[aJ s0,aJ s1,aJ s2,aJ s3,aJ s4,aJ s5,aJ s6,aJ s7] 24)).cell? ⟨gl,1,none⟩=some (aJ x1)/\(wr.drew.alloc (.cells #[aJ s0,aJ s1,aJ s2,aJ s3,aJ s4,aJ s5,aJ s6,aJ s7] 24)).cell? ⟨gl,2,none⟩=some (aJ x2)/\(wr.drew.alloc (.cells #[aJ s0,aJ s1,aJ s2,aJ s3,aJ s4,aJ s5,aJ s6,aJ s7] 24)).cell? ⟨gl,3,none⟩=some (aJ x3)/\(wr.drew.alloc (.cells #[aJ s0,aJ s1,aJ s2,aJ s3,aJ s4,aJ s5,aJ s6,aJ s7] 24)).cell? ⟨gl,4,none⟩=some (aJ x4)/\(wr.drew.alloc (.cells #[aJ s0,aJ s1,aJ s2,aJ s3,aJ s4,aJ s5,aJ s6,aJ s7] 24)).cell? ⟨gl,5,none⟩=some (aJ x5)/\(wr.drew.alloc (.cells #[aJ s0,aJ s1,aJ s2,aJ s3,aJ s4,aJ s5,aJ s6,aJ s7] 24)).cell? ⟨gl,6,none⟩=some (aJ x6)/\(wr.drew.alloc (.cells #[aJ s0,aJ s1,aJ s2,aJ s3,aJ s4,aJ s5,aJ s6,aJ s7] 24)).cell? ⟨gl,7,none⟩=some (aJ x7)):=
      ae ⟨(kj.cell (p:=⟨gl,0,none⟩) (db tm sH.size)).trans y0,(kj.cell (p:=⟨gl,1,none⟩) (db tm sH.size)).trans y1,(kj.cell (p:=⟨gl,2,none⟩) (db tm sH.size)).trans y2,(kj.cell (p:=⟨gl,3,none⟩) (db tm sH.size)).trans y3,(kj.cell (p:=⟨gl,4,none⟩) (db tm sH.size)).trans y4,(kj.cell (p:=⟨gl,5,none⟩) (db tm sH.size)).trans y5,(kj.cell (p:=⟨gl,6,none⟩) (db tm sH.size)).trans y6,(kj.cell (p:=⟨gl,7,none⟩) (db tm sH.size)).trans y7⟩
     have aL:aZ 24 w.heap.size (wr.drew.alloc (.cells #[aJ s0,aJ s1,aJ s2,aJ s3,aJ s4,aJ s5,aJ s6,aJ s7] 24)) (.slice (some ⟨wr.heap.size,0,none⟩) 8 8) [aJ s0,aJ s1,aJ s2,aJ s3,aJ s4,aJ s5,aJ s6,aJ s7]:=
      aZ.lit 24 wr.drew [aJ s0,aJ s1,aJ s2,aJ s3,aJ s4,aJ s5,aJ s6,aJ s7] (a8 RY sH.size) ah
     have Qy:aq w2 (wr.drew.alloc (.cells #[aJ s0,aJ s1,aJ s2,aJ s3,aJ s4,aJ s5,aJ s6,aJ s7] 24)):=(aQ ja sH).drew.alloc (a8 ja.size sH.size) _;clear kj;go_wp2_with fail;refine wp_region_held_drew (S:=λw'=>w'.cell? ⟨gl,0,none⟩=some (aJ x0)/\w'.cell? ⟨gl,1,none⟩=some (aJ x1)/\w'.cell? ⟨gl,2,none⟩=some (aJ x2)/\w'.cell? ⟨gl,3,none⟩=some (aJ x3)/\w'.cell? ⟨gl,4,none⟩=some (aJ x4)/\w'.cell? ⟨gl,5,none⟩=some (aJ x5)/\w'.cell? ⟨gl,6,none⟩=some (aJ x6)/\w'.cell? ⟨gl,7,none⟩=some (aJ x7)) ak ⟨y0,y1,y2,y3,y4,y5,y6,y7⟩ (λhS=> ?_);refine ag 0 hS (h:=ag 1 hS (h:=bN 2 hS (h:=ag 3 hS (h:=ag 4 hS (h:= ?_)))));rw[HS0.out];refine ag 5 hS (h:=ag 6 hS (h:=bN 7 hS (h:=ag 8 hS (h:=ag 9 hS (h:= ?_)))));rw[sD.out];refine ag 10 hS (h:=ag 11 hS (h:=bN 12 hS (h:=ag 13 hS (h:=ag 14 hS (h:= ?_)))));rw[iy.out];refine ag 15 hS (h:=ag 16 hS (h:=bN 17 hS (h:=ag 18 hS (h:=ag 19 hS (h:= ?_)))));rw[Hm.out];refine ag 20 hS (h:=ag 21 hS (h:=bN 22 hS (h:=ag 23 hS (h:=ag 24 hS (h:= ?_)))));rw[HS4.out];refine ag 25 hS (h:=ag 26 hS (h:=bN 27 hS (h:=ag 28 hS (h:=ag 29 hS (h:= ?_)))));rw[HS5.out];refine ag 30 hS (h:=ag 31 hS (h:=bN 32 hS (h:=ag 33 hS (h:=ag 34 hS (h:= ?_)))));rw[HS6.out];refine ag 35 hS (h:=ag 36 hS (h:=bN 37 hS (h:=ag 38 hS (h:=ag 39 hS (h:= ?_)))));rw[PY.out];refine aO 40 (λK hK=> ?_);go_simp;refine hK _ _ TI.out (λ_=> ?_);clear hK K;refine ag 41 TI.out (h:= ?_);refine wpAnyH_done ak ?_ _;clear y0 y1 y2 y3 y4 y5 y6 y7 hS;go_wp2_with fail;go_roundw;case rel=>exact⟨j+1,aa,by rw[HJ.out];go_num,by rw[Ao.out,HM.out];exact aL,Qy⟩
     case measure=>have:=xg.out;simp[intOf];omega
  ·obtain rfl:j=m:=(by omega);have HRC:Hid (∀i,i<8->wr.cell? ⟨gl,i,none⟩=some (aJ ((comp dP L j).get i))):=ae (λi hi=>by
    have h8:i<(comp dP L j).agg.toList.length:=hi;rw[ZG.out i h8,<-dS h8,Array.getElem?_toList];exact R8.By _ i hi)
   obtain⟨N,hN⟩: ∃t,64*j=t:=⟨_,rfl⟩
   rw[hN]at hcL ⊢;clear hN ZG hv;generalize hR:comp dP L j=R at*;clear hR;generalize wr=w5 at*;go_wp2_with fail;go_loopw [19,20] (λv i wr=> ∃k:Nat,k<=8/\i= .int .i64 k/\Own w5.heap.size wr v (ik R k)/\aq w5 wr) (λ_ i _=>8-(intOf i).toNat);·exact⟨0,aa,rfl,Own.nil _ _,aP _ _⟩
   ·
    obtain⟨k,hk,rfl,aL,sH⟩:=hrel;by_cases arZ:k<8
    ·have kx:wr.drew.cell? ⟨gl,k,none⟩=some (aJ (R.get k)):=(sH.cell (p:=⟨gl,k,none⟩) DJ).trans (HRC k arZ);have A_:Hid (ik R (k+1)=ik R k++Eo (R.get k)):=ae rfl;have Dp:Hid ((ik R k).length<=32):=ae (by rw[jX];omega);generalize R.get k=x at*;have EY:Hid (IntKind.u8.wrap ((x.toNat:Int)/16777216)=((UInt8.ofNat (x.toNat/16777216%256)).toNat:Int)):=ae (yc x 16777216);have bF:Hid (IntKind.u8.wrap ((x.toNat:Int)/65536)=((UInt8.ofNat (x.toNat/65536%256)).toNat:Int)):=ae (yc x 65536);have dG:Hid (IntKind.u8.wrap ((x.toNat:Int)/256)=((UInt8.ofNat (x.toNat/256%256)).toNat:Int)):=ae (yc x 256);have ft:=ae (NL x);have hbe:Eo x=[UInt8.ofNat (x.toNat/16777216%256),UInt8.ofNat (x.toNat/65536%256),UInt8.ofNat (x.toNat/256%256),UInt8.ofNat (x.toNat%256)]:=rfl;rw[hbe]at A_;have LN:Hid (0<=(x.toNat:Int)):=ae aa;have HX1:Hid ((x.toNat:Int)<4294967296):=ae (av x.isLt);have HQ0:Hid (IntKind.u32.wrap ((x.toNat:Int)/16777216)=(x.toNat:Int)/16777216):=ae FO;have TV:Hid (IntKind.u32.wrap ((x.toNat:Int)/65536)=(x.toNat:Int)/65536):=ae FO;have yC:Hid (IntKind.u32.wrap ((x.toNat:Int)/256)=(x.toNat:Int)/256):=ae FO;clear hbe;generalize UInt8.ofNat (x.toNat/16777216%256)=b0 at*;generalize UInt8.ofNat (x.toNat/65536%256)=b1 at*;generalize UInt8.ofNat (x.toNat/256%256)=b2 at*;generalize UInt8.ofNat (x.toNat%256)=b3 at*;generalize ik R k=O at*;have kj:=bq wr.drew (.cells #[B8 b0,B8 b1,B8 b2,B8 b3] 5);have TI:Hid ((wr.drew.alloc (.cells #[B8 b0,B8 b1,B8 b2,B8 b3] 5)).cell? ⟨gl,k,none⟩=some (aJ x)):=ae ((kj.cell (p:=⟨gl,k,none⟩) (db DJ sH.size)).trans kx);have cG:Own w5.heap.size (wr.drew.alloc (.cells #[B8 b0,B8 b1,B8 b2,B8 b3] 5)) u19 O:=aL.drew.alloc _;have HOW:=ae cG;have gx:Hid (Bytes (wr.drew.alloc (.cells #[B8 b0,B8 b1,B8 b2,B8 b3] 5)) (some ⟨wr.heap.size,0,none⟩) [b0,b1,b2,b3]):=ae (.inr ⟨_,_,rfl,ah,λq hq=>by
      show World.cell? _ ⟨wr.drew.heap.size,0+q,none⟩=_;rw[aC _ _ _ _ _ _ (bz wr.drew _)];match q,hq with|0,_|1,_|2,_|3,_=>rfl⟩)
     have Xe:Hid (O.length+[b0,b1,b2,b3].length<=140737488355328):=ae (by have:=Dp.out;simp;omega);have bc:aq w5 (wr.drew.alloc (.cells #[B8 b0,B8 b1,B8 b2,B8 b3] 5)):=sH.drew.alloc sH.size _;have il:Hid (w5.heap.size<=(wr.drew.alloc (.cells #[B8 b0,B8 b1,B8 b2,B8 b3] 5)).heap.size):=ae bc.size;have fJ:=ae bc;have HKP:Hid (∀w3,(wr.drew.alloc (.cells #[B8 b0,B8 b1,B8 b2,B8 b3] 5)).grownBy w3 u19.ownBlock->w3.cell? ⟨gl,k,none⟩=some (aJ x)):=ae (λw3 hg=>
      ((am bc hg bc.size (λg e=>(jO cG g e).1)).cell (p:=⟨gl,k,none⟩) DJ).trans ((sH.cell (p:=⟨gl,k,none⟩) DJ).symm.trans kx))
     have xO:(k:Int)<8:=aa;have hk0:0<=(k:Int):=aa;clear kj bc cG;go_wp2_with fail;refine wp_region_held_drew (S:=λw'=>w'.cell? ⟨gl,k,none⟩=some (aJ x)) ak kx (λhS=> ?_);refine ag 0 hS (h:=ag 1 hS (h:=ag 2 hS (h:=bx 3 rfl (λw hSw=>by have q0:0<=(k:Int):=aa;have q1:(k:Int)<8:=aa;go_simp;all_goals(with_reducible rfl)) hS (h:=bN 4 hS (h:=bx 5 rfl (λw hSw=>FP) hS (h:= ?_))))));rw[HQ0.out];refine ag 6 hS (h:= ?_);rw[EY.out];refine ag 7 hS (h:=ag 8 hS (h:=bx 9 rfl (λw hSw=>by have q0:0<=(k:Int):=aa;have q1:(k:Int)<8:=aa;go_simp;all_goals(with_reducible rfl)) hS (h:=bN 10 hS (h:=bx 11 rfl (λw hSw=>FP) hS (h:= ?_)))));rw[TV.out];refine ag 12 hS (h:= ?_);rw[bF.out];refine ag 13 hS (h:=ag 14 hS (h:=bx 15 rfl (λw hSw=>by have q0:0<=(k:Int):=aa;have q1:(k:Int)<8:=aa;go_simp;all_goals(with_reducible rfl)) hS (h:=bN 16 hS (h:=bx 17 rfl (λw hSw=>FP) hS (h:= ?_)))));rw[yC.out];refine ag 18 hS (h:= ?_);rw[dG.out];refine ag 19 hS (h:=ag 20 hS (h:=bx 21 rfl (λw hSw=>by have q0:0<=(k:Int):=aa;have q1:(k:Int)<8:=aa;go_simp;all_goals(with_reducible rfl)) hS (h:=bN 22 hS (h:=ag 23 hS (h:= ?_)))));rw[ft.out];refine aO 24 (λK hK=> ?_);go_simp;refine hK _ _ TI.out (λ_=> ?_);clear hK K;refine aO 25 (λK hK=> ?_);refine fx rfl (.tmp 173) (.tmp 197) rfl w5.heap.size (wr.drew.alloc (.cells #[B8 b0,B8 b1,B8 b2,B8 b3] 5)) u19 O rfl HOW.out _ [b0,b1,b2,b3] 4 rfl gx.out Xe.out il.out ?_;intro v2 w3 bJ kg;refine en ?_;refine hK _ _ (HKP w3 kg) (λ_=> ?_);clear hK K;refine ag 26 (HKP w3 kg) (h:= ?_);refine wpAnyH_done ak ?_ _;go_wp2_with fail;have eS:=am fJ.out kg il.out (λg e=>(jO HOW.out g e).1);go_roundw;case rel=>exact⟨k+1,aa,aA,by rw[A_.out];exact bJ,eS⟩
     case measure=>simp[intOf];omega
    ·obtain rfl:k=8:=(by omega);rw[<-HDG.out]at aL;obtain⟨Aw,cw,rfl,hcw,hmw,hBw⟩:=aL.read;go_wp2;go_ret;exact⟨Aw,cw,rfl,hcw,hmw,hBw,Sp.trans ((aQ hb sH).mono Sp.size)⟩
namespace cK
def s1(p x:BitVec n):BitVec n:=(x >>> 1) ^^^ (if x.getLsbD 0 then p else 0#n)
def sn(p:BitVec n):Nat->BitVec n->BitVec n
 | 0,x=>x
 | k+1,x=>sn p k (s1 p x)
theorem CH(p:BitVec n)(j k:Nat)(x:BitVec n):sn p (j+k) x=sn p k (sn p j x):=by
 induction j generalizing x with
 | zero=>simp[sn]
 | succ j ih=>rw[Nat.succ_add];simp only[sn];exact ih _
theorem wD(p:BitVec n)(k:Nat)(x:BitVec n):sn p (k+1) x=s1 p (sn p k x):=by rw[CH];rfl
theorem ae6(p x y:BitVec n):s1 p (x ^^^ y)=s1 p x ^^^ s1 p y:=by unfold s1;apply BitVec.eq_of_getLsbD_eq;intro i hi;cases hx:x.getLsbD 0<;>cases hy:y.getLsbD 0<;>simp[hx,hy]<;>(first|done|(cases x.getLsbD (1+i)<;>cases y.getLsbD (1+i)<;>cases p.getLsbD i<;>rfl))
theorem NM(p:BitVec n)(k:Nat)(x y:BitVec n):sn p k (x ^^^ y)=sn p k x ^^^ sn p k y:=by
 induction k generalizing x y with
 | zero=>rfl
 | succ k ih=>simp only[sn];rw[ae6,ih]
theorem aaD(p:BitVec n)(k:Nat):sn p k 0#n=0#n:=by
 induction k with
 | zero=>rfl
 | succ k ih=>
  have h:s1 p 0#n=0#n:=by unfold s1;simp
  simp only[sn];rw[h];exact ih
theorem PZ(p:BitVec n)(k:Nat)(x:BitVec n)(h: ∀i,i<k->x.getLsbD i=false):sn p k x=x >>> k:=by
 induction k generalizing x with
 | zero=>simp[sn]
 | succ k ih=>
  have h0:=h 0 aa;have h1:s1 p x=x >>> 1:=by unfold s1;simp[h0]
  simp only[sn];rw[h1,ih (x >>> 1) (by intro i hi;simp only[BitVec.getLsbD_ushiftRight];exact h _ aa)];rw[Nat.add_comm k 1,BitVec.shiftRight_add]
def low(x:BitVec n):BitVec n:=(x.setWidth 8).setWidth n
theorem P0(x:BitVec n)(i:Nat):(low x).getLsbD i=(decide (i<8)&&x.getLsbD i):=by
 unfold low;rw[BitVec.getLsbD_setWidth,BitVec.getLsbD_setWidth];by_cases h:i<n;·simp[h]
 ·simp[h,BitVec.getLsbD_of_ge _ _ (Nat.le_of_not_lt h)]
theorem Ax(p x:BitVec n):sn p 8 x=(x >>> 8) ^^^ sn p 8 (low x):=by
 have e:x=(x ^^^ low x) ^^^ low x:=by rw[BitVec.xor_assoc,BitVec.xor_self,BitVec.xor_zero]
 have h:sn p 8 (x ^^^ low x)=(x ^^^ low x) >>> 8:=PZ p 8 _ (by
  intro i hi;rw[BitVec.getLsbD_xor,P0];simp[hi])
 have h2:(x ^^^ low x) >>> 8=x >>> 8:=by apply BitVec.eq_of_getLsbD_eq;intro i hi;simp only[BitVec.getLsbD_ushiftRight,BitVec.getLsbD_xor,P0];simp[show ¬8+i<8 by omega]
 conv=>lhs;rw[e]
 rw[NM,h,h2]
def ext(n:Nat)(b:UInt8):BitVec n:=b.toBitVec.setWidth n
def P4(p:BitVec n)(x:BitVec n)(b:UInt8):BitVec n:=sn p 8 (x ^^^ ext n b)
def fi(p:BitVec n)(x:BitVec n)(l:An):BitVec n:=l.foldl (P4 p) x
theorem yX(p x:BitVec n)(a b:An):fi p x (a++b)=fi p (fi p x a) b:=by unfold fi;rw[List.foldl_append]
theorem GR(n:Nat)(b:UInt8)(i:Nat)(hi:8<=i):(ext n b).getLsbD i=false:=by unfold ext;rw[BitVec.getLsbD_setWidth,BitVec.getLsbD_of_ge _ _ hi];simp
end cK
namespace C3
def kn:BitVec 32:=3988292384#32
theorem D1(a b:BitVec 32):bits .xor .u32 (a.toNat:Int) (b.toNat:Int)=((a ^^^ b).toNat:Int):=by rw[u32_xor_nat _ _ a.isLt b.isLt,BitVec.toNat_xor]
theorem XD(a:BitVec 32):bits .and .u32 (a.toNat:Int) 1=((a.toNat%2:Nat):Int):=by rw[show(1:Int)=((1:Nat):Int)from rfl,u32_and_nat _ _ a.isLt aa,nat_mask1]
theorem NP(a:BitVec 32):a.getLsbD 0=decide (a.toNat%2=1):=by rw[BitVec.getLsbD,Nat.testBit_zero]
theorem NQ(a:BitVec 32):(a.toNat:Int)/(2:Int)=((a >>> 1).toNat:Int):=by rw[BitVec.toNat_ushiftRight,qC];simp
theorem NR(x:BitVec 32)(h:(bits .and .u32 (x.toNat:Int) 1==1)=true):bits .xor .u32 ((x.toNat:Int)/2) 3988292384=((cK.s1 kn x).toNat:Int):=by
 have h1:x.getLsbD 0=true:=by rw[XD]at h;rw[NP];simp at h ⊢;omega
 rw[NQ,show(3988292384:Int)=(kn.toNat:Int)from rfl,D1];unfold cK.s1;rw[h1];simp
theorem XE(x:BitVec 32)(h:(bits .and .u32 (x.toNat:Int) 1==1)=false):(x.toNat:Int)/2=((cK.s1 kn x).toNat:Int):=by
 have h1:x.getLsbD 0=false:=by rw[XD]at h;rw[NP];simp at h ⊢;omega
 rw[NQ];unfold cK.s1;rw[h1];simp
theorem D2(r:BitVec 32)(w:Lo):
  Calls prog 237 #[.int .u32 r.toNat] w λe w'=>e= .returned (.int .u32 (cK.sn kn 8 r).toNat)/\w=w':=by
 go_enter func237,ntmps237;go_wp2;go_loop [0,4] (λa i=> ∃(k:Nat),k<=8/\i= .int .i64 k/\a= .int .u32 (cK.sn kn k r).toNat) (λ_ i=>8-(intOf i).toNat);·exact⟨0,aa,rfl,rfl⟩
 ·
  obtain⟨k,hk,rfl,rfl⟩:=hrel;by_cases h:k<8
  ·have hs:=ae (cK.wD kn k r);generalize cK.sn kn k r=x at*;go_wp2
   ·go_round;case rel=>exact⟨k+1,aa,aA,by rw[hs.out,<-NR x (by assumption)]⟩
    case measure=>simp[intOf];omega
   ·go_round;case rel=>exact⟨k+1,aa,aA,by rw[hs.out,<-XE x (by assumption)]⟩
    case measure=>simp[intOf];omega
  ·obtain rfl:k=8:=(by omega);go_wp2;go_ret;exact⟨rfl,rfl⟩
end C3
namespace C3
def iq:Array Value:=Array.replicate 1024 (.int .u32 0)
theorem XF:(prog.info? 270).map (λi=>(i.zero,i.size))=some (some (.agg iq),1024):=ak
theorem BC:(prog.info? 268).map (·.size)=some 256:=ak
def T(j:Nat):BitVec 32:=cK.sn kn (8*(j/256+1)) (BitVec.ofNat 32 (j%256))
def tabs:Array Value:=((List.range 1024).map λi=>Value.int .u32 (T i).toNat).toArray
theorem Ay:(prog.info? 270).map (·.size)=some 1024:=ak
def iE(k j:Nat):Value:=if j<k then .int .u32 (T j).toNat else .int .u32 0
theorem D3(n:Nat)(hn:n<4294967296)(w:Lo):
  Calls prog 237 #[.int .u32 n] w λe w'=>e= .returned (.int .u32 (cK.sn kn 8 (BitVec.ofNat 32 n)).toNat)/\w=w':=by
 have h:=D2 (BitVec.ofNat 32 n) w;have e:(BitVec.ofNat 32 n).toNat=n:=aH;rwa [e]at h
theorem wE(k:Nat): ∀i,(if i=k then Value.int .u32 (T k).toNat else iE k i)=iE (k+1) i:=by
 intro i;unfold iE;by_cases h:i=k;·subst h;simp
 ·by_cases h2:i<k;·simp[h,h2,show i<k+1 by omega]
  ·simp[h,h2,show ¬i<k+1 by omega]
theorem XG(k:Nat)(h:k<256):T k=cK.sn kn 8 (BitVec.ofNat 32 k):=by unfold T;rw[Nat.div_eq_of_lt h,mY h]
def seg(k:Nat):List Value:=(List.range 256).map λi=>iE (256*k) (256*(k-1)+i)
theorem Sq(r:w.rowIs g 270 1024 (iE (256*k)))(h1:1<=k)(h:k<4):w.rangeAt g ((k-1)*256) (seg k):=by
 intro j v hv;unfold seg at hv;rw[List.getElem?_map]at hv;by_cases hj:j<256;·rw[List.getElem?_range hj]at hv;simp at hv;subst hv;rw[dR (k-1) 256];exact r.cell aa
 ·rw[qE aH]at hv;simp at hv
theorem rV(h:j<k):iE k j= .int .u32 (T j).toNat:=by unfold iE;rw[ax h]
theorem Sr(k j:Nat)(hj:j<256)(hk:1<=k)(w:Lo):(Instr.index 268 (.agg (seg k).toArray) (.int .i64 j)).run prog w= .ok (.int .u32 (T (256*(k-1)+j)).toNat) w:=by
 have hs:(prog.info? 24).map (·.size)=some 1:=ak;have hg:(seg k)[j]? =some (.int .u32 (T (256*(k-1)+j)).toNat):=by unfold seg;rw[List.getElem?_map,List.getElem?_range hj];simp[rV (show 256*(k-1)+j<256*k by omega)]
 cases hq:prog.info? 24 with
 | none=>rw[hq]at hs;simp at hs
 | some i=>
  have dF:i.size=1:=by rw[hq]at hs;simpa using hs
  simp[Instr.index,asIntOf,run_underlying underlying268,Sem.run_bind,sizeOf,typeInfo,hq,dF,part,hg,hj]
theorem aaE(v:BitVec 32): ∃m:Nat,m<256/\m=v.toNat%256/\IntKind.u8.wrap (v.toNat:Int)=m:=
 ⟨v.toNat%256,Nat.mod_lt _ aa,rfl,by rw[IntKind.wrap_u8'];omega⟩
theorem ae8(k j:Nat)(hk:1<=k):T (256*k+j)=(T (256*(k-1)+j) >>> 8) ^^^ T ((T (256*(k-1)+j)).toNat%256):=by
 have e1:T (256*k+j)=cK.sn kn 8 (T (256*(k-1)+j)):=by unfold T;rw[<-cK.CH,show(256*(k-1)+j)%256=(256*k+j)%256 by omega];congr 1;omega
 generalize T (256*(k-1)+j)=v at*;rw[e1,cK.Ax,XG _ (Nat.mod_lt _ aa)];congr 2;unfold cK.low;apply BitVec.eq_of_toNat_eq;simp only[BitVec.toNat_setWidth,lG]
theorem wF(w:Lo):(w.alloc (.cells iq 270)).rowIs w.heap.size 270 1024 (iE 0):=by
 have h:=World.rowIs_alloc w iq 270 (iE 0) (λi hi=>by
  unfold iq at hi ⊢;rw[Array.getElem?_replicate,ax jP];simp[iE])
 have e:iq.size=1024:=by simp[iq]
 rwa [e]at h
theorem AA(hn:cs.size=1024)(hv: ∀i,i<1024->cs[i]? =some (iE (256*4) i)):cs=tabs:=by
 apply Array.ext_getElem?;intro i;by_cases hi:i<1024;·rw[hv i hi,rV aa];unfold tabs;rw[List.getElem?_toArray,List.getElem?_map,List.getElem?_range hi];rfl
 ·rw[lI aa,lI (by simp[tabs];omega)]
theorem XH(hn:cs.size=1024)(hv: ∀i,i<1024->cs[i]? =some (iE (256*4) i)):cs.all (·.oneCell')=true:=by rw[AA hn hv];unfold tabs;rw[List.all_toArray,List.all_map,List.all_eq_true];intro x _;rfl
theorem NS(w:Lo):
  Calls prog 196 #[] w λe w'=>e= .returned (.agg tabs)/\Below w.heap.size w w':=by
 have hz:=(zero_of_info XF).1;go_enter func196,ntmps196;go_wp2_with fail;have h0:((w.alloc (.cells iq 270)).alloc (.cells iq 270)).rowIs w.heap.size 270 1024 (iE 0):=(wF w).alloc _;have h1:((w.alloc (.cells iq 270)).alloc (.cells iq 270)).rowIs (w.heap.size+1) 270 1024 (iE 0):=by have:=wF (w.alloc (.cells iq 270));simpa using this
 have hb:aq w ((w.alloc (.cells iq 270)).alloc (.cells iq 270)):=(az).alloc ah _;generalize(w.alloc (.cells iq 270)).alloc (.cells iq 270)=w1 at*;generalize hg:w.heap.size+1=g at*;have lN:w.heap.size<g:=aa;have HG:=ae hg;clear hg;go_loopw [6] (λi wr=> ∃k:Nat,k<=256/\i= .int .i64 k/\wr.rowIs w.heap.size 270 1024 (iE 0)/\wr.rowIs g 270 1024 (iE k)/\aq w wr) (λi _=>256-(intOf i).toNat);·exact⟨0,aa,rfl,h0,h1,hb⟩
 ·
  obtain⟨k,hk,rfl,r0,r1,rb⟩:=hrel;by_cases h:k<256
  ·have hc:=r1.cell (i:=k) aa;have hf:=r1.frozen k;go_wp2_with fail;refine(D3 k aa _).mono ?_;rintro e w' ⟨rfl,rfl⟩;go_wp2_with fail;go_roundw;case rel=>refine⟨k+1,aa,aA,r0.setOther aH _,?_,rb.setCell aH _⟩;refine(r1.set k _).congr λi _=> ?_;rw[<-XG k h];exact wE k i
   case measure=>simp[intOf];omega
  ·obtain rfl:k=256:=(by omega);go_wp2_with fail;clear h0 h1 hb hk h;go_loopw [3] (λi wr=> ∃k:Nat,1<=k/\k<=4/\i= .int .i64 k/\wr.rowIs w.heap.size 270 1024 (iE 0)/\wr.rowIs g 270 1024 (iE (256*k))/\aq w wr) (λi _=>4-(intOf i).toNat);·exact⟨1,aa,aa,rfl,r0,r1,rb⟩
   ·
    obtain⟨k,ln,hk,rfl,r0,r1,rb⟩:=hrel;by_cases h:k<4
    ·have uc:=Sq r1 ln h;go_wp2_with (refine wpList_load_mid rfl 268 _ rfl g ((k-1)*256) rfl (seg k) _ uc underlying268 rfl ?c0 ?_)
     case c0=>rw[BC];simp[seg]
     clear uc;obtain⟨wo,rfl⟩: ∃wo:Lo,wo=wr:=⟨_,rfl⟩
     go_loopw [24] (λi wr=> ∃j:Nat,j<=256/\i= .int .i64 j/\wr.rowIs w.heap.size 270 1024 (iE 0)/\wr.rowIs g 270 1024 (iE (256*k+j))/\aq w wr) (λi _=>256-(intOf i).toNat);·exact⟨0,aa,rfl,r0,r1,rb⟩
     ·
      clear r0 r1 rb;obtain⟨j,hj,rfl,r0,r1,rb⟩:=hrel;by_cases aV:j<256
      ·have Al:=Sr k j aV ln;have hm:=aaE (T (256*(k-1)+j));have hT:=ae (ae8 k j ln);generalize T (256*(k-1)+j)=v at*;obtain⟨m,ol,Le,hmw⟩:=hm;have dE:=r1.cell (i:=m) aa;have ei:=r1.cell (i:=k*256+j) aa;have hf:=r1.frozen (k*256+j);rw[rV aa]at dE;have Hmv:=ae Le;clear Le;go_wp2_with fail;go_region
       all_goals
        go_wp2_with fail;go_roundw;case rel=>refine⟨j+1,aa,aA,r0.drew.setOther aH _,?_,rb.drew.setCell aH _⟩;refine(r1.drew.set _ _).congr λi _=> ?_;have e:(v.toNat:Int)/(256:Int)=((v >>> 8).toNat:Int):=(by rw[BitVec.toNat_ushiftRight,qC];simp);rw[<-m6,<-wE,hT.out,<-Hmv.out,e,D1,dR k 256]
        case measure=>simp[intOf];omega
      ·obtain rfl:j=256:=(by omega);go_wp2_with fail;go_roundw;case rel=>
        (repeat apply Exists.intro)
        exact⟨⟨k+1,aa,aa,aA,r0,by rw[Nat.mul_add];exact r1,rb⟩,rfl⟩
       case measure=>simp[intOf];omega
    ·obtain rfl:k=4:=(by omega);obtain⟨cs,hcs,hn,hv⟩:=r1;obtain⟨os,Bw,sE,hvo⟩:=r0;go_wp2_with (first|(refine wpList_load_row rfl 270 _ rfl g rfl 270 cs _ _ hcs underlying270 rfl ?c1 ?_)|(refine wpList_store_row rfl 270 _ _ rfl w.heap.size cs rfl rfl 270 os Bw ?c2 ?c3 ?c4 ?_))
     case c1=>rw[Ay,hn]
     case c2=>rw[Ay,hn]
     case c3=>rw[sE,hn]
     case c4=>exact XH hn hv
     refine bA (results_cell_row rfl _ _ w.heap.size 270 cs _ _ rfl (setRow_heap _ _ _ _ _ _ Bw) underlying270 rfl (by rw[Ay,hn])) rfl ?_;refine⟨?_,?_⟩;·rw[AA hn hv]
     ·have aV:w.heap.size<=w.heap.size:=aF _;exact below_setRow rb aV _
end C3
namespace C3
def CI(b0 b1 b2 b3:UInt8):BitVec 32:=((cK.ext 32 b0 ||| cK.ext 32 b1 <<< 8) ||| cK.ext 32 b2 <<< 16) ||| cK.ext 32 b3 <<< 24
theorem NT(b:UInt8)(j i:Nat):(cK.ext 32 b <<< j).getLsbD i=(decide (i<32)&&decide (j<=i)&&b.toBitVec.getLsbD (i-j)):=by
 rw[BitVec.getLsbD_shiftLeft];unfold cK.ext;rw[BitVec.getLsbD_setWidth];by_cases h1:i<32
 ·by_cases h2:i<j;·simp[h1,h2,show ¬j<=i by omega]
  ·simp[h1,h2,show i-j<32 by omega,show j<=i by omega]
 ·simp[h1]
theorem NU(b:UInt8)(i:Nat)(h:8<=i):b.toBitVec.getLsbD i=false:=BitVec.getLsbD_of_ge _ _ h
theorem Ss(b0 b1 b2 b3:UInt8):CI b0 b1 b2 b3=((cK.ext 32 b0 <<< 0 ^^^ cK.ext 32 b1 <<< 8) ^^^ cK.ext 32 b2 <<< 16) ^^^ cK.ext 32 b3 <<< 24:=by
 have e0:cK.ext 32 b0=cK.ext 32 b0 <<< 0:=ah;unfold CI;conv=>lhs;rw[e0]
 apply BitVec.eq_of_getLsbD_eq;intro i hi;simp only[BitVec.getLsbD_or,BitVec.getLsbD_xor,NT];by_cases h1:i<8;·simp[show ¬8<=i by omega,show ¬16<=i by omega,show ¬24<=i by omega]
 ·by_cases h2:i<16;·simp[show ¬16<=i by omega,show ¬24<=i by omega,NU b0 i aa]
  ·by_cases h3:i<24;·simp[show ¬24<=i by omega,NU b0 i aa,NU b1 (i-8) aa]
   ·simp[NU b0 i aa,NU b1 (i-8) aa,NU b2 (i-16) aa]
theorem sV(z:BitVec 32)(j:Nat)(b:UInt8)(hj:j+8<=32):cK.P4 kn (cK.sn kn j z) b=cK.sn kn (j+8) (z ^^^ cK.ext 32 b <<< j):=by
 have h:cK.sn kn j (cK.ext 32 b <<< j)=cK.ext 32 b:=by
  rw[cK.PZ kn j _ (by intro i hi;rw[NT];simp[show ¬j<=i by omega])];apply BitVec.eq_of_getLsbD_eq;intro i hi;rw[BitVec.getLsbD_ushiftRight,NT];by_cases h8:i<8;·unfold cK.ext;rw[BitVec.getLsbD_setWidth];simp[show j+i<32 by omega,hi]
  ·rw[cK.GR 32 b i aa];simp[NU b i aa]
 unfold cK.P4;rw[cK.CH,cK.NM kn j,h]
theorem ak2(r:BitVec 32)(b0 b1 b2 b3:UInt8):cK.fi kn r [b0,b1,b2,b3]=cK.sn kn 32 (r ^^^ CI b0 b1 b2 b3):=by have h0:=sV r 0 b0 aa;have h1:=λz=>sV z 8 b1 aa;have h2:=λz=>sV z 16 b2 aa;have h3:=λz=>sV z 24 b3 aa;simp only[cK.fi,List.foldl];rw[show cK.P4 kn r b0=cK.sn kn 8 (r ^^^ cK.ext 32 b0 <<< 0)from h0,h1,h2,h3,Ss];simp only[BitVec.xor_assoc]
theorem aaF(x:BitVec 32)(j:Nat):cK.low (x >>> j)=BitVec.ofNat 32 (x.toNat/2^j%256):=by unfold cK.low;apply BitVec.eq_of_toNat_eq;simp only[BitVec.toNat_setWidth,lG,BitVec.toNat_ushiftRight,qC]
theorem aaG(k m:Nat)(hm:m<256):T (256*k+m)=cK.sn kn (8*(k+1)) (BitVec.ofNat 32 m):=by unfold T;rw[show(256*k+m)/256=k by omega,show(256*k+m)%256=m by omega]
theorem P6(x:BitVec 32)(j k:Nat):cK.sn kn (8+k) (x >>> j)=cK.sn kn k (x >>> (j+8)) ^^^ cK.sn kn (8+k) (BitVec.ofNat 32 (x.toNat/2^j%256)):=by rw[cK.CH,cK.Ax,cK.NM,aaF,<-cK.CH,BitVec.shiftRight_add]
theorem four(x:BitVec 32):((T (768+x.toNat%256) ^^^ T (512+x.toNat/256%256)) ^^^ T (256+x.toNat/65536%256)) ^^^ T (x.toNat/16777216%256)=cK.sn kn 32 x:=by
 have t3:=aaG 3 (x.toNat%256) aa;have t2:=aaG 2 (x.toNat/256%256) aa;have t1:=aaG 1 (x.toNat/65536%256) aa;have t0:=aaG 0 (x.toNat/16777216%256) aa;have s0:=P6 x 0 24;have s1:=P6 x 8 16;have s2:=P6 x 16 8;have s3:=P6 x 24 0;simp only[Nat.mul_one,Nat.reduceMul,Nat.reduceAdd,Nat.zero_add,Nat.reducePow,Nat.div_one]at t3 t2 t1 t0 s0 s1 s2 s3;rw[t3,t2,t1,t0];rw[show x >>> 0=x from ah]at s0;have hz:x >>> 32=0#32:=by apply BitVec.eq_of_getLsbD_eq;intro i _;rw[BitVec.getLsbD_ushiftRight,BitVec.getLsbD_of_ge _ _ aa];simp
 rw[s0,s1,s2,s3,hz,cK.aaD,BitVec.zero_xor]
 ac_rfl
theorem ae9(a b:BitVec 32):bits .or .u32 (a.toNat:Int) (b.toNat:Int)=((a ||| b).toNat:Int):=by rw[u32_or_nat _ _ a.isLt b.isLt,BitVec.toNat_or]
theorem pH(b:UInt8):(cK.ext 32 b).toNat=b.toNat:=by have:=b.toNat_lt;unfold cK.ext;simp only[BitVec.toNat_setWidth,UInt8.toNat_toBitVec];omega
theorem zQ(b:UInt8)(j:Nat)(h:j<=24):(cK.ext 32 b <<< j).toNat=b.toNat*2^j:=by have hb:=b.toNat_lt;have hj:2^j<=2^24:=fk aa h;have hm:b.toNat*2^j<=255*2^24:=Nat.mul_le_mul aa hj;rw[BitVec.toNat_shiftLeft,pH,Nat.shiftLeft_eq,mY aa]
theorem Su(r:BitVec 32)(b0 b1 b2 b3:UInt8):bits .xor .u32 (r.toNat:Int) (bits .or .u32 (bits .or .u32 (bits .or .u32 (b0.toNat:Int) ((b1.toNat:Int)*256)) ((b2.toNat:Int)*65536)) ((b3.toNat:Int)*16777216))
  =((r ^^^ CI b0 b1 b2 b3).toNat:Int):=by
 have e0:(b0.toNat:Int)=((cK.ext 32 b0).toNat:Int):=by rw[pH]
 have e1:(b1.toNat:Int)*(256:Int)=((cK.ext 32 b1 <<< 8).toNat:Int):=by rw[zQ _ _ aa];omega
 have e2:(b2.toNat:Int)*(65536:Int)=((cK.ext 32 b2 <<< 16).toNat:Int):=by rw[zQ _ _ aa];omega
 have e3:(b3.toNat:Int)*(16777216:Int)=((cK.ext 32 b3 <<< 24).toNat:Int):=by rw[zQ _ _ aa];omega
 rw[e0,e1,e2,e3,ae9,ae9,ae9,D1];rfl
theorem GS(x:BitVec 32)(d:Nat): ∃m:Nat,m<256/\m=x.toNat/d%256/\IntKind.u8.wrap ((x.toNat:Int)/(d:Int))=(m:Int):=
 ⟨x.toNat/d%256,Nat.mod_lt _ aa,rfl,by rw[IntKind.wrap_u8'];omega⟩
theorem tR(g:Nat)(r:BitVec 32)(b off n c:Nat)(b0 b1 b2 b3:UInt8)(w:Lo)(hn:4<=n)(aAt:n<=9223372036854775807)
  (c0:w.cell? ⟨b,off,none⟩=some (.int .u8 b0.toNat)) (c1:w.cell? ⟨b,off+1,none⟩=some (.int .u8 b1.toNat))
  (c2:w.cell? ⟨b,off+2,none⟩=some (.int .u8 b2.toNat)) (c3:w.cell? ⟨b,off+3,none⟩=some (.int .u8 b3.toNat))
  (hT: ∀i,i<1024->w.cell? ⟨g,i,none⟩=some (.int .u32 (T i).toNat)):
  Calls prog 197 #[.pointer (some ⟨g,0,none⟩),.int .u32 r.toNat,.slice (some ⟨b,off,none⟩) n c] w λe w'=>
   e= .returned (.int .u32 (cK.fi kn r [b0,b1,b2,b3]).toNat)/\ ∃k,w'=w.drewN k:=by
 have b_:(0:Int)<n:=aa;have DE:(1:Int)<n:=aa;have yv:(2:Int)<n:=aa;have hn3:(3:Int)<n:=aa;have l0:=b0.toNat_lt;have l1:=b1.toNat_lt;have l2:=b2.toNat_lt;have l3:=b3.toNat_lt;have HT:=ae hT;clear hT;rw[ak2];have hw:=ae (Su r b0 b1 b2 b3);go_enter func197,ntmps197;go_wp2;go_quiet (fail);go_wp2_with fail;rw[hw.out];clear hw;have hf:=ae (four (r ^^^ CI b0 b1 b2 b3));generalize hx:r ^^^ CI b0 b1 b2 b3=x at*;have HX:=ae hx;clear hx;obtain⟨m0,Gp,em0,w0⟩:=GS x 1;obtain⟨m1,fc,em1,w1⟩:=GS x 256;obtain⟨m2,fm,em2,w2⟩:=GS x 65536;obtain⟨m3,tl,em3,w3⟩:=GS x 16777216;have d3:=HT.out (768+m0) aa;have d2:=HT.out (512+m1) aa;have d1:=HT.out (256+m2) aa;have d0:=HT.out m3 aa;have E0:=ae em0;have E1:=ae em1;have E2:=ae em2;have E3:=ae em3;clear em0 em1 em2 em3;rw[show((1:Nat):Int)=1 from rfl,Int.ediv_one]at w0;rw[show((256:Nat):Int)=256 from rfl]at w1;rw[show((65536:Nat):Int)=65536 from rfl]at w2;rw[show((16777216:Nat):Int)=16777216 from rfl]at w3;have i0:(m0:Int)<256:=aa;have i1:(m1:Int)<256:=aa;have i2:(m2:Int)<256:=aa;have i3:(m3:Int)<256:=aa;go_quiet (fail);go_wp2_with fail;have h0:=E0.out;rw[Nat.div_one]at h0;have GU:bits .xor .u32 (bits .xor .u32 (bits .xor .u32 ((T (768+m0)).toNat:Int) ((T (512+m1)).toNat:Int)) ((T (256+m2)).toNat:Int)) ((T m3).toNat:Int)=((cK.sn kn 32 (r ^^^ CI b0 b1 b2 b3)).toNat:Int):=by rw[D1,D1,D1,HX.out,<-hf.out,<-h0,<-E1.out,<-E2.out,<-E3.out]
 go_ret;exact⟨aR (λn:Int=>Ending.returned (Value.int .u32 n)) GU,_,World.drewN_drewN _ _ _⟩
end C3
namespace C3
theorem F9(a:BitVec 32):bits .xor .u32 IntKind.u32.max (a.toNat:Int)=((~~~a).toNat:Int):=by rw[show IntKind.u32.max=(((BitVec.allOnes 32).toNat:Nat):Int)from rfl,D1,BitVec.allOnes_xor]
theorem yd(h:w.heap[g]? =some (.cells tabs t fr))(i:Nat)(hi:i<1024):w.cell? ⟨g,i,none⟩=some (.int .u32 (T i).toNat):=by rw[aC w g i tabs t fr h];unfold tabs;rw[List.getElem?_toArray,List.getElem?_map,List.getElem?_range hi];rfl
theorem oG:tabs.size=1024:=by simp[tabs]
theorem wG:tabs.all (·.oneCell')=true:=by unfold tabs;rw[List.all_toArray,List.all_map,List.all_eq_true];intro x _;rfl
structure uB(w0:Lo)(g:Nat)(w:Lo):Prop where
 tab: ∀i,i<1024->w.cell? ⟨g,i,none⟩=some (.int .u32 (T i).toNat)
 below:Below w0.heap.size w0 w
theorem uB.drewN{w0:Lo}(h:uB w0 g w)(n:Nat):uB w0 g (w.drewN n):=⟨λi hi=>h.tab i hi,below_drewN h.below n⟩
theorem CJ(x:BitVec 32)(v:UInt8)(m:Nat)(hm:m=(x.toNat%256) ^^^ v.toNat):bits .xor .u32 ((x.toNat:Int)/256) ((T m).toNat:Int)=((cK.P4 kn x v).toNat:Int):=by
 have ol:m<256:=by have:=v.toNat_lt;rw[hm];exact Nat.xor_lt_two_pow (n:=8) aa aa
 have e:(x.toNat:Int)/(256:Int)=((x >>> 8).toNat:Int):=by rw[BitVec.toNat_ushiftRight,qC];simp
 have hl:cK.low (x ^^^ cK.ext 32 v)=BitVec.ofNat 32 m:=by unfold cK.low;apply BitVec.eq_of_toNat_eq;have hv:=v.toNat_lt;simp only[BitVec.toNat_setWidth,lG,BitVec.toNat_xor,pH];rw[Nat.xor_mod_two_pow (n:=8),hm,mY (show v.toNat<2^8 by omega)]
 have hs:(x ^^^ cK.ext 32 v) >>> 8=x >>> 8:=by apply BitVec.eq_of_getLsbD_eq;intro i _;rw[BitVec.getLsbD_ushiftRight,BitVec.getLsbD_ushiftRight,BitVec.getLsbD_xor,cK.GR 32 v _ aa];simp
 rw[e,D1];unfold cK.P4;rw[cK.Ax,hs,hl,XG m ol]
theorem CK(x:BitVec 32)(v:UInt8): ∃m:Nat,m<256/\m=(x.toNat%256) ^^^ v.toNat/\bits .xor .u8 ((x.toNat:Int)%256) (v.toNat:Int)=m:=by have hv:=v.toNat_lt;refine⟨_,Nat.xor_lt_two_pow (n:=8) (show x.toNat%256<2^8 by omega) (show v.toNat<2^8 by omega),rfl,?_⟩;rw[show(x.toNat:Int)%256=((x.toNat%256:Nat):Int)from aa,u8_xor_nat _ _ aa aa]
theorem Sv(x:BitVec 32)(l:An)(h:4<=l.length):cK.fi kn x l=cK.fi kn (cK.fi kn x [l[0],l[1],l[2],l[3]]) (l.drop 4):=by
 match l,h with
 | b0::b1::b2::b3::r,_=>rfl
theorem oH(x:BitVec 32)(l:An)(k:Nat)(h:k<l.length):cK.fi kn x (l.take (k+1))=cK.P4 kn (cK.fi kn x (l.take k)) l[k]:=by rw[lE h,cK.yX];rfl
def eJ(s:BitVec 32)(l:An):BitVec 32:= ~~~ cK.fi kn (~~~ s) l
def lenOf:Value->Nat|.slice _ n _=>n|_=>0
def ak3(w:Lo)(g:Nat)(x0:BitVec 32)(l:An)(sl reg:Value)(wr:Lo):Prop:=
 ∃(A:As) (c:Nat) (rest:An) (x:BitVec 32),sl= .slice A rest.length c/\rest.length<=c/\c<=9223372036854775807/\Bytes wr A rest/\uB w g wr/\reg= .int .u32 x.toNat/\cK.fi kn x0 l=cK.fi kn x rest
theorem Cu(s:BitVec 32)(A:As)(l:An)(c:Nat)(w:Lo)(hB:Bytes w A l)(hc:l.length<=c)(hm:c<=9223372036854775807):
  Calls prog 154 #[.int .u32 s.toNat,.slice A l.length c] w λe w'=>
   e= .returned (.int .u32 (eJ s l).toNat)/\Below w.heap.size w w':=by
 have hz:=(zero_of_info XF).1;go_enter func154,ntmps154;go_wp2_with fail;refine(NS w).mono ?_;rintro e w1 ⟨rfl,aI⟩;go_wp2_with (refine wpList_store_row rfl 270 _ _ rfl w1.heap.size tabs rfl rfl 270 iq (bz _ _) ?c2 ?c3 ?c4 ?_)
 case c2=>rw[Ay,oG]
 case c3=>rw[oG];simp[iq]
 case c4=>exact wG
 rw[World.setRow_alloc_new,F9];have hT:uB w w1.heap.size (w1.alloc (.cells tabs 270)):=⟨yd (bz _ _),aI.alloc aI.size _⟩
 have i9:=hB.below hT.below;generalize w1.alloc (.cells tabs 270)=w2 at*;generalize w1.heap.size=g at*;clear aI hz hB;generalize uX: ~~~s=x0;have LN:=ae uX;clear uX;go_loopw [1,6] (λsl reg wr=>ak3 w g x0 l sl reg wr) (λsl _ _=>lenOf sl);·exact⟨A,c,l,_,rfl,hc,hm,i9,hT,rfl,rfl⟩
 ·
  clear i9 hT hc hm;obtain⟨A',c',rest,x,rfl,hc,hm,hB,hT,rfl,hx⟩:=hrel;have HX:=ae hx;clear hx;by_cases h4:4<=rest.length
  ·obtain⟨b,off,rfl,aV,hcell⟩:=hB.addr aa;have d0:=hcell 0 aa;have d1:=hcell 1 aa;have d2:=hcell 2 aa;have d3:=hcell 3 aa;have HC:=ae hcell;clear hcell;have HT:=ae hT.tab;have He:=ae (Sv x rest h4);have b_:(4:Int)<=rest.length:=aa;generalize rest[0]=b0 at*;generalize rest[1]=b1 at*;generalize rest[2]=b2 at*;generalize rest[3]=b3 at*;by_cases jM:c'=4
   ·subst jM;go_wp2_with fail;refine(tR g x b off _ _ b0 b1 b2 b3 _ h4 aa (by simpa using d0) d1 d2 d3 HT.out).mono ?_;rintro e w' ⟨rfl,nq,rfl⟩;go_wp2_with fail;go_roundw;case rel=>have hl:rest.drop 4=[]:=(by rw[List.drop_eq_nil_iff];omega);exact⟨_,0,rest.drop 4,_,by rw[hl];rfl,by rw[hl];simp,aa,.inl hl,hT.drewN nq,rfl,by rw[HX.out,He.out]⟩
    case measure=>simp[lenOf];omega
   ·go_wp2_with fail;refine(tR g x b off _ _ b0 b1 b2 b3 _ h4 aa (by simpa using d0) d1 d2 d3 HT.out).mono ?_;rintro e w' ⟨rfl,nq,rfl⟩;go_wp2_with fail;go_roundw;case rel=>exact⟨_,_,rest.drop 4,_,by rw[fZ],iA,aa,(hB.drop 4).drewN nq,hT.drewN nq,rfl,by rw[HX.out,He.out]⟩
    case measure=>simp[lenOf];omega
  ·go_wp2_with fail;obtain⟨wo,rfl⟩: ∃wo:Lo,wo=wr:=⟨_,rfl⟩
   go_loop [6,22] (λreg i=> ∃k:Nat,k<=rest.length/\i= .int .i64 k/\reg= .int .u32 (cK.fi kn x (rest.take k)).toNat) (λ_ i=>rest.length-(intOf i).toNat);·exact⟨0,aa,rfl,by simp[cK.fi]⟩
   ·
    obtain⟨k,hk,rfl,rfl⟩:=hrel;by_cases aV:k<rest.length
    ·obtain⟨b,off,rfl,_,hcell⟩:=hB.addr aa;have sX:=hcell k aV;have hs:=ae (oH x rest k aV);generalize cK.fi kn x (rest.take k)=y at*;obtain⟨m,ol,Le,hmw⟩:=CK y rest[k];have hct:=hT.tab m aa;have Hmv:=ae Le;clear Le;have i0:(m:Int)<256:=aa;generalize rest[k]=v at*;clear hcell;go_wp2_with fail;go_round;case rel=>exact⟨k+1,aa,aA,by rw[hs.out,<-CJ y v m Hmv.out]⟩
     case measure=>simp[intOf];omega
    ·obtain rfl:k=rest.length:=(by omega);go_wp2;go_ret;have jy:cK.fi kn x rest=cK.fi kn (~~~ s) l:=(by rw[LN.out,HX.out]);have GU:bits .xor .u32 IntKind.u32.max ((cK.fi kn x rest).toNat:Int)=((eJ s l).toNat:Int):=(by rw[F9,jy];rfl);exact⟨aR (λn:Int=>Ending.returned (Value.int .u32 n)) GU,hT.below⟩
end C3
namespace C3
def CL(x0:BitVec 32)(v k:Nat)(y:BitVec 32)(xk:Nat):Prop:=xk=v/2^k/\y ^^^ BitVec.ofNat 32 xk=cK.sn kn k (x0 ^^^ BitVec.ofNat 32 v)
theorem uC(m:Nat)(h:m<256):BitVec.ofNat 32 m >>> 1=BitVec.ofNat 32 (m/2):=by apply BitVec.eq_of_toNat_eq;rw[BitVec.toNat_ushiftRight,lG,lG,qC];omega
theorem GV(y:BitVec 32)(m:Nat)(h:m<256):bits .xor .u32 (y.toNat:Int) (m:Int)=((y ^^^ BitVec.ofNat 32 m).toNat:Int):=by have e:(m:Int)=((BitVec.ofNat 32 m).toNat:Int):=FB;rw[e,D1]
theorem uD(x0:BitVec 32)(v k:Nat)(y:BitVec 32)(xk:Nat)(hv:xk<256)(h:CL x0 v k y xk):
  CL x0 v (k+1) (if(y ^^^ BitVec.ofNat 32 xk).getLsbD 0 then(y >>> 1) ^^^ kn else y >>> 1) (xk/2):=by
 obtain⟨h1,h2⟩:=h;refine⟨by rw[h1,cS,kW],?_⟩;rw[cK.wD,<-h2,<-uC xk hv];unfold cK.s1;rw[BitVec.ushiftRight_xor_distrib];split;·rw[BitVec.xor_assoc,BitVec.xor_assoc,BitVec.xor_comm kn]
 ·simp
theorem ye(v:UInt8):cK.ext 32 v=BitVec.ofNat 32 v.toNat:=by have:=v.toNat_lt;apply BitVec.eq_of_toNat_eq;rw[pH,lG];omega
theorem GW(z:BitVec 32):((z.toNat:Int)%2==1)=z.getLsbD 0:=by rw[NP,Bool.eq_iff_iff];simp;omega
theorem CM(r:BitVec 32)(A:As)(l:An)(c:Nat)(w:Lo)(hB:Bytes w A l)(hm:l.length<=9223372036854775807):
  Calls prog 131 #[.int .u32 r.toNat,.slice A l.length c] w λe w'=>
   e= .returned (.int .u32 (cK.fi kn r l).toNat)/\w=w':=by
 go_enter func131,ntmps131;go_wp2_with fail;go_loop [0,5] (λa i=> ∃k:Nat,k<=l.length/\i= .int .i64 k/\a= .int .u32 (cK.fi kn r (l.take k)).toNat) (λ_ i=>l.length-(intOf i).toNat);·exact⟨0,aa,rfl,by simp[cK.fi]⟩
 ·
  obtain⟨k,hk,rfl,rfl⟩:=hrel;by_cases aV:k<l.length
  ·obtain⟨b,off,rfl,_,hcell⟩:=hB.addr aa;have sX:=hcell k aV;have hs:=ae (oH r l k aV);generalize cK.fi kn r (l.take k)=y at*;generalize l[k]=v at*;have hv:=v.toNat_lt;clear hcell;go_wp2_with fail;go_loop [0,6,7] (λa x i=> ∃(j:Nat) (z:BitVec 32) (m:Nat),j<=8/\m<256/\i= .int .i64 j/\a= .int .u32 z.toNat/\x= .int .u8 m/\Hid (CL y v.toNat j z m)) (λ_ _ i=>8-(intOf i).toNat);·exact⟨0,y,v.toNat,aa,aa,rfl,rfl,rfl,ah,rfl⟩
   ·
    obtain⟨j,z,m,hj,ol,rfl,rfl,rfl,hJ⟩:=hrel;by_cases h8:j<8
    ·have hx:=GV z m ol;have ho:=GW (z ^^^ BitVec.ofNat 32 m);have da:=ae (uD y v.toNat j z m ol hJ.out);generalize z ^^^ BitVec.ofNat 32 m=q at*;have h2:=ae (NQ z);have hp:=ae (D1 (z >>> 1) kn);cases hb:q.getLsbD 0 with
     | true=>
      rw[hb]at ho;rw[hb,ax rfl]at da;clear hb;go_wp2_with fail;go_round;case rel=>exact⟨j+1,z >>> 1 ^^^ kn,m/2,aa,aa,aA,by rw[h2.out,<-hp.out];rfl,aA,da⟩
      case measure=>simp[intOf];omega
     | false=>
      rw[hb]at ho;rw[hb,au ar]at da;clear hb;go_wp2_with fail;go_round;case rel=>exact⟨j+1,z >>> 1,m/2,aa,aa,aA,by rw[h2.out],aA,da⟩
      case measure=>simp[intOf];omega
    ·obtain rfl:j=8:=(by omega);obtain⟨hJ1,hJ2⟩:=hJ.out;have hz:z=cK.P4 kn y v:=(by have h0:m=0:=aa;rw[h0]at hJ2;unfold cK.P4;rw[ye,<-hJ2];simp);have HZ:=ae hz;clear hz hJ1 hJ2 hJ;go_wp2_with fail;go_round;case rel=>exact⟨k+1,aa,aA,by rw[hs.out,HZ.out]⟩
     case measure=>simp[intOf];omega
  ·obtain rfl:k=l.length:=(by omega);go_wp2;go_ret;exact⟨rfl,rfl⟩
end C3
namespace C3
theorem GX(A:As)(l:An)(c:Nat)(w:Lo)(hB:Bytes w A l)(hc:l.length<=c)(hm:c<=9223372036854775807):
  Calls prog 154 #[.int .u32 0,.slice A l.length c] w λe w'=>
   e= .returned (.int .u32 (eJ 0#32 l).toNat)/\Below w.heap.size w w':=Cu 0#32 A l c w hB hc hm
theorem vG(A:As)(l:An)(c:Nat)(w:Lo)(hB:Bytes w A l)(hc:l.length<=c)(hm:c<=9223372036854775807):
  Calls prog 113 #[.slice A l.length c] w λe w'=>
   e= .returned (.int .u32 (eJ 0#32 l).toNat)/\Below w.heap.size w w':=by
 go_enter func113,ntmps113;go_wp2_with fail;refine(GX A l c _ hB hc hm).mono ?_;rintro e w' ⟨rfl,hb⟩;go_wp2;go_ret;exact⟨rfl,hb⟩
theorem AB(s:BitVec 32):4294967295-(s.toNat:Int)=((~~~ s).toNat:Int):=by rw[BitVec.toNat_not];omega
theorem uE(A:As)(l:An)(c:Nat)(w:Lo)(hB:Bytes w A l)(hm:l.length<=9223372036854775807):
  Calls prog 89 #[.slice A l.length c] w λe w'=>
   e= .returned (.int .u32 (eJ 0#32 l).toNat)/\w=w':=by
 have jy:((~~~ cK.fi kn (~~~ 0#32) l).toNat:Int)=((eJ 0#32 l).toNat:Int):=rfl;have hu:=AB (cK.fi kn (~~~ 0#32) l);have hl:=(cK.fi kn (~~~ 0#32) l).isLt;rw[jy]at hu;have HU:=ae hu;clear hu jy;have acw:Calls prog 131 #[.int .u32 4294967295,.slice A l.length c] w λe w'=>
   e= .returned (.int .u32 (cK.fi kn (~~~ 0#32) l).toNat)/\w=w':=CM (~~~ 0#32) A l c w hB hm
 have HC:=ae acw;clear acw;generalize cK.fi kn (~~~ 0#32) l=u at*;go_enter func89,ntmps89;go_wp2_with fail;refine HC.mono ?_;rintro e w' ⟨rfl,rfl⟩;have hl':(u.toNat:Int)<4294967296:=aa;go_wp2;go_ret;have GU:=HU.out;exact⟨aR (λn:Int=>Ending.returned (Value.int .u32 n)) GU,rfl⟩
end C3
namespace NV
def xp:BitVec 64:=14514072000185962306#64
theorem XI(a b:BitVec 64):bits .xor .u64 (a.toNat:Int) (b.toNat:Int)=((a ^^^ b).toNat:Int):=by rw[u64_xor_nat _ _ a.isLt b.isLt,BitVec.toNat_xor]
theorem XD(a:BitVec 64):bits .and .u64 (a.toNat:Int) 1=((a.toNat%2:Nat):Int):=by rw[show(1:Int)=((1:Nat):Int)from rfl,u64_and_nat _ _ a.isLt aa,nat_mask1]
theorem NP(a:BitVec 64):a.getLsbD 0=decide (a.toNat%2=1):=by rw[BitVec.getLsbD,Nat.testBit_zero]
theorem NQ(a:BitVec 64):(a.toNat:Int)/(2:Int)=((a >>> 1).toNat:Int):=by rw[BitVec.toNat_ushiftRight,qC];simp
theorem NR(x:BitVec 64)(h:(bits .and .u64 (x.toNat:Int) 1==1)=true):bits .xor .u64 ((x.toNat:Int)/2) 14514072000185962306=((cK.s1 xp x).toNat:Int):=by
 have h1:x.getLsbD 0=true:=by rw[XD]at h;rw[NP];simp at h ⊢;omega
 rw[NQ,show(14514072000185962306:Int)=(xp.toNat:Int)from rfl,XI];unfold cK.s1;rw[h1];simp
theorem XE(x:BitVec 64)(h:(bits .and .u64 (x.toNat:Int) 1==1)=false):(x.toNat:Int)/2=((cK.s1 xp x).toNat:Int):=by
 have h1:x.getLsbD 0=false:=by rw[XD]at h;rw[NP];simp at h ⊢;omega
 rw[NQ];unfold cK.s1;rw[h1];simp
def k9:Array Value:=Array.replicate 256 (.int .u64 0)
theorem acx:(prog.info? 274).map (λi=>(i.zero,i.size))=some (some (.agg k9),256):=ak
theorem GY:(prog.info? 274).map (·.size)=some 256:=ak
def T(j:Nat):BitVec 64:=cK.sn xp 8 (BitVec.ofNat 64 j)
def iE(k j:Nat):Value:=if j<k then .int .u64 (T j).toNat else .int .u64 0
def tabs:Array Value:=((List.range 256).map λi=>Value.int .u64 (T i).toNat).toArray
theorem rV(h:j<k):iE k j= .int .u64 (T j).toNat:=by unfold iE;rw[ax h]
theorem wE(k:Nat): ∀i,(if i=k then Value.int .u64 (T k).toNat else iE k i)=iE (k+1) i:=by
 intro i;unfold iE;by_cases h:i=k;·subst h;simp
 ·by_cases h2:i<k;·simp[h,h2,show i<k+1 by omega]
  ·simp[h,h2,show ¬i<k+1 by omega]
theorem wF(w:Lo):(w.alloc (.cells k9 274)).rowIs w.heap.size 274 256 (iE 0):=by
 have h:=World.rowIs_alloc w k9 274 (iE 0) (λi hi=>by
  unfold k9 at hi ⊢;rw[Array.getElem?_replicate,ax jP];simp[iE])
 have e:k9.size=256:=by simp[k9]
 rwa [e]at h
theorem AA(hn:cs.size=256)(hv: ∀i,i<256->cs[i]? =some (iE 256 i)):cs=tabs:=by
 apply Array.ext_getElem?;intro i;by_cases hi:i<256;·rw[hv i hi,rV aa];unfold tabs;rw[List.getElem?_toArray,List.getElem?_map,List.getElem?_range hi];rfl
 ·rw[lI aa,lI (by simp[tabs];omega)]
theorem wG:tabs.all (·.oneCell')=true:=by unfold tabs;rw[List.all_toArray,List.all_map,List.all_eq_true];intro x _;rfl
theorem oG:tabs.size=256:=by simp[tabs]
theorem yd(h:w.heap[g]? =some (.cells tabs t fr))(i:Nat)(hi:i<256):w.cell? ⟨g,i,none⟩=some (.int .u64 (T i).toNat):=by rw[aC w g i tabs t fr h];unfold tabs;rw[List.getElem?_toArray,List.getElem?_map,List.getElem?_range hi];rfl
theorem Sw(k:Nat)(h:k<256):(k:Int)=((BitVec.ofNat 64 k).toNat:Int):=by rw[lG];omega
theorem NS(w:Lo):
  Calls prog 198 #[] w λe w'=>e= .returned (.agg tabs)/\Below w.heap.size w w':=by
 have hz:=(zero_of_info acx).1;go_enter func198,ntmps198;go_wp2_with fail;have h0:((w.alloc (.cells k9 274)).alloc (.cells k9 274)).rowIs w.heap.size 274 256 (iE 0):=(wF w).alloc _;have h1:((w.alloc (.cells k9 274)).alloc (.cells k9 274)).rowIs (w.heap.size+1) 274 256 (iE 0):=by have:=wF (w.alloc (.cells k9 274));simpa using this
 have hb:aq w ((w.alloc (.cells k9 274)).alloc (.cells k9 274)):=(az).alloc ah _;generalize(w.alloc (.cells k9 274)).alloc (.cells k9 274)=w1 at*;generalize hg:w.heap.size+1=g at*;have lN:w.heap.size<g:=aa;have HG:=ae hg;clear hg;go_loopw [5] (λi wr=> ∃k:Nat,k<=256/\i= .int .i64 k/\wr.rowIs w.heap.size 274 256 (iE 0)/\wr.rowIs g 274 256 (iE k)/\aq w wr) (λi _=>256-(intOf i).toNat);·exact⟨0,aa,rfl,h0,h1,hb⟩
 ·
  obtain⟨k,hk,rfl,r0,r1,rb⟩:=hrel;by_cases h:k<256
  ·have hc:=r1.cell (i:=k) aa;have hf:=r1.frozen k;go_wp2_with fail;obtain⟨wo,rfl⟩: ∃wo:Lo,wo=wr:=⟨_,rfl⟩
   go_loop [3,10] (λa i=> ∃j:Nat,j<=8/\i= .int .i64 j/\a= .int .u64 (cK.sn xp j (BitVec.ofNat 64 k)).toNat) (λ_ i=>8-(intOf i).toNat);·exact⟨0,aa,rfl,by rw[Sw k h];rfl⟩
   ·
    obtain⟨j,hj,rfl,rfl⟩:=hrel;by_cases h8:j<8
    ·have hs:=ae (cK.wD xp j (BitVec.ofNat 64 k));generalize cK.sn xp j (BitVec.ofNat 64 k)=x at*;go_wp2_with fail
     ·go_round;case rel=>exact⟨j+1,aa,aA,by rw[hs.out,<-NR x (by assumption)]⟩
      case measure=>simp[intOf];omega
     ·go_round;case rel=>exact⟨j+1,aa,aA,by rw[hs.out,<-XE x (by assumption)]⟩
      case measure=>simp[intOf];omega
    ·obtain rfl:j=8:=(by omega);go_wp2_with fail;go_roundw;case rel=>refine⟨k+1,aa,aA,r0.setOther aH _,?_,rb.setCell aH _⟩;exact(r1.set k _).congr λi _=>wE k i
     case measure=>simp[intOf];omega
  ·obtain rfl:k=256:=(by omega);obtain⟨cs,hcs,hn,hv⟩:=r1;obtain⟨os,Bw,sE,hvo⟩:=r0;obtain rfl:=AA hn hv;go_wp2_with (first|(refine wpList_load_row rfl 274 _ rfl g rfl 274 tabs _ _ hcs underlying274 rfl ?c1 ?_)|(refine wpList_store_row rfl 274 _ _ rfl w.heap.size tabs rfl rfl 274 os Bw ?c2 ?c3 ?c4 ?_))
   case c1=>rw[GY,hn]
   case c2=>rw[GY,hn]
   case c3=>rw[sE,hn]
   case c4=>exact wG
   refine bA (results_cell_row rfl _ _ w.heap.size 274 tabs _ _ rfl (setRow_heap _ _ _ _ _ _ Bw) underlying274 rfl (by rw[GY,hn])) rfl ?_;exact⟨rfl,below_setRow rb (aF _) _⟩
theorem XJ(a:BitVec 64):bits .xor .u64 IntKind.u64.max (a.toNat:Int)=((~~~a).toNat:Int):=by rw[show IntKind.u64.max=(((BitVec.allOnes 64).toNat:Nat):Int)from rfl,XI,BitVec.allOnes_xor]
structure uB(w0:Lo)(g:Nat)(w:Lo):Prop where
 tab: ∀i,i<256->w.cell? ⟨g,i,none⟩=some (.int .u64 (T i).toNat)
 below:Below w0.heap.size w0 w
theorem pH(b:UInt8):(cK.ext 64 b).toNat=b.toNat:=by have:=b.toNat_lt;unfold cK.ext;simp only[BitVec.toNat_setWidth,UInt8.toNat_toBitVec];omega
theorem CJ(x:BitVec 64)(v:UInt8)(m:Nat)(hm:m=(x.toNat%256) ^^^ v.toNat):bits .xor .u64 ((x.toNat:Int)/256) ((T m).toNat:Int)=((cK.P4 xp x v).toNat:Int):=by
 have e:(x.toNat:Int)/(256:Int)=((x >>> 8).toNat:Int):=by rw[BitVec.toNat_ushiftRight,qC];simp
 have hl:cK.low (x ^^^ cK.ext 64 v)=BitVec.ofNat 64 m:=by unfold cK.low;apply BitVec.eq_of_toNat_eq;have hv:=v.toNat_lt;simp only[BitVec.toNat_setWidth,lG,BitVec.toNat_xor,pH];rw[Nat.xor_mod_two_pow (n:=8),hm,mY (show v.toNat<2^8 by omega)]
 have hs:(x ^^^ cK.ext 64 v) >>> 8=x >>> 8:=by apply BitVec.eq_of_getLsbD_eq;intro i _;rw[BitVec.getLsbD_ushiftRight,BitVec.getLsbD_ushiftRight,BitVec.getLsbD_xor,cK.GR 64 v _ aa];simp
 rw[e,XI];unfold cK.P4;rw[cK.Ax,hs,hl];rfl
theorem CK(x:BitVec 64)(v:UInt8): ∃m:Nat,m<256/\m=(x.toNat%256) ^^^ v.toNat/\bits .xor .u8 ((x.toNat:Int)%256) (v.toNat:Int)=m:=by have hv:=v.toNat_lt;refine⟨_,Nat.xor_lt_two_pow (n:=8) (show x.toNat%256<2^8 by omega) (show v.toNat<2^8 by omega),rfl,?_⟩;rw[show(x.toNat:Int)%256=((x.toNat%256:Nat):Int)from aa,u8_xor_nat _ _ aa aa]
theorem oH(x:BitVec 64)(l:An)(k:Nat)(h:k<l.length):cK.fi xp x (l.take (k+1))=cK.P4 xp (cK.fi xp x (l.take k)) l[k]:=by rw[lE h,cK.yX];rfl
def eJ(s:BitVec 64)(l:An):BitVec 64:= ~~~ cK.fi xp (~~~ s) l
theorem Cu(s:BitVec 64)(A:As)(l:An)(c:Nat)(w:Lo)(hB:Bytes w A l)(hc:l.length<=c)(hm:c<=9223372036854775807):
  Calls prog 155 #[.int .u64 s.toNat,.slice A l.length c] w λe w'=>
   e= .returned (.int .u64 (eJ s l).toNat)/\Below w.heap.size w w':=by
 have hz:=(zero_of_info acx).1;go_enter func155,ntmps155;go_wp2_with fail;refine(NS w).mono ?_;rintro e w1 ⟨rfl,aI⟩;go_wp2_with (refine wpList_store_row rfl 274 _ _ rfl w1.heap.size tabs rfl rfl 274 k9 (bz _ _) ?c2 ?c3 ?c4 ?_)
 case c2=>rw[GY,oG]
 case c3=>rw[oG];simp[k9]
 case c4=>exact wG
 rw[World.setRow_alloc_new,XJ];have hT:uB w w1.heap.size (w1.alloc (.cells tabs 274)):=⟨yd (bz _ _),aI.alloc aI.size _⟩
 have i9:=hB.below hT.below;generalize w1.alloc (.cells tabs 274)=w2 at*;generalize w1.heap.size=g at*;clear aI hz hB;generalize uX: ~~~s=x0;have LN:=ae uX;clear uX;go_loop [6,14] (λreg i=> ∃k:Nat,k<=l.length/\i= .int .i64 k/\reg= .int .u64 (cK.fi xp x0 (l.take k)).toNat) (λ_ i=>l.length-(intOf i).toNat);·exact⟨0,aa,rfl,by simp[cK.fi]⟩
 ·
  obtain⟨k,hk,rfl,rfl⟩:=hrel;by_cases aV:k<l.length
  ·obtain⟨b,off,rfl,_,hcell⟩:=i9.addr aa;have sX:=hcell k aV;have hs:=ae (oH x0 l k aV);generalize cK.fi xp x0 (l.take k)=y at*;obtain⟨m,ol,Le,hmw⟩:=CK y l[k];have hct:=hT.tab m aa;have Hmv:=ae Le;clear Le;have i0:(m:Int)<256:=aa;generalize l[k]=v at*;clear hcell;go_wp2_with fail;go_round;case rel=>exact⟨k+1,aa,aA,by rw[hs.out,<-CJ y v m Hmv.out]⟩
   case measure=>simp[intOf];omega
  ·obtain rfl:k=l.length:=(by omega);go_wp2;go_ret;have GU:bits .xor .u64 IntKind.u64.max ((cK.fi xp x0 l).toNat:Int)=((eJ s l).toNat:Int):=(by rw[XJ,<-LN.out];rfl);exact⟨aR (λn:Int=>Ending.returned (Value.int .u64 n)) GU,hT.below⟩
end NV
namespace NV
def CL(x0:BitVec 64)(v k:Nat)(y:BitVec 64)(xk:Nat):Prop:=xk=v/2^k/\y ^^^ BitVec.ofNat 64 xk=cK.sn xp k (x0 ^^^ BitVec.ofNat 64 v)
theorem uC(m:Nat)(h:m<256):BitVec.ofNat 64 m >>> 1=BitVec.ofNat 64 (m/2):=by apply BitVec.eq_of_toNat_eq;rw[BitVec.toNat_ushiftRight,lG,lG,qC];omega
theorem GV(y:BitVec 64)(m:Nat)(h:m<256):bits .xor .u64 (y.toNat:Int) (m:Int)=((y ^^^ BitVec.ofNat 64 m).toNat:Int):=by have e:(m:Int)=((BitVec.ofNat 64 m).toNat:Int):=FB;rw[e,XI]
theorem uD(x0:BitVec 64)(v k:Nat)(y:BitVec 64)(xk:Nat)(hv:xk<256)(h:CL x0 v k y xk):
  CL x0 v (k+1) (if(y ^^^ BitVec.ofNat 64 xk).getLsbD 0 then(y >>> 1) ^^^ xp else y >>> 1) (xk/2):=by
 obtain⟨h1,h2⟩:=h;refine⟨by rw[h1,cS,kW],?_⟩;rw[cK.wD,<-h2,<-uC xk hv];unfold cK.s1;rw[BitVec.ushiftRight_xor_distrib];split;·rw[BitVec.xor_assoc,BitVec.xor_assoc,BitVec.xor_comm xp]
 ·simp
theorem ye(v:UInt8):cK.ext 64 v=BitVec.ofNat 64 v.toNat:=by have:=v.toNat_lt;apply BitVec.eq_of_toNat_eq;rw[pH,lG];omega
theorem GW(z:BitVec 64):((z.toNat:Int)%2==1)=z.getLsbD 0:=by rw[NP,Bool.eq_iff_iff];simp;omega
theorem CM(r:BitVec 64)(A:As)(l:An)(c:Nat)(w:Lo)(hB:Bytes w A l)(hm:l.length<=9223372036854775807):
  Calls prog 173 #[.int .u64 r.toNat,.slice A l.length c] w λe w'=>
   e= .returned (.int .u64 (cK.fi xp r l).toNat)/\w=w':=by
 go_enter func173,ntmps173;go_wp2_with fail;go_loop [0,5] (λa i=> ∃k:Nat,k<=l.length/\i= .int .i64 k/\a= .int .u64 (cK.fi xp r (l.take k)).toNat) (λ_ i=>l.length-(intOf i).toNat);·exact⟨0,aa,rfl,by simp[cK.fi]⟩
 ·
  obtain⟨k,hk,rfl,rfl⟩:=hrel;by_cases aV:k<l.length
  ·obtain⟨b,off,rfl,_,hcell⟩:=hB.addr aa;have sX:=hcell k aV;have hs:=ae (oH r l k aV);generalize cK.fi xp r (l.take k)=y at*;generalize l[k]=v at*;have hv:=v.toNat_lt;clear hcell;go_wp2_with fail;go_loop [0,6,7] (λa x i=> ∃(j:Nat) (z:BitVec 64) (m:Nat),j<=8/\m<256/\i= .int .i64 j/\a= .int .u64 z.toNat/\x= .int .u8 m/\Hid (CL y v.toNat j z m)) (λ_ _ i=>8-(intOf i).toNat);·exact⟨0,y,v.toNat,aa,aa,rfl,rfl,rfl,ah,rfl⟩
   ·
    obtain⟨j,z,m,hj,ol,rfl,rfl,rfl,hJ⟩:=hrel;by_cases h8:j<8
    ·have hx:=GV z m ol;have ho:=GW (z ^^^ BitVec.ofNat 64 m);have da:=ae (uD y v.toNat j z m ol hJ.out);generalize z ^^^ BitVec.ofNat 64 m=q at*;have h2:=ae (NQ z);have hp:=ae (XI (z >>> 1) xp);cases hb:q.getLsbD 0 with
     | true=>
      rw[hb]at ho;rw[hb,ax rfl]at da;clear hb;go_wp2_with fail;go_round;case rel=>exact⟨j+1,z >>> 1 ^^^ xp,m/2,aa,aa,aA,by rw[h2.out,<-hp.out];rfl,aA,da⟩
      case measure=>simp[intOf];omega
     | false=>
      rw[hb]at ho;rw[hb,au ar]at da;clear hb;go_wp2_with fail;go_round;case rel=>exact⟨j+1,z >>> 1,m/2,aa,aa,aA,by rw[h2.out],aA,da⟩
      case measure=>simp[intOf];omega
    ·obtain rfl:j=8:=(by omega);obtain⟨hJ1,hJ2⟩:=hJ.out;have hz:z=cK.P4 xp y v:=(by have h0:m=0:=aa;rw[h0]at hJ2;unfold cK.P4;rw[ye,<-hJ2];simp);have HZ:=ae hz;clear hz hJ1 hJ2 hJ;go_wp2_with fail;go_round;case rel=>exact⟨k+1,aa,aA,by rw[hs.out,HZ.out]⟩
     case measure=>simp[intOf];omega
  ·obtain rfl:k=l.length:=(by omega);go_wp2;go_ret;exact⟨rfl,rfl⟩
end NV
namespace NV
theorem GX(A:As)(l:An)(c:Nat)(w:Lo)(hB:Bytes w A l)(hc:l.length<=c)(hm:c<=9223372036854775807):
  Calls prog 155 #[.int .u64 0,.slice A l.length c] w λe w'=>
   e= .returned (.int .u64 (eJ 0#64 l).toNat)/\Below w.heap.size w w':=Cu 0#64 A l c w hB hc hm
theorem vG(A:As)(l:An)(c:Nat)(w:Lo)(hB:Bytes w A l)(hc:l.length<=c)(hm:c<=9223372036854775807):
  Calls prog 115 #[.slice A l.length c] w λe w'=>
   e= .returned (.int .u64 (eJ 0#64 l).toNat)/\Below w.heap.size w w':=by
 go_enter func115,ntmps115;go_wp2_with fail;refine(GX A l c _ hB hc hm).mono ?_;rintro e w' ⟨rfl,hb⟩;go_wp2;go_ret;exact⟨rfl,hb⟩
theorem AB(s:BitVec 64):18446744073709551615-(s.toNat:Int)=((~~~ s).toNat:Int):=by rw[BitVec.toNat_not];omega
theorem Sx(s:BitVec 64)(A:As)(l:An)(c:Nat)(w:Lo)(hB:Bytes w A l)(hm:l.length<=9223372036854775807):
  Calls prog 132 #[.int .u64 s.toNat,.slice A l.length c] w λe w'=>
   e= .returned (.int .u64 (eJ s l).toNat)/\w=w':=by
 have hs:=s.isLt;have h1:=AB s;have jy:((~~~ cK.fi xp (~~~ s) l).toNat:Int)=((eJ s l).toNat:Int):=rfl;generalize ~~~ s=t at*;have hu:=AB (cK.fi xp t l);have hl:=(cK.fi xp t l).isLt;rw[jy]at hu;have HU:=ae hu;clear hu jy;go_enter func132,ntmps132;go_wp2_with fail;refine(CM t A l c _ hB hm).mono ?_;rintro e w' ⟨rfl,rfl⟩;generalize cK.fi xp t l=u at*;have hl':(u.toNat:Int)<18446744073709551616:=aa;go_wp2;go_ret;have GU:=HU.out;exact⟨aR (λn:Int=>Ending.returned (Value.int .u64 n)) GU,rfl⟩
theorem NW(A:As)(l:An)(c:Nat)(w:Lo)(hB:Bytes w A l)(hm:l.length<=9223372036854775807):
  Calls prog 132 #[.int .u64 0,.slice A l.length c] w λe w'=>
   e= .returned (.int .u64 (eJ 0#64 l).toNat)/\w=w':=Sx 0#64 A l c w hB hm
theorem uE(A:As)(l:An)(c:Nat)(w:Lo)(hB:Bytes w A l)(hm:l.length<=9223372036854775807):
  Calls prog 90 #[.slice A l.length c] w λe w'=>
   e= .returned (.int .u64 (eJ 0#64 l).toNat)/\w=w':=by
 go_enter func90,ntmps90;go_wp2_with fail;refine(NW A l c _ hB hm).mono ?_;rintro e w' ⟨rfl,rfl⟩;go_wp2;go_ret;exact⟨rfl,rfl⟩
end NV
theorem afc(w:Lo)(r clock:Nat)(k:Int)(es:Array MapEntry)(v:Value)(hb:w.heap[r]? =some (.map es clock))(hf:Instr.findNow (.int .i64) (.int .i64 k) es.toList 0=some none):
  (Instr.mapUpdate 113 (.map (some r)) (.int .i64 k) v).run prog w= .ok () {w with heap:=w.heap.setIfInBounds r (.map (es.push {key:= .int .i64 k,val:=v,born:=clock}) (clock+1))}:=by
 have hc:(Instr.checkKey false 10000 3 (.int .i64 k)).run prog w= .ok () w:=MapKept.run_checkKey (k:= .int .i64 k) underlying3 (by simp[MapKept.IsKey]) false 9999;simp[Instr.mapUpdate,run_underlying underlying113,MapKept.run_getObj_map hb,hc,MapKept.run_findKey underlying3 hf,MapKept.run_setObj_map _ hb,Result.andThen]
def nW:Array MapEntry:= #[⟨.int .i64 0,.func (.func 111) #[] #[],0⟩,⟨.int .i64 1,.func (.func 112) #[] #[],1⟩,⟨.int .i64 4,.func (.func 114) #[] #[],2⟩,⟨.int .i64 10,.func (.func 116) #[] #[],3⟩]
theorem AC{W:Lo}{r c:Nat}{es:Array MapEntry}(k:Int)(v:Value)(hb:W.heap[r]? =some (.map es c))(hf:Instr.findNow (.int .i64) (.int .i64 k) es.toList 0=some none)(hB:Below w.heap.size w W)(hr:w.heap.size<=r):
  ∃W',(Instr.mapUpdate 113 (.map (some r)) (.int .i64 k) v).run prog W= .ok () W'/\W'.heap[r]? =some (.map (es.push {key:= .int .i64 k,val:=v,born:=c}) (c+1))/\Below w.heap.size w W':=by
 refine⟨_,afc W r c k es v hb hf,(MapKept.heap_set hb).1,?_⟩;exact⟨hB.os,hB.tape,hB.output,by simpa using hB.size,λi hi=>((MapKept.heap_set hb).2 i aa).trans (hB.block i hi)⟩
def XK(w:Lo)(e:Ending)(w':Lo):Prop:= ∃r,e= .returned (.map (some r))/\w'.heap[r]? =some (.map nW 4)/\w.heap.size<=r/\Below w.heap.size w w'
theorem mL(w:Lo):Calls prog 76 #[] w (XK w):=by have Iz:=run_makeMap (P:=prog) 113 w;have b0:=(MapKept.heap_alloc w (.map #[] 0)).1;have B0:aq w (w.alloc (.map #[] 0)):=az;generalize w.alloc (.map #[] 0)=W0 at*;obtain⟨W1,i1,b1,B1⟩:=AC 0 (.func (.func 111) #[] #[]) b0 rfl B0 (aF _);obtain⟨W2,i2,b2,B2⟩:=AC 1 (.func (.func 112) #[] #[]) b1 rfl B1 (aF _);obtain⟨W3,i3,b3,B3⟩:=AC 4 (.func (.func 114) #[] #[]) b2 rfl B2 (aF _);obtain⟨W4,i4,b4,B4⟩:=AC 10 (.func (.func 116) #[] #[]) b3 rfl B3 (aF _);have fJ:=ae b4;clear b0 b1 b2 b3 b4;go_enter func76,ntmps76;go_wp2;go_ret;exact⟨w.heap.size,rfl,fJ.out,aF _,B4⟩
theorem pI(w:Lo)(r:Nat)(id:Int)(hb:w.heap[r]? =some (.map nW 4))(a:Option (Nat×Value))(hf:Instr.findNow (.int .i64) (.int .i64 id) nW.toList 0=some a):
  (Instr.lookup 113 (.map (some r)) (.int .i64 id) true).run prog w= .ok (.tuple #[(a.map (·.2)).getD .nilFunc,.bool a.isSome]) w:=by
 have hz:(zeroValue 111).run prog w= .ok .nilFunc w:=ak;have hc: ∀e,(Instr.checkKey e 10000 3 (.int .i64 id)).run prog w= .ok () w:=λe=>MapKept.run_checkKey (k:= .int .i64 id) underlying3 (by simp[MapKept.IsKey]) e 9999;cases a<;>simp[Instr.lookup,run_underlying underlying113,MapKept.run_getObj_map hb,hc,MapKept.run_findKey underlying3 hf,hz,Result.andThen]
def cQ(c:Int):Bool:=c==0||c==1||c==4||c==10
theorem EZ:Instr.findNow (.int .i64) (.int .i64 0) nW.toList 0=some (some (0,.func (.func 111) #[] #[])):=rfl
theorem yg:Instr.findNow (.int .i64) (.int .i64 1) nW.toList 0=some (some (1,.func (.func 112) #[] #[])):=rfl
theorem E5:Instr.findNow (.int .i64) (.int .i64 4) nW.toList 0=some (some (2,.func (.func 114) #[] #[])):=rfl
theorem CN:Instr.findNow (.int .i64) (.int .i64 10) nW.toList 0=some (some (3,.func (.func 116) #[] #[])):=rfl
theorem pJ(c k:Int)(h:c≠k):Instr.sameNow (.int .i64) (.int .i64 c) (.int .i64 k)=some false:=by simp[Instr.sameNow,h]
theorem CO(c:Int)(h:cQ c=false):Instr.findNow (.int .i64) (.int .i64 c) nW.toList 0=some none:=by simp[cQ]at h;obtain⟨⟨⟨h0,h1⟩,h4⟩,zI⟩:=h;simp[nW,Instr.findNow,pJ _ _ h0,pJ _ _ h1,pJ _ _ h4,pJ _ _ zI]
def eN(c:Int)(l:An):List UInt8:=if c=1 then gG (C3.eJ 0#32 l).toNat 4 else if c=4 then gG (NV.eJ 0#64 l).toNat 8 else if c=10 then(St.new.fI l).gN else []
def dg(c:Int):Nat:=if c=1 then 4 else if c=4 then 8 else if c=10 then 32 else 0
theorem fy(c:Int)(l:An):(eN c l).length=dg c:=by
 unfold eN dg;split;·exact fw _ _
 ·split;·exact fw _ _
  ·split;·exact nT _
   ·rfl
end Go.Proofs.YtfcaoggfnkhfiaaGreatDoor
