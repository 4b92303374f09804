import Derived.Test.YtgfpocdiojifoaaGreatDoorZ07
import Derived.Test.YtgfpocdiojifoaaGreatDoorZ06
import Derived.Deep.RegionHeld3
import Derived.Laws.BitsAllLaws
import Derived.Test.YtgfpocdiojifoaaGreatDoorRows
import Derived.WalkKit
import Derived.WalkSpells
import Derived.WalkLawsBesides
import Derived.Lib.Hide
import Derived.Deep.QuietTactic
import Derived.BigQuiet
namespace Go.Proofs.YtgfpocdiojifoaaGreatDoor
set_option maxRecDepth 100000
set_option maxHeartbeats 8000000
open Go.RowKit Go.Proofs.Tryz
variable{a a':Int}{k:IntKind}{n:Nat}
def et(a b:Int):Int:=a*b/18446744073709551616
def jH(a b:Int):Int:=a*b%18446744073709551616
theorem so(a b:Int)(ha:0≤a)(hb:0≤b)(aE:b<18446744073709551616):0≤et a b∧et a b≤a:=by unfold et;have h0:0≤a*b:=Int.mul_nonneg ha hb;have h1:a*b≤a*18446744073709551616:=Int.mul_le_mul_of_nonneg_left aa ha;exact⟨Int.ediv_nonneg h0 aa,aa⟩
theorem sr(a b:Int):0≤jH a b∧jH a b<18446744073709551616:=by unfold jH;omega
def sq(n:Int):Nat→Int
 | 0=>0
 | k+1=>if et (sq n k+2^(36-k)) (sq n k+2^(36-k))<n then sq n k+2^(36-k)else sq n k
def Ap(y:Int):Int:=(jH (et y y) y+et (jH y y) y)%18446744073709551616
def Cr(y:Int):Int:=if Ap y<jH (et y y) y then et (et y y) y+1 else et (et y y) y
def cb(n:Int):Nat→Int
 | 0=>0
 | k+1=>if Cr (cb n k+2^(35-k))=0∧Ap (cb n k+2^(35-k))/4294967296<n then cb n k+2^(35-k)else cb n k
theorem ot(m k:Nat)(h:k<m):(2:Int)^(m-k)=2*2^(m-(k+1)):=by
 obtain⟨d,rfl⟩: ∃d,m=k+1+d:=⟨m-(k+1),aa⟩
 rw[show k+1+d-k=d+1 by omega,show k+1+d-(k+1)=d by omega,Int.pow_succ,Int.mul_comm]
theorem pow_pos(m:Nat):(0:Int)<2^m:=Int.pow_pos an
theorem Ye(n:Int): ∀k,k≤37→0≤sq n k∧sq n k+2^(37-k)≤2^37
 | 0,_=>by simp[sq]
 | k+1,hk=>by obtain⟨h0,h1⟩:=Ye n k aa;rw[ot 37 k aa]at h1;have hp:=pow_pos (37-(k+1));have e:(36-k:Nat)=37-(k+1):=aa;simp only[sq,e];generalize(2:Int)^(37-(k+1))=B at*;split<;>constructor<;>omega
theorem Yf(n:Int): ∀k,k≤36→0≤cb n k∧cb n k+2^(36-k)≤2^36
 | 0,_=>by simp[cb]
 | k+1,hk=>by obtain⟨h0,h1⟩:=Yf n k aa;rw[ot 36 k aa]at h1;have hp:=pow_pos (36-(k+1));have e:(35-k:Nat)=36-(k+1):=aa;simp only[cb,e];generalize(2:Int)^(36-(k+1))=B at*;split<;>constructor<;>omega
def au(m k:Nat):Int:=if k≤m then 2^(m-k)else 0
theorem xW(m k:Nat)(h:k≤m):au m k/2=au m (k+1):=by
 unfold au;rw[if_pos h];by_cases h2:k+1≤m;·rw[if_pos h2,ot m k aa];omega
 ·have:m-k=0:=by omega
  rw[if_neg h2,this];rfl
def Aq(l:List Nat)(n:Nat):List Nat:=if l.all (fun p=>n%p !=0)then l++[n]else l
def db:Nat→List Nat
 | 0=>[]
 | k+1=>Aq (db k) (k+2)
theorem Iw(k:Nat):(db k).length≤(db (k+1)).length:=by simp only[db,Aq];split<;>simp
theorem R0{k m:Nat}(h:k≤m):(db k).length≤(db m).length:=by
 induction h with
 | refl=>exact Nat.le_refl _
 | step _ ih=>exact Nat.le_trans ih (Iw _)
theorem ph: ∀k,∀p∈db k,2≤p∧p≤k+1
 | 0,p,h=>by simp[db]at h
 | k+1,p,h=>by
  simp only[db,Aq]at h;split at h
  ·rw[List.mem_append]at h;rcases h with h | h;·have:=ph k p h;omega
   ·simp at h;omega
  ·have:=ph k p h;omega
theorem xX:(db 309).length=63∧(db 310).length=64:=jJ
def jx:List Int:=((db 310).take 8).map fun(p:Nat)=>sq (p:Int) 37%4294967296
def lk:List Int:=(db 310).map fun(p:Nat)=>cb (p:Int) 36%4294967296
theorem Ar:jx=[1779033703,3144134277,1013904242,2773480762,1359893119,2600822924,528734635,1541459225]:=jJ
theorem As:lk=wI.map fun x=>(x.toNat:Int):=jJ
theorem MM(a0 a1 b0 b1 p q r s:Int)(hp:a0*b0=p)(hq:a1*b0=q)(hr:a0*b1=r)(hs:a1*b1=s):(a1*4294967296+a0)*(b1*4294967296+b0)=s*18446744073709551616+(q+r)*4294967296+p:=by
 subst hp hq hr hs;rw[Int.add_mul,Int.mul_add,Int.mul_add];have e1:a1*4294967296*(b1*4294967296)=a1*b1*18446744073709551616:=by rw[Int.mul_assoc,Int.mul_left_comm 4294967296 b1,←Int.mul_assoc];rfl
 have e2:a1*4294967296*b0=a1*b0*4294967296:=by rw[Int.mul_assoc,Int.mul_comm 4294967296 b0,←Int.mul_assoc]
 have e3:a0*(b1*4294967296)=a0*b1*4294967296:=by rw[←Int.mul_assoc]
 rw[e1,e2,e3,Int.add_mul];omega
theorem vu(a b:Int)(ha:0≤a)(ha2:a<4294967296)(hb:0≤b)(aE:b<4294967296):0≤a*b∧a*b≤18446744065119617025:=by refine⟨Int.mul_nonneg ha hb,?_⟩;have h1:a*b≤4294967295*b:=Int.mul_le_mul_of_nonneg_right aa hb;omega
theorem R2{k':IntKind}{b b':Int}(h1:a=a')(h2:b=b'):Ending.returned (.tuple #[.int k a,.int k' b])= .returned (.tuple #[.int k a',.int k' b']):=by rw[h1,h2]
theorem Fc(h1:a=a'):Ending.returned (.int k a)= .returned (.int k a'):=by rw[h1]
theorem vw(a b:Int)(ha:0≤a)(ha2:a<18446744073709551616)(hb:0≤b)(aE:b<18446744073709551616)(w:World):
  Calls prog 183 #[.int .u64 a,.int .u64 b] w fun e w'=>e= .returned (.tuple #[.int .u64 (et a b),.int .u64 (jH a b)])∧w=w':=by
 obtain⟨a0,h1⟩: ∃x,a%4294967296=x:=⟨_,rfl⟩
 obtain⟨a1,h2⟩: ∃x,a/4294967296=x:=⟨_,rfl⟩
 obtain⟨b0,h3⟩: ∃x,b%4294967296=x:=⟨_,rfl⟩
 obtain⟨b1,h4⟩: ∃x,b/4294967296=x:=⟨_,rfl⟩
 have d1:0≤a0∧a0<4294967296:=aa;have d2:0≤a1∧a1<4294967296:=aa;have d3:0≤b0∧b0<4294967296:=aa;have d4:0≤b1∧b1<4294967296:=aa;have ep:=vu a0 b0 d1.1 d1.2 d3.1 d3.2;have eq:=vu a1 b0 d2.1 d2.2 d3.1 d3.2;have er:=vu a0 b1 d1.1 d1.2 d4.1 d4.2;have es:=vu a1 b1 d2.1 d2.2 d4.1 d4.2;obtain⟨p,hp⟩: ∃x,a0*b0=x:=⟨_,rfl⟩
 obtain⟨q,hq⟩: ∃x,a1*b0=x:=⟨_,rfl⟩
 obtain⟨r,hr⟩: ∃x,a0*b1=x:=⟨_,rfl⟩
 obtain⟨s,hs⟩: ∃x,a1*b1=x:=⟨_,rfl⟩
 have hm:=MM a0 a1 b0 b1 p q r s hp hq hr hs;rw[hp]at ep;rw[hq]at eq;rw[hr]at er;rw[hs]at es;have ea:a1*4294967296+a0=a:=aa;have eb:b1*4294967296+b0=b:=aa;rw[ea,eb]at hm;have Ei:et a b=s+q/4294967296+r/4294967296+(p/4294967296+q%4294967296+r%4294967296)/4294967296:=by unfold et;rw[hm];omega
 have we:jH a b=(p/4294967296+q%4294967296+r%4294967296)%4294967296*4294967296+p%4294967296:=by unfold jH;rw[hm];omega
 rw[Ei,we];obtain⟨p0,p1⟩:=ep;obtain⟨q0,q1⟩:=eq;obtain⟨r0,r1⟩:=er;obtain⟨s0,s1⟩:=es;clear hm ea eb Ei we d1 d2 d3 d4;go_enter func183,ntmps183;go_wp2;go_ret2;exact⟨R2 aa aa,rfl⟩
theorem Iy(n:Int)(hn:0≤n)(oT:n<18446744073709551616)(w:World):Calls prog 148 #[.int .u64 n] w fun e w'=>e= .returned (.int .u32 (sq n 37%4294967296))∧w=w':=by
 go_enter func148,ntmps148;go_wp2_with fail;go_loop [3,4] (fun x b=> ∃k:Nat,k≤37∧x= .int .u64 (sq n k)∧b= .int .u64 (au 36 k)) (fun _ b=>(intOf b).toNat);case atStart=>exact⟨0,aa,rfl,rfl⟩
 case round=>
  obtain⟨k,hk,rfl,rfl⟩:=hrel;obtain⟨x0,x1⟩:=Ye n k hk;by_cases aF:k<37
  ·have hb:au 36 k=2^(36-k):=(by unfold au;rw[if_pos aa]);have vU:=pow_pos (36-k);rw[ot 37 k aF,show 37-(k+1)=36-k by omega]at x1;have hS:sq n (k+1)=if et (sq n k+2^(36-k)) (sq n k+2^(36-k))<n then sq n k+2^(36-k)else sq n k:=rfl;have iK:=xW 36 k aa;have j5:au 36 (k+1)<au 36 k:=(by rw[←iK,hb];omega);rw[hb]at iK j5 ⊢;generalize(2:Int)^(36-k)=B at*;obtain⟨B2,gX⟩: ∃x,au 36 (k+1)=x:=⟨_,rfl⟩
   rw[gX]at iK j5;have dY:=hdd gX;clear gX;have x2:sq n k+2*B≤137438953472:=(by simpa using x1);clear x1 hb;generalize sq n k=x at*;have hh:=so (x+B) (x+B) aa aa aa;have hl:=sr (x+B) (x+B);have HM:=hdd (fun w=>vw (x+B) (x+B) aa aa aa aa w);have HS:=hdd hS;have jb:=hdd iK;clear hS iK;generalize et (x+B) (x+B)=hi at*;generalize jH (x+B) (x+B)=lo at*;obtain⟨hh0,DZ⟩:=hh;obtain⟨OU,wq⟩:=hl;have gX:B/2=B2:=jb.out;by_cases hc:hi<n
   ·clear gX;go_wp2_with ((with_reducible refine(HM.out _).mono ?_);rintro e w' ⟨rfl,rfl⟩)
    go_round;case rel=>exact⟨k+1,aa,by rw[HS.out,if_pos hc],oB⟩
    case measure=>simp[intOf];omega
   ·clear gX;go_wp2_with ((with_reducible refine(HM.out _).mono ?_);rintro e w' ⟨rfl,rfl⟩)
    go_round;case rel=>exact⟨k+1,aa,by rw[HS.out,if_neg aa],oB⟩
    case measure=>simp[intOf];omega
  ·obtain rfl:k=37:=(by omega);have hb:au 36 37=0:=rfl;rw[hb];simp only[Nat.sub_self]at x1;have x2:sq n 37<137438953472:=(by have:(2:Int)^37=137438953472:=an;have:(2:Int)^0=1:=an;omega);clear x1;generalize hx:sq n 37=x at*;have HX:=hdd hx;clear hx;go_wp2_with fail;go_ret;exact⟨Fc iU,rfl⟩
theorem R3(n:Int)(w:World):Calls prog 149 #[.int .u64 n] w fun e w'=>e= .returned (.int .u32 (cb n 36%4294967296))∧w=w':=by
 go_enter func149,ntmps149;go_wp2_with fail;go_loop [3,4] (fun x b=> ∃k:Nat,k≤36∧x= .int .u64 (cb n k)∧b= .int .u64 (au 35 k)) (fun _ b=>(intOf b).toNat);case atStart=>exact⟨0,aa,rfl,rfl⟩
 case round=>
  obtain⟨k,hk,rfl,rfl⟩:=hrel;obtain⟨x0,x1⟩:=Yf n k hk;by_cases aF:k<36
  ·have hb:au 35 k=2^(35-k):=(by unfold au;rw[if_pos aa]);have vU:=pow_pos (35-k);rw[ot 36 k aF,show 36-(k+1)=35-k by omega]at x1;have hS:cb n (k+1)=if Cr (cb n k+2^(35-k))=0∧Ap (cb n k+2^(35-k))/4294967296<n then cb n k+2^(35-k)else cb n k:=rfl;have iK:=xW 35 k aa;have j5:au 35 (k+1)<au 35 k:=(by rw[←iK,hb];omega);rw[hb]at iK j5 ⊢;generalize(2:Int)^(35-k)=B at*;obtain⟨B2,gX⟩: ∃x,au 35 (k+1)=x:=⟨_,rfl⟩
   rw[gX]at iK j5;have dY:=hdd gX;clear gX;have x2:cb n k+2*B≤68719476736:=(by simpa using x1);clear x1 hb;generalize cb n k=x at*;have hH:Cr (x+B)=if Ap (x+B)<jH (et (x+B) (x+B)) (x+B)then et (et (x+B) (x+B)) (x+B)+1 else et (et (x+B) (x+B)) (x+B):=rfl;have hU:Ap (x+B)=(jH (et (x+B) (x+B)) (x+B)+et (jH (x+B) (x+B)) (x+B))%18446744073709551616:=rfl;have h1:=so (x+B) (x+B) aa aa aa;have h2:=sr (x+B) (x+B);have jd:=hdd (fun w=>vw (x+B) (x+B) aa aa aa aa w);generalize et (x+B) (x+B)=hi at*;generalize jH (x+B) (x+B)=lo at*;have h3:=so hi (x+B) aa aa aa;have h4:=sr hi (x+B);have ry:=hdd (fun w=>vw hi (x+B) aa aa aa aa w);have h5:=so lo (x+B) aa aa aa;have h6:=sr lo (x+B);have CZ:=hdd (fun w=>vw lo (x+B) aa aa aa aa w);generalize et hi (x+B)=a at*;generalize jH hi (x+B)=b at*;generalize et lo (x+B)=c at*;generalize jH lo (x+B)=c' at*;generalize Cr (x+B)=hg at*;have⟨u,hu⟩:=ex (Ap (x+B));rw[hu]at hS hH hU;have WW:0≤u∧u<18446744073709551616:=aa;obtain⟨h1a,h1b⟩:=h1;obtain⟨h2a,h2b⟩:=h2;obtain⟨h3a,h3b⟩:=h3;obtain⟨h4a,h4b⟩:=h4;obtain⟨h5a,h5b⟩:=h5;obtain⟨h6a,h6b⟩:=h6;obtain⟨u0,u1⟩:=WW;have HS:=hdd hS;have jb:=hdd iK;have HH:=hdd hH;have HU:=hdd hU;clear hS iK hH hU hu;have hd:hg=a∨hg=a+1:=(by have:=HH.out;split at this<;>omega);have hu:IntKind.u64.wrap (b+c)=u:=(by rw[IntKind.wrap_u64];exact HU.out.symm);have gX:B/2=B2:=jb.out;by_cases hc:u<b
   ·have hga:hg=a+1:=(by rw[HH.out,if_pos hc]);have pM: ¬(hg=0∧u/4294967296<n):=aa;have HR:Hid (cb n (k+1)=x):=hdd (by rw[HS.out,if_neg pM]);have Fd:a+1≠0:=aa;have ha1:(a+1==0)=false:=(by simpa using Fd);have ha2:a≠ -1:=aa;have ha3:(a== -1)=false:=(by simpa using ha2);clear hd hga pM;go_wp2_with (first | ((with_reducible refine(jd.out _).mono ?_);rintro e w' ⟨rfl,rfl⟩) | ((with_reducible refine(ry.out _).mono ?_);rintro e w' ⟨rfl,rfl⟩) | ((with_reducible refine(CZ.out _).mono ?_);rintro e w' ⟨rfl,rfl⟩))
    go_round;case rel=>exact⟨k+1,aa,by rw[HR.out],oB⟩
    case measure=>simp[intOf];omega
   ·have hga:hg=a:=(by rw[HH.out,if_neg hc]);by_cases ha:a=0
    ·by_cases hq:u/4294967296<n
     ·have HR:Hid (cb n (k+1)=x+B):=hdd (by rw[HS.out,if_pos aa]);clear hd hga;subst ha;go_wp2_with (first | ((with_reducible refine(jd.out _).mono ?_);rintro e w' ⟨rfl,rfl⟩) | ((with_reducible refine(ry.out _).mono ?_);rintro e w' ⟨rfl,rfl⟩) | ((with_reducible refine(CZ.out _).mono ?_);rintro e w' ⟨rfl,rfl⟩))
      go_round;case rel=>exact⟨k+1,aa,by rw[HR.out],oB⟩
      case measure=>simp[intOf];omega
     ·have HR:Hid (cb n (k+1)=x):=hdd (by rw[HS.out,if_neg aa]);clear hd hga;subst ha;go_wp2_with (first | ((with_reducible refine(jd.out _).mono ?_);rintro e w' ⟨rfl,rfl⟩) | ((with_reducible refine(ry.out _).mono ?_);rintro e w' ⟨rfl,rfl⟩) | ((with_reducible refine(CZ.out _).mono ?_);rintro e w' ⟨rfl,rfl⟩))
      go_round;case rel=>exact⟨k+1,aa,by rw[HR.out],oB⟩
      case measure=>simp[intOf];omega
    ·have HR:Hid (cb n (k+1)=x):=hdd (by rw[HS.out,if_neg aa]);have ha1:(a==0)=false:=(by simpa using ha);clear hd hga;go_wp2_with (first | ((with_reducible refine(jd.out _).mono ?_);rintro e w' ⟨rfl,rfl⟩) | ((with_reducible refine(ry.out _).mono ?_);rintro e w' ⟨rfl,rfl⟩) | ((with_reducible refine(CZ.out _).mono ?_);rintro e w' ⟨rfl,rfl⟩))
     go_round;case rel=>exact⟨k+1,aa,by rw[HR.out],oB⟩
     case measure=>simp[intOf];omega
  ·obtain rfl:k=36:=(by omega);have hb:au 35 36=0:=rfl;rw[hb];simp only[Nat.sub_self]at x1;have x2:cb n 36<68719476736:=(by have:(2:Int)^36=68719476736:=an;have:(2:Int)^0=1:=an;omega);clear x1;generalize hx:cb n 36=x at*;have HX:=hdd hx;clear hx;go_wp2_with fail;go_ret;exact⟨Fc iU,rfl⟩
abbrev Yg(n:Nat):Value:= .int .u64 (n:Nat)
theorem C_:Elem 215 41 (.int .u64 0) 8:=⟨underlying215,ak,rfl⟩
theorem pi:Elem 167 24 (.int .u32 0) 4:=⟨underlying167,ak,rfl⟩
def Iz(w:World)(e:Ending)(w':World):Prop:= ∃v,e= .returned v∧aP 41 w.heap.size w' v ((db 310).map Yg)∧Below w.heap.size w w'
theorem zm(l:List Nat)(f:Nat→Bool)(i:Nat)(h:i<l.length):(l.take (i+1)).all f=((l.take i).all f&&f l[i]):=by rw[List.take_succ_eq_append_getElem h,List.all_append];simp
theorem IA(w:World):Calls prog 147 #[.int .i64 64] w (Iz w):=by
 go_enter func147,ntmps147;go_wp2_with fail;go_loopw [3,4] (fun v n wr=> ∃k:Nat,k≤310∧n= .int .u64 ((k:Int)+2)∧aP 41 w.heap.size wr v ((db k).map Yg)∧Below w.heap.size w wr) (fun _ n _=>(312-intOf n).toNat);case atStart=>exact⟨0,aa,rfl,aP.nil _ _ _,Below.refl _ _⟩
 case round=>
  obtain⟨k,hk,rfl,aD,hb⟩:=hrel;obtain⟨A,c,rfl,hc,hm,hcell⟩:=aD.read;have hlen:((db k).map Yg).length=(db k).length:=List.length_map ..;rw[hlen]at hc aD ⊢;have vU:=ph k;have XE:(0:Int)≤(k:Int):=aa;have hkm:(k:Int)≤310:=aa;by_cases aF:k<310
  ·have NT:(db k).length<64:=(by have:=R0 (show k≤309 by omega);have:=xX.1;omega);have pG: ∀i (h:i<(db k).length),∃g,A=some ⟨g,0,none⟩∧wr.cell? ⟨g,i,none⟩=some (Yg (db k)[i]):=fun i h=>(by obtain⟨g,h1,h2⟩:=hcell i (by rw[hlen];exact h);exact⟨g,h1,by rw[h2];simp⟩);have iE:Hid (db (k+1)=Aq (db k) (k+2)):=hdd rfl;have HL:=hdd hlen;clear hcell hlen;generalize db k=L at*;have at3:(L.length:Int)<64:=aa;go_wp2_with fail;go_loop [5,6] (fun b i=> ∃j:Nat,j≤L.length∧i= .int .i64 j∧b= .bool ((L.take j).all fun p=>(k+2)%p !=0)) (fun _ i=>L.length-(intOf i).toNat);case atStart=>exact⟨0,aa,rfl,rfl⟩
   case round=>
    obtain⟨j,hj,rfl,rfl⟩:=hrel;by_cases tT:j<L.length
    ·obtain⟨g,rfl,hcj⟩:=pG j tT;obtain⟨p0,p1⟩:=vU L[j] (List.getElem_mem _);have HA:=hdd (zm L (fun p=>(k+2)%p !=0) j tT);have yL:(j:Int)<(L.length:Int):=aa;generalize L[j]=p at*;have p0i:(2:Int)≤(p:Int):=aa;have p1i:(p:Int)≤312:=aa;generalize(L.take j).all (fun p=>(k+2)%p !=0)=bb at*;have th:((k:Int)+2)%(p:Int)=(((k+2)%p:Nat):Int):=(by rw[Int.natCast_emod];rfl);by_cases hz:(k+2)%p=0
     ·have at4:((k:Int)+2)%(p:Int)=0:=(by rw[th,hz];rfl);clear th;go_wp2_with fail;go_round;case rel=>exact⟨j+1,aa,aq,by rw[HA.out,hz];simp⟩
      case measure=>simp[intOf];omega
     ·have ZK:(((k+2)%p:Nat):Int)≠0:=(by omega);generalize(k+2)%p=m at*;have hmb:((m:Int)==0)=false:=(by simpa using ZK);go_wp2_with fail;go_round;case rel=>exact⟨j+1,aa,aq,by
       rw[HA.out];have:(m !=0)=true:=(by simpa using hz);rw[this];simp⟩
      case measure=>simp[intOf];omega
    ·obtain rfl:j=L.length:=(by omega);have HT:Hid ((L.take L.length).all (fun p=>(k+2)%p !=0)=L.all (fun p=>(k+2)%p !=0)):=hdd (by rw[List.take_length]);by_cases dv:L.all (fun p=>(k+2)%p !=0)=true
     ·have HR:Hid (db (k+1)=L++[k+2]):=hdd (by rw[iE.out,Aq,if_pos dv]);rw[HT.out,dv];have bM:=aD.alloc (.cells #[.int .u64 ((k:Int)+2)] 41);have ks:=gE wr (.int .u64 ((k:Int)+2)) 41;have aE:=hb.alloc hb.size (.cells #[.int .u64 ((k:Int)+2)] 41);have dJ:(L.map Yg).length+1≤200:=(by rw[List.length_map];omega);have ro:w.heap.size≤(wr.alloc (.cells #[.int .u64 ((k:Int)+2)] 41)).heap.size:=aE.size;have ku: ∀u∈[Value.int .u64 ((k:Int)+2)],u.oneCell'=true:=sV;clear dv;go_wp2_with (refine a8 C_ rfl _ _ rfl w.heap.size _ (.slice A L.length c) _ rfl bM wr.heap.size 1 1 [.int .u64 ((k:Int)+2)] rfl rfl ks ku aa aa ro ?_;intro v' w3 bj l5 _)
      have aW:=eu aE l5 ro (fun g e=>(bM.lt g e).1);go_roundw;case rel=>exact⟨k+1,aa,aq,by rw[HR.out,List.map_append];exact bj,aW⟩
      case measure=>simp[intOf];omega
     ·have HR:Hid (db (k+1)=L):=hdd (by rw[iE.out,Aq,if_neg dv]);have hf:L.all (fun p=>(k+2)%p !=0)=false:=(by simpa using dv);rw[HT.out,hf];clear dv hf;go_wp2_with fail;go_roundw;case rel=>exact⟨k+1,aa,aq,by rw[HR.out];exact aD,hb⟩
      case measure=>simp[intOf];omega
  ·obtain rfl:k=310:=(by omega);have h64:=xX.2;have hi:((db 310).length:Int)=64:=aa;have HI:=hdd hi;have at5:((db 310).length:Int)≥64:=aa;clear hi h64 hcell hlen;go_wp2_with fail;go_ret;exact⟨_,rfl,aD,hb⟩
abbrev I32(n:Int):Value:= .int .u32 n
def At:List Value:=wI.map ay
def MO(w:World)(e:Ending)(w':World):Prop:= ∃v1 v2,e= .returned (.tuple #[v1,v2])∧aP 24 w.heap.size w' v1 cV.agg.toList∧aP 24 w.heap.size w' v2 At∧Below w.heap.size w w'
theorem qy:jx.length=8:=by rw[Ar];rfl
theorem qz:lk.length=64:=by rw[As];rfl
theorem Fe(k:Nat)(h:k<8)(hk:k<(db 310).length):jx.take (k+1)=jx.take k++[sq ((db 310)[k]:Nat) 37%4294967296]:=by rw[List.take_succ_eq_append_getElem (by rw[qy];exact h)];simp[jx]
theorem Ff(k:Nat)(h:k<64)(hk:k<(db 310).length):lk.take (k+1)=lk.take k++[cb ((db 310)[k]:Nat) 36%4294967296]:=by rw[List.take_succ_eq_append_getElem (by rw[qz];exact h)];simp[lk]
theorem IB(k:Nat)(h:8≤k):jx.take k=jx:=List.take_of_length_le (by rw[qy];exact h)
theorem IC:lk.take 64=lk:=List.take_of_length_le (by rw[qz];exact Nat.le_refl _)
theorem Fg:jx.map I32=cV.agg.toList:=by rw[Ar];rfl
theorem Fh:lk.map I32=At:=by rw[As];unfold At;rw[List.map_map];rfl
theorem pj(n:Int): ∀u∈[Value.int k n],u.oneCell'=true:=sV
theorem MP(w:World):Calls prog 103 #[] w (MO w):=by
 go_enter func103,ntmps103;go_wp2_with fail;refine(IA w).mono ?_;rintro e w1 ⟨vp,rfl,hp,aC⟩;have CO:=hdd xX.2;have rI:0<((db 310).map Yg).length:=by rw[List.length_map,CO.out];omega
 obtain⟨gp,cp,rfl,at6,ae8,alC,at7,hpc⟩:=hp.bK rI;have e64:((db 310).map Yg).length=64:=by rw[List.length_map,CO.out]
 rw[e64]at alC ⊢;have HPC:Hid (∀i (h:i<(db 310).length),w1.cell? ⟨gp,i,none⟩=some (Yg (db 310)[i])∧(db 310)[i]≤311):=hdd (fun i h=>⟨by rw[hpc i (by rw[List.length_map];exact h)];simp,by have:=ph 310 _ (List.getElem_mem h);omega⟩);have pK:=hdd Fe;have Lh:=hdd Ff;have HE:=hdd IB;clear hpc e64 rI hp;generalize db 310=P at*;go_wp2_with fail;go_loopw [3,4,5] (fun v3 v4 i wr=> ∃k:Nat,k≤64∧i= .int .i64 k∧aP 24 w1.heap.size wr v3 ((jx.take k).map I32)∧aP 24 w1.heap.size wr v4 ((lk.take k).map I32)∧(∀g,v3.ownBlock=some g→v4.ownBlock≠some g)∧Below w1.heap.size w1 wr) (fun _ _ i _=>(64-intOf i).toNat);case atStart=>exact⟨0,aa,rfl,aP.nil _ _ _,aP.nil _ _ _,vL,Below.refl _ _⟩
 case round=>
  obtain⟨k,hk,rfl,bj,gG,dr,hb⟩:=hrel;by_cases aF:k<64
  ·obtain⟨uB,fY⟩:=HPC.out k uY;have iA:=fun h=>pK.out k h uY;have GG:=Lh.out k aF uY;generalize P[k]'uY=p at*;have hc:=(hb.cell (p:=⟨gp,k,none⟩) ae8).trans uB;have rz:(p:Int)≤311:=aa;have D_:=hdd GG;have ae9:=hdd iA;have BI:(k:Int)<64:=aa;have ZQ:=hdd uB;have HSQ:=hdd (fun w=>Iy (p:Int) aa aa w);have F5:=hdd (fun w=>R3 (p:Int) w);have⟨s,hs⟩:=ex (sq (p:Int) 37%4294967296);have⟨c,BT⟩:=ex (cb (p:Int) 36%4294967296);rw[hs]at HSQ ae9;rw[BT]at F5 D_;have qT:((jx.take k).map I32).length≤8:=(by rw[List.length_map,List.length_take,qy];omega);have rR:((lk.take k).map I32).length≤64:=(by rw[List.length_map,List.length_take,qz];omega);clear hs BT iA GG uB;by_cases h8:k<8
   ·have h8i:(k:Int)<8:=(by omega);go_wp2_with fail;refine(HSQ.out _).mono ?_;rintro e w' ⟨rfl,rfl⟩;have su:=bj.alloc (.cells #[.int .u32 s] 24);have E_:=gG.alloc (.cells #[.int .u32 s] 24);have ks:=gE wr (.int .u32 s) 24;have pN:=hb.alloc hb.size (.cells #[.int .u32 s] 24);have hsA:=pN.size;have afa:(wr.alloc (.cells #[.int .u32 s] 24)).heap.size=wr.heap.size+1:=ae;have ju:=hdd afa;clear hc afa;go_wp2_with (refine a8 pi rfl _ _ rfl w1.heap.size _ u3 _ rfl su wr.heap.size 1 1 [.int .u32 s] rfl rfl ks (pj s) aa aa hsA ?_;intro v3' w3 Yh hgB alD;have N3:=eu pN hgB hsA (fun g e=>(su.lt g e).1);have lu:=(N3.cell (p:=⟨gp,k,none⟩) ae8).trans ZQ.out)
    have F_:=E_.grown hgB (fun g e h=>dr g h e);have afb: ∀g,v3'.ownBlock=some g→u4.ownBlock≠some g:=fun g e h=>by
     rcases alD with h2 | h2;·exact dr g (h2.symm.trans e) h
     ·have:=(gG.lt g h).2;rw[h2]at e;injection e with e
      have h3:=ju.out;omega
    refine(F5.out _).mono ?_;rintro e w' ⟨rfl,rfl⟩;have R5:=Yh.alloc (.cells #[.int .u32 c] 24);have xY:=F_.alloc (.cells #[.int .u32 c] 24);have G_:=gE w3 (.int .u32 c) 24;have UF:=N3.alloc N3.size (.cells #[.int .u32 c] 24);have hsC:=UF.size;have R6:(w3.alloc (.cells #[.int .u32 c] 24)).heap.size=w3.heap.size+1:=ae;have H_:=hdd R6;clear R6 lu;go_wp2_with (refine a8 pi rfl _ _ rfl w1.heap.size _ u4 _ rfl xY w3.heap.size 1 1 [.int .u32 c] rfl rfl G_ (pj c) aa aa hsC ?_;intro v4' w5 R7 hgD I_)
    have ID:=R5.grown hgD (fun g e h=>afb g e h);have hbD:=eu UF hgD hsC (fun g e=>(xY.lt g e).1);go_roundw;case rel=>
     refine⟨k+1,aa,aq,by rw[ae9.out h8,List.map_append];exact ID,by rw[D_.out,List.map_append];exact R7,fun g e h=> ?_,hbD⟩;rcases I_ with h2 | h2;·exact afb g e (h2.symm.trans h)
     ·have:=(Yh.lt g e).2;rw[h2]at h;injection h with h
      have h3:=H_.out;omega
    case measure=>simp[intOf];omega
   ·have h8i:(8:Int)≤(k:Int):=(by omega);have Cs:Hid (jx.take (k+1)=jx.take k):=hdd (by rw[HE.out k aa,HE.out (k+1) aa]);go_wp2_with fail;refine(F5.out _).mono ?_;rintro e w' ⟨rfl,rfl⟩;have R5:=bj.alloc (.cells #[.int .u32 c] 24);have xY:=gG.alloc (.cells #[.int .u32 c] 24);have G_:=gE wr (.int .u32 c) 24;have UF:=hb.alloc hb.size (.cells #[.int .u32 c] 24);have hsC:=UF.size;have R6:(wr.alloc (.cells #[.int .u32 c] 24)).heap.size=wr.heap.size+1:=ae;have H_:=hdd R6;clear R6 hc;go_wp2_with (refine a8 pi rfl _ _ rfl w1.heap.size _ u4 _ rfl xY wr.heap.size 1 1 [.int .u32 c] rfl rfl G_ (pj c) aa aa hsC ?_;intro v4' w5 R7 hgD I_)
    have ID:=R5.grown hgD (fun g e h=>dr g e h);have hbD:=eu UF hgD hsC (fun g e=>(xY.lt g e).1);go_roundw;case rel=>
     refine⟨k+1,aa,aq,by rw[Cs.out];exact ID,by rw[D_.out,List.map_append];exact R7,fun g e h=> ?_,hbD⟩;rcases I_ with h2 | h2;·exact dr g e (h2.symm.trans h)
     ·have:=(bj.lt g e).2;rw[h2]at h;injection h with h
      have h3:=H_.out;omega
    case measure=>simp[intOf];omega
  ·obtain rfl:k=64:=(by omega);rw[HE.out 64 aa,Fg]at bj;rw[IC,Fh]at gG;go_wp2_with fail;go_ret2;exact⟨_,_,rfl,bj.weaken aC.size,gG.weaken aC.size,aO aC hb⟩
def sw(ax:List UInt8)(k:Nat):Nat→Nat
 | 0=>0
 | j+1=>256*sw ax k j+(ax.getD (4*k+j) 0).toNat
theorem V5(ax:List UInt8)(k:Nat):sw ax k 0<1∧sw ax k 1<256∧sw ax k 2<65536∧sw ax k 3<16777216∧sw ax k 4<4294967296:=by have h0:=(ax.getD (4*k+0) 0).toNat_lt;have h1:=(ax.getD (4*k+1) 0).toNat_lt;have h2:=(ax.getD (4*k+2) 0).toNat_lt;have h3:=(ax.getD (4*k+3) 0).toNat_lt;simp only[sw];omega
theorem V6(ax:List UInt8)(k j:Nat)(h:j<4):sw ax k j<16777216:=by
 have:=V5 ax k;match j,h with
 | 0,_ | 1,_ | 2,_ | 3,_=>omega
theorem R9(ax:List UInt8)(k:Nat):sw ax k 4=(wE ax k).toNat:=by unfold wE;rw[Ph];simp only[sw,Nat.add_zero];omega
def IE(w:World)(ax:List UInt8)(e:Ending)(w':World):Prop:= ∃v,e= .returned v∧aP 24 w.heap.size w' v ((aS ax 64).map ay)∧Below w.heap.size w w'
theorem IF(ax:List UInt8)(k:Nat):(aS ax (k+1)).map ay=(aS ax k).map ay++[ay (rG ax (aS ax k) k)]:=by simp[aS]
theorem Fi(l:List (BitVec 32))(i:Nat)(h:i<(l.map ay).length):(l.map ay)[i]=ay (l.getD i 0):=by have h':i<l.length:=l7;rw[List.getElem_map];simp[List.getD,h']
theorem IG(ax:List UInt8)(l:List (BitVec 32))(n:Nat)(h:n<16):rG ax l n=wE ax n:=by unfold rG;rw[if_pos h]
theorem Fj(A:Option Addr)(ax:List UInt8)(c:Nat)(w:World)(hB:Bytes w A ax)(nh:ax.length=64):
  Calls prog 105 #[.slice A 64 c] w (IE w ax):=by
 obtain⟨bb,off,rfl,fF,hcell⟩:=hB.addr aa;have F5:Hid (∀i,i<64→w.cell? ⟨bb,off+i,none⟩=some (B8 (ax.getD i 0))):=hdd (fun i hi=>by rw[hcell i aa];simp[List.getD,show i<ax.length by omega]);have NU:=hdd (IF ax);have ee:=hdd (ik ax);have Kt:=hdd (V6 ax);have alE:=hdd (R9 ax);clear hB hcell nh;go_enter func105,ntmps105;go_wp2_with fail;go_loopw [3,4] (fun v i wr=> ∃k:Nat,k≤64∧i= .int .i64 k∧aP 24 w.heap.size wr v ((aS ax k).map ay)∧Below w.heap.size w wr) (fun _ i _=>64-(intOf i).toNat);case atStart=>exact⟨0,aa,rfl,aP.nil _ _ _,Below.refl _ _⟩
 case round=>
  obtain⟨k,hk,rfl,aD,hb⟩:=hrel;by_cases aF:k<64
  ·have BI:(k:Int)<64:=(by omega);have XE:(0:Int)≤(k:Int):=aa;have hs:=NU.out k;have sN:((aS ax k).map ay).length=k:=(by rw[List.length_map,ee.out]);have yJ:=hdd sN;by_cases h16:k<16
   ·have Z6:(k:Int)<16:=(by omega);rw[IG ax _ k h16]at hs;have HS:=hdd hs;obtain⟨v0,uJ⟩: ∃v,wE ax k=v:=⟨_,rfl⟩
    have HV:=hdd uJ;clear hs uJ sN;go_wp2_with fail;go_loop [5,6] (fun n j=> ∃q:Nat,q≤4∧j= .int .i64 q∧n= .int .u32 (sw ax k q:Nat)) (fun _ j=>4-(intOf j).toNat);case atStart=>exact⟨0,aa,rfl,rfl⟩
    case round=>
     obtain⟨q,hq,rfl,rfl⟩:=hrel;by_cases hq4:q<4
     ·have pG:=(hb.cell (p:=⟨bb,off+(4*k+q),none⟩) fF).trans (F5.out (4*k+q) aa);have T3:=Kt.out k q hq4;have HN:Hid (sw ax k (q+1)=256*sw ax k q+(ax.getD (4*k+q) 0).toNat):=hdd rfl;generalize ax.getD (4*k+q) 0=xb at*;have hx:=xb.toNat_lt;generalize sw ax k q=a at*;have hqi:(q:Int)<4:=aa;have yE:(0:Int)≤(q:Int):=aa;have hti:(4*(k:Int)+(q:Int)).toNat=4*k+q:=aa;have alF:4*(k:Int)+(q:Int)<64:=aa;have alG:0≤4*(k:Int)+(q:Int):=aa;have Fd:(0:Int)≤(a:Int):=aa;have ha1:(a:Int)<16777216:=aa;have vl:(0:Int)≤(xb.toNat:Int):=aa;have ly:(xb.toNat:Int)<256:=aa;go_wp2_with fail;go_round;case rel=>exact⟨q+1,aa,aq,by rw[HN.out];go_num⟩
      case measure=>simp[intOf];omega
     ·obtain rfl:q=4:=(by omega);rw[alE.out,HV.out];have bM:=aD.alloc (.cells #[ay v0] 24);have ks:=gE wr (ay v0) 24;have aE:=hb.alloc hb.size (.cells #[ay v0] 24);have wq:((aS ax k).map ay).length≤64:=(by rw[yJ.out];omega);have ro:=aE.size;generalize(aS ax k).map ay=L at*;go_wp2_with (refine a8 pi rfl _ _ rfl w.heap.size _ u3 L rfl bM wr.heap.size 1 1 [ay v0] rfl rfl ks (pj _) aa aa ro ?_;intro v2 w3 bj l5 _)
      have aW:=eu aE l5 ro (fun g e=>(bM.lt g e).1);go_roundw;case rel=>exact⟨k+1,aa,aq,by rw[HS.out,HV.out];exact bj,aW⟩
      case measure=>simp[intOf];omega
   ·have Z6:(16:Int)≤(k:Int):=(by omega);have hn:=zJ ax (aS ax k) k aa;obtain⟨g,cap,rfl,iY,iV,hgc,hgm,hcg⟩:=aD.bK (by rw[sN];omega);rw[sN]at hgc aD ⊢;have BT: ∀i,i<k→wr.cell? ⟨g,i,none⟩=some (ay ((aS ax k).getD i 0)):=fun i hi=>(by rw[hcg i (by rw[sN];exact hi),Fi]);have fY:=BT (k-15) aa;have fS:=BT (k-2) aa;have lu:=BT (k-16) aa;have kJ:=BT (k-7) aa;generalize(aS ax k).getD (k-15) 0=x at*;generalize(aS ax k).getD (k-2) 0=y at*;generalize(aS ax k).getD (k-16) 0=a at*;generalize(aS ax k).getD (k-7) 0=b at*;have HS0:=hdd (Pj x);have nu:=hdd (Pm y);generalize s0 x=p at*;generalize s1 y=q at*;have Pn:=hdd (fQ a p);generalize a+p=v1 at*;have K8:=hdd (fQ v1 b);generalize v1+b=v2' at*;have HN3:=hdd (fQ v2' q);generalize v2'+q=v at*;have jb:=hdd hn;have HR7:=hdd (fun w=>i9 7 aa x w);have alH:=hdd (fun w=>i9 18 aa x w);have alI:=hdd (fun w=>i9 17 aa y w);have alJ:=hdd (fun w=>i9 19 aa y w);have HS:=hdd hs;have HOW:Hid (aP 24 w.heap.size (wr.drew.alloc (.cells #[ay v] 24)) (.slice (some ⟨g,0,none⟩) k cap) ((aS ax k).map ay)):=hdd (aD.drew.alloc _);have J_:=hdd (gE wr.drew (ay v) 24);have afe:Hid ((((aS ax k).map ay).length+1)*4≤140737488355328):=hdd (by rw[sN];omega);have aff:Hid (((aS ax k).map ay).length+1≤140737488355328):=hdd (by rw[sN];omega);have T3:=(hb.drew).alloc hb.size (.cells #[ay v] 24);have ju:Hid (w.heap.size≤(wr.drew.alloc (.cells #[ay v] 24)).heap.size):=hdd T3.size;have dV:=hdd T3;have k3:wr.drew.cell? ⟨g,k-16,none⟩=some (ay a):=lu;have k4:wr.drew.cell? ⟨g,k-7,none⟩=some (ay b):=kJ;have i15:((k:Int)-15).toNat=k-15:=aa;have i2:((k:Int)-2).toNat=k-2:=aa;have l15:(15:Int)≤(k:Int):=aa;have l2:(2:Int)≤(k:Int):=aa;have m15:(k:Int)-15<(k:Int):=aa;have m2:(k:Int)-2<(k:Int):=aa;clear hs hn BT lu kJ hcg sN T3;generalize(aS ax k).map ay=L at*;go_wp2_with fail;refine(HR7.out _).mono ?_;rintro e w' ⟨rfl,rfl⟩;go_wp2_with fail;refine(alH.out _).mono ?_;rintro e w' ⟨rfl,rfl⟩;have Db:=HS0.out;go_wp2_with fail;clear Db;refine(alI.out _).mono ?_;rintro e w' ⟨rfl,rfl⟩;go_wp2_with fail;refine(alJ.out _).mono ?_;rintro e w' ⟨rfl,rfl⟩;have kG:=nu.out;go_wp2_with fail;clear kG i15 i2 l15 l2 m15 m2;refine wp_region_held_drew (S:=fun _=>True) ak trivial (fun hS=> ?_)
    refine af 0 hS (h:=af 1 hS (h:=af 2 hS (h:=bT 3 rfl (fun w hSw=>by have q:=IntWalk.i64_in ((k:Int)-16) aa;go_simp;all_goals(with_reducible rfl)) hS (h:=bT 4 rfl (fun w hSw=>by have q0:(0:Int)≤(k:Int)-16:=aa;have q1:(k:Int)-16<64:=aa;have q2:((k:Int)-16).toNat=k-16:=aa;have q3:(16:Int)≤(k:Int):=aa;have q4:(k:Int)-16<(k:Int):=aa;go_simp;all_goals(with_reducible rfl)) hS (h:=af 6 hS (h:=af 8 hS (h:=af 9 hS (h:=bT 10 rfl (fun w hSw=>by have q:=IntWalk.i64_in ((k:Int)-7) aa;go_simp;all_goals(with_reducible rfl)) hS (h:=bT 11 rfl (fun w hSw=>by have q0:(0:Int)≤(k:Int)-7:=aa;have q1:(k:Int)-7<64:=aa;have q2:((k:Int)-7).toNat=k-7:=aa;have q3:(7:Int)≤(k:Int):=aa;have q4:(k:Int)-7<(k:Int):=aa;go_simp;all_goals(with_reducible rfl)) hS (h:=af 14 hS (h:= ?_)))))))))));refine wpAnyH_ready (rs:=[5,12]) ak ae ?_;refine(AllReadyH.cons rfl (fun K hK=> ?_) (AllReadyH.cons rfl (fun K hK=> ?_) AllReadyH.nil))
    ·skip;go_simp;refine hK.out _ _ trivial (fun _=> ?_);clear hK K;refine af 7 trivial (h:= ?_);rw[Pn.out];refine aG 12 (fun K hK=> ?_);go_simp;refine hK.out _ _ trivial (fun _=> ?_);clear hK K;refine af 13 trivial (h:= ?_);rw[K8.out];refine af 15 trivial (h:= ?_);rw[HN3.out];refine aG 16 (fun K hK=> ?_);go_simp;refine hK.out _ _ trivial (fun _=> ?_);clear hK K;refine aG 17 (fun K hK=> ?_);refine lz pi rfl (.tmp 62) (.tmp 78) rfl w.heap.size (wr.drew.alloc (.cells #[ay v] 24)) (.slice (some ⟨g,0,none⟩) k cap) L rfl HOW.out wr.heap.size 1 1 [ay v] rfl rfl J_.out (pj _) afe.out aff.out ju.out ?_;intro v2 w3 bj l5 _;refine dR ?_;refine hK.out _ _ trivial (fun _=> ?_);clear hK K;refine af 18 trivial (h:= ?_);refine wpAnyH_done ak ?_ _;go_wp2_with fail;have aW:=eu dV.out l5 ju.out (fun g e=>(HOW.out.lt g e).1);go_roundw;case rel=>exact⟨k+1,aa,aq,by rw[HS.out,jb.out];exact bj,aW⟩
     case measure=>simp[intOf];omega
    ·skip;go_simp;refine hK.out _ _ trivial (fun _=> ?_);clear hK K;refine aG 5 (fun K hK=> ?_);go_simp;refine hK.out _ _ trivial (fun _=> ?_);clear hK K;refine af 7 trivial (h:= ?_);rw[Pn.out];refine af 13 trivial (h:= ?_);rw[K8.out];refine af 15 trivial (h:= ?_);rw[HN3.out];refine aG 16 (fun K hK=> ?_);go_simp;refine hK.out _ _ trivial (fun _=> ?_);clear hK K;refine aG 17 (fun K hK=> ?_);refine lz pi rfl (.tmp 62) (.tmp 78) rfl w.heap.size (wr.drew.alloc (.cells #[ay v] 24)) (.slice (some ⟨g,0,none⟩) k cap) L rfl HOW.out wr.heap.size 1 1 [ay v] rfl rfl J_.out (pj _) afe.out aff.out ju.out ?_;intro v2 w3 bj l5 _;refine dR ?_;refine hK.out _ _ trivial (fun _=> ?_);clear hK K;refine af 18 trivial (h:= ?_);refine wpAnyH_done ak ?_ _;go_wp2_with fail;have aW:=eu dV.out l5 ju.out (fun g e=>(HOW.out.lt g e).1);go_roundw;case rel=>exact⟨k+1,aa,aq,by rw[HS.out,jb.out];exact bj,aW⟩
     case measure=>simp[intOf];omega
  ·obtain rfl:k=64:=(by omega);go_wp2_with fail;go_ret;exact⟨_,rfl,aD,hb⟩
theorem kT{ops:Array Oper}{o:Oper}{a:Act}{K:Act→World→Prop}{Q:Exit→Act→World→Prop}(qQ:o.guard=none)(s x:Operand)
  (ho:o.op= .call {callee:= .builtin .append,args:= #[s,x],argTypes:= #[22,22]})
  (base:Nat) (w:World) (v:Value) (xs:List UInt8) (hs:a.eval s=v) (aD:Own base w v xs) (A:Option Addr) (l:List UInt8) (c:Nat) (hx:a.eval x= .slice A l.length c) (hB:Bytes w A l)
  (dJ:xs.length+l.length≤140737488355328) (aT:base≤w.heap.size)
  (h: ∀v' w',Own base w' v' (xs++l)→w.grownBy w' v.ownBlock→K (a.put o.dst v') w'):if Region.wanted o (yielded ops a.tmps)=true then Oper.wp prog o a w K Q else K (a.put o.dst undef) w:=by
 rw[if_pos sU];obtain⟨v',w',hr,h2,h3⟩:=fI base o.type w v xs aD A l c hB dJ aT;unfold Oper.wp execOp;simp only[ho,resolve,invoke,builtin,Sem.run_bind,Sem.run_pure,Result.andThen_ok,List.map_toArray,List.map_cons,List.map_nil,hs,hx,hr];exact h v' w' h2 h3
def comp(r:R8)(L:List UInt8):Nat→R8
 | 0=>r
 | j+1=>np (comp r L j) ((L.drop (64*j)).take 64)
theorem V7(ax ch:List UInt8)(hb:ax.length=64)(hc:ch.length=64):lay ax 0 ch=ch:=by unfold lay;rw[hc,List.drop_eq_nil_of_le aa];simp
theorem Au(s:St)(L:List UInt8)(hs:s.n%64=0)(hb:s.ax.length=64): ∀j,64*j≤L.length→(s.dZ (L.take (64*j))).ws=comp s.ws L j
 | 0,_=>rfl
 | j+1,h=>by
  have ih:=Au s L hs hb j aa;have e:L.take (64*(j+1))=L.take (64*j)++(L.drop (64*j)).take 64:=by rw[show 64*(j+1)=64*j+64 by omega,List.take_add]
  have FQ:((L.drop (64*j)).take 64).length=64:=by rw[List.length_take,List.length_drop];omega
  have hn:(s.dZ (L.take (64*j))).n%64=0:=by rw[St.Bz,List.length_take];omega
  have fF:=St.Pr (L.take (64*j)) s hb;rw[e,St.nK,St.wL _ _ fF (by rw[hn,FQ];omega),hn,FQ];simp only[comp,Nat.zero_add,if_true];rw[V7 _ _ fF FQ,ih]
def kh(l:List UInt8):Nat:=(l.length+(padding l.length).length)/64
theorem mL(l:List UInt8):(l++padding l.length).length=64*kh l:=by unfold kh;rw[List.length_append,j8];unfold dm;omega
theorem Fk(l:List UInt8):(St.new.dZ l).eW=ft (comp cV (l++padding l.length) (kh l)) 8:=by
 have h:=Au St.new (l++padding l.length) rfl (by simp[St.new]) (kh l) (by rw[mL];exact Nat.le_refl _);rw[←mL,List.take_length]at h;unfold St.eW;rw[St.Bz,←St.nK];have e:St.new.n+l.length=l.length:=by show 0+l.length=_;omega
 rw[e,h];rfl
theorem tH(x:BitVec 32)(d:Nat):IntKind.u8.wrap ((x.toNat:Int)/(d:Int))=((UInt8.ofNat (x.toNat/d%256)).toNat:Int):=by rw[IntKind.wrap_u8,qi,←Int.natCast_ediv];omega
theorem II(x:BitVec 32):IntKind.u8.wrap (x.toNat:Int)=((UInt8.ofNat (x.toNat%256)).toNat:Int):=by rw[IntKind.wrap_u8,qi];omega
theorem Sa(i:Nat)(h:i<At.length):At[i]=ay (Kc i):=by have h':i<wI.length:=h;show(wI.map ay)[i]'(by simpa using h')=_;rw[List.getElem_map];unfold Kc;simp[List.getD,h']
theorem V8(e:BitVec 32):IntKind.u32.wrap (4294967295-(e.toNat:Int))=((~~~e).toNat:Int):=by have h:=e.isLt;rw[IntKind.wrap_u32,BitVec.toNat_not];omega
theorem Sb(A:Option Addr)(l:List UInt8)(c:Nat)(w:World)(hB:Bytes w A l)(hn:l.length≤100000000):
  Calls prog 64 #[.slice A l.length c] w (bS w (St.new.dZ l).eW):=by
 have HDG:=hdd (Fk l);have Xo:=hdd (mL l);have HN:=hdd hn;have JS:kh l≤100000000:=by unfold kh;rw[j8];have:=qj l.length;omega
 generalize kh l=m at*;have BE:=hdd (fun w' (h:Bytes w' A l)=>Iu A l c w' h hn);clear hn;generalize l++padding l.length=L at*;go_enter func64,ntmps64;go_wp2_with fail;refine(MP w).mono ?_;rintro e w1 ⟨v1,v2,rfl,PM,Pw,aC⟩;have iH:=hB.below aC;go_wp2_with fail;refine(BE.out w1 iH).mono ?_;rintro e w2 ⟨AL,cL,rfl,M',hmL,hBL,aE⟩;have afg:=PM.below aE;have afh:=Pw.below aE;have xZ:=aO aC aE;obtain⟨gq,cq,rfl,aud,afi,hcq,hmq,hqc⟩:=afh.bK (by show 0<64;omega);have HQC:Hid (∀i,i<64→w2.cell? ⟨gq,i,none⟩=some (ay (Kc i))):=hdd (fun i hi=>(hqc i hi).trans (congrArg some (Sa i hi)));rw[show At.length=64 from rfl]at hcq ⊢;clear PM Pw afh hB iH aC aE hqc;rw[Xo.out]at M' ⊢;go_wp2_with fail;go_loopw [3,6] (fun v i wr=> ∃j:Nat,j≤m∧i= .int .i64 ((64*j:Nat):Int)∧aP 24 w.heap.size wr v (comp cV L j).agg.toList∧Below w2.heap.size w2 wr) (fun _ i _=>64*m-(intOf i).toNat);case atStart=>exact⟨0,aa,rfl,afg,Below.refl _ _⟩
 case round=>
  obtain⟨j,hj,rfl,hv,hb⟩:=hrel;clear afg;obtain⟨gl,cl,rfl,aug,yY,pG,qS,ks⟩:=hv.bK (by show 0<8;omega);rw[show(comp cV L j).agg.toList.length=8 from rfl]at pG ⊢;have J_:=hdd ks;clear ks;by_cases aF:j<m
  ·have pq:(L.drop (64*j)).length=64*m-64*j:=(by rw[List.length_drop,Xo.out]);obtain⟨bL,oL,rfl,alL,Sc⟩:=(hBL.below hb).addr (by rw[Xo.out];omega);have UG:Bytes wr (some ⟨bL,oL+64*j,none⟩) ((L.drop (64*j)).take 64):=(Bytes.drop (64*j) (.inr ⟨bL,oL,rfl,alL,Sc⟩)).take 64;have FQ:((L.drop (64*j)).take 64).length=64:=(by rw[List.length_take,pq];omega);have J9:Hid (comp cV L (j+1)=np (comp cV L j) ((L.drop (64*j)).take 64)):=hdd rfl;have HRN:Hid (∀ax n r,rounds ax (n+1) r=roundOf (Kc n) (wd ax n) (rounds ax n r)):=hdd (fun _ _ _=>rfl);have qX:=hdd (Fj (some ⟨bL,oL+64*j,none⟩) ((L.drop (64*j)).take 64) (cL-64*j) wr UG FQ);have HJ:Hid (64*(j+1)=64*j+64):=hdd aa;have bx:64*j+64≤64*m:=aa;have KV:64*m≤6400000000:=aa;clear pq UG FQ Sc;generalize(L.drop (64*j)).take 64=ax at*;obtain⟨at_,K_⟩: ∃t,64*j=t:=⟨_,rfl⟩
   rw[K_]at qX bx HJ ⊢;have Ho:=hdd K_;clear K_;obtain⟨N,hN⟩: ∃t,64*m=t:=⟨_,rfl⟩
   rw[hN]at bx KV M' ⊢;have C8:=hdd hN;clear hN;have hti:(at_:Int)<(N:Int):=aa;have alG:(0:Int)≤(at_:Int):=aa;have alF:(at_:Int)+64≤(N:Int):=aa;have auh:(N:Int)≤6400000000:=aa;have aui:(N:Int)≤(cL:Int):=aa;go_wp2_with fail;refine qX.out.mono ?_;rintro e w3 ⟨v3,rfl,hv3,aW⟩;have kt:=aO hb aW;obtain⟨gw,cw,rfl,auj,alM,hcw,B_,hwc⟩:=hv3.bK (by rw[List.length_map,ik];omega);have e64:((aS ax 64).map ay).length=64:=(by rw[List.length_map,ik]);have C7:Hid (∀i,i<64→w3.cell? ⟨gw,i,none⟩=some (ay (wd ax i))):=hdd (fun i hi=>by rw[hwc i (by rw[e64];exact hi),Fi];rfl);rw[e64]at hcw ⊢;have UX:Hid (∀i,i<64→w3.cell? ⟨gq,i,none⟩=some (ay (Kc i))):=hdd (fun i hi=>(kt.cell (p:=⟨gq,i,none⟩) afi).trans (HQC.out i hi));have Ai:Hid (∀i (h:i<(comp cV L j).agg.toList.length),w3.cell? ⟨gl,i,none⟩=some (comp cV L j).agg.toList[i]):=hdd (fun i h=>(aW.cell (p:=⟨gl,i,none⟩) yY).trans (J_.out i h));have pC:gl<w3.heap.size:=Nat.lt_of_lt_of_le yY aW.size;have alN:gq<w3.heap.size:=Nat.lt_of_lt_of_le afi kt.size;have Mq:w.heap.size≤w3.heap.size:=Nat.le_trans xZ.size kt.size;clear hwc e64 aW J_ hv hv3 yY qX;generalize comp cV L j=r at*;obtain⟨x0,x1,x2,x3,x4,x5,x6,x7⟩:=r;have y0:w3.cell? ⟨gl,0,none⟩=some (ay x0):=Ai.out 0 (by show 0<8;omega);have y1:w3.cell? ⟨gl,1,none⟩=some (ay x1):=Ai.out 1 (by show 1<8;omega);have y2:w3.cell? ⟨gl,2,none⟩=some (ay x2):=Ai.out 2 (by show 2<8;omega);have y3:w3.cell? ⟨gl,3,none⟩=some (ay x3):=Ai.out 3 (by show 3<8;omega);have y4:w3.cell? ⟨gl,4,none⟩=some (ay x4):=Ai.out 4 (by show 4<8;omega);have y5:w3.cell? ⟨gl,5,none⟩=some (ay x5):=Ai.out 5 (by show 5<8;omega);have y6:w3.cell? ⟨gl,6,none⟩=some (ay x6):=Ai.out 6 (by show 6<8;omega);have y7:w3.cell? ⟨gl,7,none⟩=some (ay x7):=Ai.out 7 (by show 7<8;omega);go_wp2_with fail;clear y0 y1 y2 y3 y4 y5 y6 y7;go_loopw [8,9,10,11,12,13,14,15,16] (fun s8 s9 N0 s11 GP s13 s14 s15 i wr=> ∃(k:Nat) (a b c d e f g h:BitVec 32),k≤64∧rounds ax k ⟨x0,x1,x2,x3,x4,x5,x6,x7⟩=⟨a,b,c,d,e,f,g,h⟩∧s8=ay a∧s9=ay b∧N0=ay c∧s11=ay d∧GP=ay e∧s13=ay f∧s14=ay g∧s15=ay h∧i= .int .i64 k∧Below w3.heap.size w3 wr) (fun _ _ _ _ _ _ _ _ i _=>64-(intOf i).toNat);case atStart=>exact⟨0,x0,x1,x2,x3,x4,x5,x6,x7,aa,rfl,rfl,rfl,rfl,rfl,rfl,rfl,rfl,rfl,rfl,Below.refl _ _⟩
   case round=>
    obtain⟨k,a,b,c,d,e,f,g,h,hk,hr,rfl,rfl,rfl,rfl,rfl,rfl,rfl,rfl,rfl,nw⟩:=hrel;by_cases afk:k<64
    ·have hn:=HRN.out ax k ⟨x0,x1,x2,x3,x4,x5,x6,x7⟩;rw[hr]at hn;have hu:uOf ⟨a,b,c,d,e,f,g,h⟩=(jn 2 a ^^^ jn 13 a ^^^ jn 22 a)+((a &&& b) ^^^ (a &&& c) ^^^ (b &&& c)):=rfl;have ht:Xp ⟨a,b,c,d,e,f,g,h⟩ (Kc k) (wd ax k)=h+(jn 6 e ^^^ jn 11 e ^^^ jn 25 e)+((e &&& f) ^^^ (~~~e &&& g))+Kc k+wd ax k:=rfl;have kp:roundOf (Kc k) (wd ax k) ⟨a,b,c,d,e,f,g,h⟩=⟨Xp ⟨a,b,c,d,e,f,g,h⟩ (Kc k) (wd ax k)+uOf ⟨a,b,c,d,e,f,g,h⟩,a,b,c,d+Xp ⟨a,b,c,d,e,f,g,h⟩ (Kc k) (wd ax k),e,f,g⟩:=rfl;rw[kp,hu,ht]at hn;have kq:wr.drew.cell? ⟨gq,k,none⟩=some (ay (Kc k)):=(nw.cell (p:=⟨gq,k,none⟩) alN).trans (UX.out k afk);have kw:wr.drew.cell? ⟨gw,k,none⟩=some (ay (wd ax k)):=(nw.cell (p:=⟨gw,k,none⟩) alM).trans (C7.out k afk);generalize wd ax k=wv at*;generalize Kc k=kk at*;have HR6:=hdd (fun w=>i9 6 aa e w);have Zi:=hdd (fun w=>i9 11 aa e w);have Zj:=hdd (fun w=>i9 25 aa e w);have pK:=hdd (fun w=>i9 2 aa a w);have Zk:=hdd (fun w=>i9 13 aa a w);have Zl:=hdd (fun w=>i9 22 aa a w);clear hu ht kp hr;generalize jn 6 e=r6 at*;generalize jn 11 e=r11 at*;generalize jn 25 e=r25 at*;generalize jn 2 a=r2 at*;generalize jn 13 a=r13 at*;generalize jn 22 a=r22 at*;have YB:=hdd (mu r6 r11);generalize r6 ^^^ r11=z1 at*;have HX2:=hdd (mu z1 r25);generalize z1 ^^^ r25=z2 at*;have HV1:=hdd (fQ h z2);generalize h+z2=t1 at*;have Zm:=hdd (yV e f);generalize e &&& f=a1 at*;have N4:=hdd (V8 e);generalize ~~~e=n1 at*;have HA2:=hdd (yV n1 g);generalize n1 &&& g=a2 at*;have yX:=hdd (mu a1 a2);generalize a1 ^^^ a2=c1 at*;have HV2:=hdd (fQ t1 c1);generalize t1+c1=t2 at*;have HV3:=hdd (fQ t2 kk);generalize t2+kk=t3 at*;have HV4:=hdd (fQ t3 wv);generalize t3+wv=t at*;have Pv:=hdd (mu r2 r13);generalize r2 ^^^ r13=p1 at*;have N5:=hdd (mu p1 r22);generalize p1 ^^^ r22=p2 at*;have jd:=hdd (yV a b);generalize a &&& b=m1 at*;have ry:=hdd (yV a c);generalize a &&& c=m2 at*;have CZ:=hdd (mu m1 m2);generalize m1 ^^^ m2=m3 at*;have yM:=hdd (yV b c);generalize b &&& c=m4 at*;have OZ:=hdd (mu m3 m4);generalize m3 ^^^ m4=m5 at*;have HU:=hdd (il p2 m5);generalize p2+m5=u at*;have HDT:=hdd (il d t);generalize d+t=dt at*;have HTU:=hdd (il t u);generalize t+u=tu at*;have NR:=hdd hn;have BI:(k:Int)<64:=aa;have XE:(0:Int)≤(k:Int):=aa;clear hn;go_wp2_with fail;refine wp_region_held_drew (S:=fun w'=>w'.cell? ⟨gq,k,none⟩=some (ay kk)∧w'.cell? ⟨gw,k,none⟩=some (ay wv)) ak ⟨kq,kw⟩ (fun hS=> ?_);refine af 0 hS (h:=af 1 hS (h:=af 3 hS (h:=af 6 hS (h:=af 10 hS (h:=af 11 hS (h:=af 12 hS (h:= ?_)))))));rw[Zm.out];refine af 13 hS (h:=af 14 hS (h:= ?_));rw[N4.out];refine af 15 hS (h:=af 16 hS (h:= ?_));rw[HA2.out];refine af 17 hS (h:= ?_);rw[yX.out]
     refine af 19 hS (h:=af 20 hS (h:=bT 21 rfl (fun w hSw=>by have q0:(0:Int)≤(k:Int):=aa;have q1:(k:Int)<64:=aa;go_simp;all_goals(with_reducible rfl)) hS (h:=aZ 22 hS (h:=af 24 hS (h:=af 25 hS (h:=bT 26 rfl (fun w hSw=>by have q0:(0:Int)≤(k:Int):=aa;have q1:(k:Int)<64:=aa;go_simp;all_goals(with_reducible rfl)) hS (h:=aZ 27 hS (h:= ?_))))))));refine aG 2 (fun K hK=> ?_);go_simp;refine(HR6.out _).mono ?_;rintro e w' ⟨rfl,rfl⟩;go_wp2_with fail;refine hK.out _ _ hS (fun _=> ?_);clear hK K;refine aG 4 (fun K hK=> ?_);go_simp;refine(Zi.out _).mono ?_;rintro e w' ⟨rfl,rfl⟩;go_wp2_with fail;refine hK.out _ _ hS (fun _=> ?_);clear hK K;refine af 5 hS (h:= ?_);rw[YB.out];refine aG 7 (fun K hK=> ?_);go_simp;refine(Zj.out _).mono ?_;rintro e w' ⟨rfl,rfl⟩;go_wp2_with fail;refine hK.out _ _ hS (fun _=> ?_);clear hK K;refine af 8 hS (h:= ?_);rw[HX2.out];refine af 9 hS (h:= ?_);rw[HV1.out];refine af 18 hS (h:= ?_);rw[HV2.out];refine af 23 hS (h:= ?_);rw[HV3.out];refine af 28 hS (h:= ?_);rw[HV4.out];refine af 29 hS (h:= ?_);refine wpAnyH_done ak ?_ _;clear kq kw;have q1:=Pv.out;have q2:=N5.out;have q3:=jd.out;have q4:=ry.out;have q5:=CZ.out;have q6:=yM.out;have q7:=OZ.out;have q8:=HU.out;have q9:=HDT.out;have q10:=HTU.out;go_wp2_with fail;refine(pK.out _).mono ?_;rintro e w' ⟨rfl,rfl⟩;go_wp2_with fail;refine(Zk.out _).mono ?_;rintro e w' ⟨rfl,rfl⟩;go_wp2_with fail;refine(Zl.out _).mono ?_;rintro e w' ⟨rfl,rfl⟩;go_wp2_with fail;go_roundw;case rel=>exact⟨k+1,tu,a,b,c,dt,e,f,g,aa,NR.out,(by first | rfl | exact congrArg (Value.int .u32) HTU.out),rfl,rfl,rfl,(by first | rfl | exact congrArg (Value.int .u32) HDT.out),rfl,rfl,rfl,aq,nw.drew⟩
     case measure=>simp[intOf];omega
    ·obtain rfl:k=64:=(by omega);have hm:np ⟨x0,x1,x2,x3,x4,x5,x6,x7⟩ ax=⟨x0+a,x1+b,x2+c,x3+d,x4+e,x5+f,x6+g,x7+h⟩:=(by show R8.add _ (rounds ax 64 _)=_;rw[hr];rfl);have HM:=hdd hm;clear hm hr;have y0:wr.drew.cell? ⟨gl,0,none⟩=some (ay x0):=(nw.cell (p:=⟨gl,0,none⟩) pC).trans (Ai.out 0 (by show 0<8;omega));have y1:wr.drew.cell? ⟨gl,1,none⟩=some (ay x1):=(nw.cell (p:=⟨gl,1,none⟩) pC).trans (Ai.out 1 (by show 1<8;omega));have y2:wr.drew.cell? ⟨gl,2,none⟩=some (ay x2):=(nw.cell (p:=⟨gl,2,none⟩) pC).trans (Ai.out 2 (by show 2<8;omega));have y3:wr.drew.cell? ⟨gl,3,none⟩=some (ay x3):=(nw.cell (p:=⟨gl,3,none⟩) pC).trans (Ai.out 3 (by show 3<8;omega));have y4:wr.drew.cell? ⟨gl,4,none⟩=some (ay x4):=(nw.cell (p:=⟨gl,4,none⟩) pC).trans (Ai.out 4 (by show 4<8;omega));have y5:wr.drew.cell? ⟨gl,5,none⟩=some (ay x5):=(nw.cell (p:=⟨gl,5,none⟩) pC).trans (Ai.out 5 (by show 5<8;omega));have y6:wr.drew.cell? ⟨gl,6,none⟩=some (ay x6):=(nw.cell (p:=⟨gl,6,none⟩) pC).trans (Ai.out 6 (by show 6<8;omega));have y7:wr.drew.cell? ⟨gl,7,none⟩=some (ay x7):=(nw.cell (p:=⟨gl,7,none⟩) pC).trans (Ai.out 7 (by show 7<8;omega));have HS0:=hdd (fQ x0 a);generalize Db:x0+a=s0 at*;clear Db;have nu:=hdd (fQ x1 b);generalize kG:x1+b=s1 at*;clear kG;have fE:=hdd (fQ x2 c);generalize ro:x2+c=s2 at*;clear ro;have CM:=hdd (fQ x3 d);generalize PJ:x3+d=s3 at*;clear PJ;have HS4:=hdd (fQ x4 e);generalize wM:x4+e=s4 at*;clear wM;have HS5:=hdd (fQ x5 f);generalize hs5:x5+f=s5 at*;clear hs5;have HS6:=hdd (fQ x6 g);generalize hs6:x6+g=s6 at*;clear hs6;have Ku:=hdd (fQ x7 h);generalize hs7:x7+h=s7 at*;clear hs7;have vo:=bF wr.drew (.cells #[ay s0,ay s1,ay s2,ay s3,ay s4,ay s5,ay s6,ay s7] 24)
     have NZ:Hid ((wr.drew.alloc (.cells #[ay s0,ay s1,ay s2,ay s3,ay s4,ay s5,ay s6,ay s7] 24)).cell? ⟨gl,0,none⟩=some (ay x0)∧(wr.drew.alloc (.cells #[ay s0,ay s1,ay s2,ay s3,ay s4,ay s5,ay s6,ay s7] 24)).cell? ⟨gl,1,none⟩=some (ay x1)∧(wr.drew.alloc (.cells #[ay s0,ay s1,ay s2,ay s3,ay s4,ay s5,ay s6,ay s7] 24)).cell? ⟨gl,2,none⟩=some (ay x2)∧(wr.drew.alloc (.cells #[ay s0,ay s1,ay s2,ay s3,ay s4,ay s5,ay s6,ay s7] 24)).cell? ⟨gl,3,none⟩=some (ay x3)∧(wr.drew.alloc (.cells #[ay s0,ay s1,ay s2,ay s3,ay s4,ay s5,ay s6,ay s7] 24)).cell? ⟨gl,4,none⟩=some (ay x4)∧(wr.drew.alloc (.cells #[ay s0,ay s1,ay s2,ay s3,ay s4,ay s5,ay s6,ay s7] 24)).cell? ⟨gl,5,none⟩=some (ay x5)∧(wr.drew.alloc (.cells #[ay s0,ay s1,ay s2,ay s3,ay s4,ay s5,ay s6,ay s7] 24)).cell? ⟨gl,6,none⟩=some (ay x6)∧(wr.drew.alloc (.cells #[ay s0,ay s1,ay s2,ay s3,ay s4,ay s5,ay s6,ay s7] 24)).cell? ⟨gl,7,none⟩=some (ay x7)):=
      hdd ⟨(vo.cell (p:=⟨gl,0,none⟩) (Nat.lt_of_lt_of_le pC nw.size)).trans y0,(vo.cell (p:=⟨gl,1,none⟩) (Nat.lt_of_lt_of_le pC nw.size)).trans y1,(vo.cell (p:=⟨gl,2,none⟩) (Nat.lt_of_lt_of_le pC nw.size)).trans y2,(vo.cell (p:=⟨gl,3,none⟩) (Nat.lt_of_lt_of_le pC nw.size)).trans y3,(vo.cell (p:=⟨gl,4,none⟩) (Nat.lt_of_lt_of_le pC nw.size)).trans y4,(vo.cell (p:=⟨gl,5,none⟩) (Nat.lt_of_lt_of_le pC nw.size)).trans y5,(vo.cell (p:=⟨gl,6,none⟩) (Nat.lt_of_lt_of_le pC nw.size)).trans y6,(vo.cell (p:=⟨gl,7,none⟩) (Nat.lt_of_lt_of_le pC nw.size)).trans y7⟩
     have aD:aP 24 w.heap.size (wr.drew.alloc (.cells #[ay s0,ay s1,ay s2,ay s3,ay s4,ay s5,ay s6,ay s7] 24)) (.slice (some ⟨wr.heap.size,0,none⟩) 8 8) [ay s0,ay s1,ay s2,ay s3,ay s4,ay s5,ay s6,ay s7]:=
      aP.lit 24 wr.drew [ay s0,ay s1,ay s2,ay s3,ay s4,ay s5,ay s6,ay s7] (Nat.le_trans Mq nw.size) ae
     have JS:Below w2.heap.size w2 (wr.drew.alloc (.cells #[ay s0,ay s1,ay s2,ay s3,ay s4,ay s5,ay s6,ay s7] 24)):=(aO kt nw).drew.alloc (Nat.le_trans kt.size nw.size) _;clear vo;go_wp2_with fail;refine wp_region_held_drew (S:=fun w'=>w'.cell? ⟨gl,0,none⟩=some (ay x0)∧w'.cell? ⟨gl,1,none⟩=some (ay x1)∧w'.cell? ⟨gl,2,none⟩=some (ay x2)∧w'.cell? ⟨gl,3,none⟩=some (ay x3)∧w'.cell? ⟨gl,4,none⟩=some (ay x4)∧w'.cell? ⟨gl,5,none⟩=some (ay x5)∧w'.cell? ⟨gl,6,none⟩=some (ay x6)∧w'.cell? ⟨gl,7,none⟩=some (ay x7)) ak ⟨y0,y1,y2,y3,y4,y5,y6,y7⟩ (fun hS=> ?_);refine af 0 hS (h:=af 1 hS (h:=aZ 2 hS (h:=af 3 hS (h:=af 4 hS (h:= ?_)))));rw[HS0.out];refine af 5 hS (h:=af 6 hS (h:=aZ 7 hS (h:=af 8 hS (h:=af 9 hS (h:= ?_)))));rw[nu.out];refine af 10 hS (h:=af 11 hS (h:=aZ 12 hS (h:=af 13 hS (h:=af 14 hS (h:= ?_)))));rw[fE.out];refine af 15 hS (h:=af 16 hS (h:=aZ 17 hS (h:=af 18 hS (h:=af 19 hS (h:= ?_)))));rw[CM.out];refine af 20 hS (h:=af 21 hS (h:=aZ 22 hS (h:=af 23 hS (h:=af 24 hS (h:= ?_)))));rw[HS4.out];refine af 25 hS (h:=af 26 hS (h:=aZ 27 hS (h:=af 28 hS (h:=af 29 hS (h:= ?_)))));rw[HS5.out];refine af 30 hS (h:=af 31 hS (h:=aZ 32 hS (h:=af 33 hS (h:=af 34 hS (h:= ?_)))));rw[HS6.out];refine af 35 hS (h:=af 36 hS (h:=aZ 37 hS (h:=af 38 hS (h:=af 39 hS (h:= ?_)))));rw[Ku.out];refine aG 40 (fun K hK=> ?_);go_simp;refine hK.out _ _ NZ.out (fun _=> ?_);clear hK K;refine af 41 NZ.out (h:= ?_);refine wpAnyH_done ak ?_ _;clear y0 y1 y2 y3 y4 y5 y6 y7 hS;go_wp2_with fail;go_roundw;case rel=>exact⟨j+1,aa,by rw[HJ.out];go_num,by rw[J9.out,HM.out];exact aD,JS⟩
     case measure=>have:=C8.out;simp[intOf];omega
  ·obtain rfl:j=m:=(by omega);have HRC:Hid (∀i,i<8→wr.cell? ⟨gl,i,none⟩=some (ay ((comp cV L j).get i))):=hdd (fun i hi=>by
    have h8:i<(comp cV L j).agg.toList.length:=hi;rw[J_.out i h8,←List.getElem?_eq_getElem h8,Array.getElem?_toList];exact R8.wJ _ i hi)
   obtain⟨N,hN⟩: ∃t,64*j=t:=⟨_,rfl⟩
   rw[hN]at M' ⊢;clear hN J_ hv;generalize hR:comp cV L j=R at*;clear hR;generalize wr=w5 at*;go_wp2_with fail;go_loopw [19,20] (fun v i wr=> ∃k:Nat,k≤8∧i= .int .i64 k∧Own w5.heap.size wr v (ft R k)∧Below w5.heap.size w5 wr) (fun _ i _=>8-(intOf i).toNat);case atStart=>exact⟨0,aa,rfl,Own.nil _ _,Below.refl _ _⟩
   case round=>
    obtain⟨k,hk,rfl,aD,nw⟩:=hrel;by_cases alQ:k<8
    ·have kx:wr.drew.cell? ⟨gl,k,none⟩=some (ay (R.get k)):=(nw.cell (p:=⟨gl,k,none⟩) yY).trans (HRC.out k alQ);have U6:Hid (ft R (k+1)=ft R k++zN (R.get k)):=hdd rfl;have Lv:Hid ((ft R k).length≤32):=hdd (by rw[im];omega);generalize R.get k=x at*;have IJ:Hid (IntKind.u8.wrap ((x.toNat:Int)/16777216)=((UInt8.ofNat (x.toNat/16777216%256)).toNat:Int)):=hdd (tH x 16777216);have cu:Hid (IntKind.u8.wrap ((x.toNat:Int)/65536)=((UInt8.ofNat (x.toNat/65536%256)).toNat:Int)):=hdd (tH x 65536);have dY:Hid (IntKind.u8.wrap ((x.toNat:Int)/256)=((UInt8.ofNat (x.toNat/256%256)).toNat:Int)):=hdd (tH x 256);have fc:=hdd (II x);have hbe:zN x=[UInt8.ofNat (x.toNat/16777216%256),UInt8.ofNat (x.toNat/65536%256),UInt8.ofNat (x.toNat/256%256),UInt8.ofNat (x.toNat%256)]:=rfl;rw[hbe]at U6;have KS:Hid ((0:Int)≤(x.toNat:Int)):=hdd aa;have YB:Hid ((x.toNat:Int)<4294967296):=hdd (ar x.isLt);have HQ0:Hid (IntKind.u32.wrap ((x.toNat:Int)/16777216)=(x.toNat:Int)/16777216):=hdd Bh;have Oe:Hid (IntKind.u32.wrap ((x.toNat:Int)/65536)=(x.toNat:Int)/65536):=hdd Bh;have G8:Hid (IntKind.u32.wrap ((x.toNat:Int)/256)=(x.toNat:Int)/256):=hdd Bh;clear hbe;generalize UInt8.ofNat (x.toNat/16777216%256)=b0 at*;generalize UInt8.ofNat (x.toNat/65536%256)=b1 at*;generalize UInt8.ofNat (x.toNat/256%256)=b2 at*;generalize UInt8.ofNat (x.toNat%256)=b3 at*;generalize ft R k=O at*;have vo:=bF wr.drew (.cells #[B8 b0,B8 b1,B8 b2,B8 b3] 5);have NZ:Hid ((wr.drew.alloc (.cells #[B8 b0,B8 b1,B8 b2,B8 b3] 5)).cell? ⟨gl,k,none⟩=some (ay x)):=hdd ((vo.cell (p:=⟨gl,k,none⟩) (Nat.lt_of_lt_of_le yY nw.size)).trans kx);have bM:Own w5.heap.size (wr.drew.alloc (.cells #[B8 b0,B8 b1,B8 b2,B8 b3] 5)) u19 O:=aD.drew.alloc _;have HOW:=hdd bM;have iG:Hid (Bytes (wr.drew.alloc (.cells #[B8 b0,B8 b1,B8 b2,B8 b3] 5)) (some ⟨wr.heap.size,0,none⟩) [b0,b1,b2,b3]):=hdd (.inr ⟨_,_,rfl,ae,fun q hq=>by
      show World.cell? _ ⟨wr.drew.heap.size,0+q,none⟩=_;rw[cell_of_row _ _ _ _ _ _ (heap_alloc_last wr.drew _)];match q,hq with | 0,_ | 1,_ | 2,_ | 3,_=>rfl⟩)
     have RC:Hid (O.length+[b0,b1,b2,b3].length≤140737488355328):=hdd (by have:=Lv.out;simp;omega);have bc:Below w5.heap.size w5 (wr.drew.alloc (.cells #[B8 b0,B8 b1,B8 b2,B8 b3] 5)):=nw.drew.alloc nw.size _;have ju:Hid (w5.heap.size≤(wr.drew.alloc (.cells #[B8 b0,B8 b1,B8 b2,B8 b3] 5)).heap.size):=hdd bc.size;have iz:=hdd bc;have HKP:Hid (∀w3,(wr.drew.alloc (.cells #[B8 b0,B8 b1,B8 b2,B8 b3] 5)).grownBy w3 u19.ownBlock→w3.cell? ⟨gl,k,none⟩=some (ay x)):=hdd (fun w3 hg=>
      ((am bc hg bc.size (fun g e=>(World.ownsRow.lt bM g e).1)).cell (p:=⟨gl,k,none⟩) yY).trans ((nw.cell (p:=⟨gl,k,none⟩) yY).symm.trans kx))
     have BI:(k:Int)<8:=aa;have XE:(0:Int)≤(k:Int):=aa;clear vo bc bM;go_wp2_with fail;refine wp_region_held_drew (S:=fun w'=>w'.cell? ⟨gl,k,none⟩=some (ay x)) ak kx (fun hS=> ?_);refine af 0 hS (h:=af 1 hS (h:=af 2 hS (h:=bT 3 rfl (fun w hSw=>by have q0:(0:Int)≤(k:Int):=aa;have q1:(k:Int)<8:=aa;go_simp;all_goals(with_reducible rfl)) hS (h:=aZ 4 hS (h:=bT 5 rfl (fun w hSw=>Bi) hS (h:= ?_))))));rw[HQ0.out];refine af 6 hS (h:= ?_);rw[IJ.out];refine af 7 hS (h:=af 8 hS (h:=bT 9 rfl (fun w hSw=>by have q0:(0:Int)≤(k:Int):=aa;have q1:(k:Int)<8:=aa;go_simp;all_goals(with_reducible rfl)) hS (h:=aZ 10 hS (h:=bT 11 rfl (fun w hSw=>Bi) hS (h:= ?_)))));rw[Oe.out];refine af 12 hS (h:= ?_);rw[cu.out];refine af 13 hS (h:=af 14 hS (h:=bT 15 rfl (fun w hSw=>by have q0:(0:Int)≤(k:Int):=aa;have q1:(k:Int)<8:=aa;go_simp;all_goals(with_reducible rfl)) hS (h:=aZ 16 hS (h:=bT 17 rfl (fun w hSw=>Bi) hS (h:= ?_)))));rw[G8.out];refine af 18 hS (h:= ?_);rw[dY.out];refine af 19 hS (h:=af 20 hS (h:=bT 21 rfl (fun w hSw=>by have q0:(0:Int)≤(k:Int):=aa;have q1:(k:Int)<8:=aa;go_simp;all_goals(with_reducible rfl)) hS (h:=aZ 22 hS (h:=af 23 hS (h:= ?_)))));rw[fc.out];refine aG 24 (fun K hK=> ?_);go_simp;refine hK.out _ _ NZ.out (fun _=> ?_);clear hK K;refine aG 25 (fun K hK=> ?_);refine kT rfl (.tmp 173) (.tmp 197) rfl w5.heap.size (wr.drew.alloc (.cells #[B8 b0,B8 b1,B8 b2,B8 b3] 5)) u19 O rfl HOW.out _ [b0,b1,b2,b3] 4 rfl iG.out RC.out ju.out ?_;intro v2 w3 bj l5;refine dR ?_;refine hK.out _ _ (HKP.out w3 l5) (fun _=> ?_);clear hK K;refine af 26 (HKP.out w3 l5) (h:= ?_);refine wpAnyH_done ak ?_ _;go_wp2_with fail;have fj:=am iz.out l5 ju.out (fun g e=>(World.ownsRow.lt HOW.out g e).1);go_roundw;case rel=>exact⟨k+1,aa,aq,by rw[U6.out];exact bj,fj⟩
     case measure=>simp[intOf];omega
    ·obtain rfl:k=8:=(by omega);rw[←HDG.out]at aD;obtain⟨Aw,cw,rfl,hcw,B_,hBw⟩:=aD.read;go_wp2_with fail;go_ret;exact⟨Aw,cw,rfl,hcw,B_,hBw,xZ.trans ((aO hb nw).mono xZ.size)⟩
namespace bu
def s1(p x:BitVec n):BitVec n:=(x >>> 1) ^^^ (if x.getLsbD 0 then p else 0#n)
def sn(p:BitVec n):Nat→BitVec n→BitVec n
 | 0,x=>x
 | k+1,x=>sn p k (s1 p x)
theorem ya(p:BitVec n)(j k:Nat)(x:BitVec n):sn p (j+k) x=sn p k (sn p j x):=by
 induction j generalizing x with
 | zero=>simp[sn]
 | succ j ih=>rw[Nat.succ_add];simp only[sn];exact ih _
theorem sx(p:BitVec n)(k:Nat)(x:BitVec n):sn p (k+1) x=s1 p (sn p k x):=by rw[ya];rfl
theorem L_(p x y:BitVec n):s1 p (x ^^^ y)=s1 p x ^^^ s1 p y:=by unfold s1;apply BitVec.eq_of_getLsbD_eq;intro i hi;cases hx:x.getLsbD 0<;>cases hy:y.getLsbD 0<;>simp[hx,hy]<;>(first | done | (cases x.getLsbD (1+i)<;>cases y.getLsbD (1+i)<;>cases p.getLsbD i<;>rfl))
theorem IK(p:BitVec n)(k:Nat)(x y:BitVec n):sn p k (x ^^^ y)=sn p k x ^^^ sn p k y:=by
 induction k generalizing x y with
 | zero=>rfl
 | succ k ih=>simp only[sn];rw[L_,ih]
theorem V9(p:BitVec n)(k:Nat):sn p k 0#n=0#n:=by
 induction k with
 | zero=>rfl
 | succ k ih=>
  have h:s1 p 0#n=0#n:=by unfold s1;simp
  simp only[sn];rw[h];exact ih
theorem Kv(p:BitVec n)(k:Nat)(x:BitVec n)(h: ∀i,i<k→x.getLsbD i=false):sn p k x=x >>> k:=by
 induction k generalizing x with
 | zero=>simp[sn]
 | succ k ih=>
  have h0:=h 0 aa;have h1:s1 p x=x >>> 1:=by unfold s1;simp[h0]
  simp only[sn];rw[h1,ih (x >>> 1) (by intro i hi;simp only[BitVec.getLsbD_ushiftRight];exact h _ aa)];rw[Nat.add_comm k 1,BitVec.shiftRight_add]
def low(x:BitVec n):BitVec n:=(x.setWidth 8).setWidth n
theorem Kw(x:BitVec n)(i:Nat):(low x).getLsbD i=(decide (i<8)&&x.getLsbD i):=by
 unfold low;rw[BitVec.getLsbD_setWidth,BitVec.getLsbD_setWidth];by_cases h:i<n;·simp[h]
 ·simp[h,BitVec.getLsbD_of_ge _ _ (Nat.le_of_not_lt h)]
theorem vx(p x:BitVec n):sn p 8 x=(x >>> 8) ^^^ sn p 8 (low x):=by
 have e:x=(x ^^^ low x) ^^^ low x:=by rw[BitVec.xor_assoc,BitVec.xor_self,BitVec.xor_zero]
 have h:sn p 8 (x ^^^ low x)=(x ^^^ low x) >>> 8:=Kv p 8 _ (by
  intro i hi;rw[BitVec.getLsbD_xor,Kw];simp[hi])
 have h2:(x ^^^ low x) >>> 8=x >>> 8:=by apply BitVec.eq_of_getLsbD_eq;intro i hi;simp only[BitVec.getLsbD_ushiftRight,BitVec.getLsbD_xor,Kw];simp[show ¬8+i<8 by omega]
 conv=>lhs;rw[e]
 rw[IK,h,h2]
def ext(n:Nat)(b:UInt8):BitVec n:=b.toBitVec.setWidth n
def Kx(p:BitVec n)(x:BitVec n)(b:UInt8):BitVec n:=sn p 8 (x ^^^ ext n b)
def dN(p:BitVec n)(x:BitVec n)(l:List UInt8):BitVec n:=l.foldl (Kx p) x
theorem uu(p x:BitVec n)(a b:List UInt8):dN p x (a++b)=dN p (dN p x a) b:=by unfold dN;rw[List.foldl_append]
theorem Ct(n:Nat)(b:UInt8)(i:Nat)(hi:8≤i):(ext n b).getLsbD i=false:=by unfold ext;rw[BitVec.getLsbD_setWidth,BitVec.getLsbD_of_ge _ _ hi];simp
end bu
namespace C3
def iC:BitVec 32:=3988292384#32
theorem zn(a b:BitVec 32):bits .xor .u32 (a.toNat:Int) (b.toNat:Int)=((a ^^^ b).toNat:Int):=by rw[u32_xor_nat _ _ a.isLt b.isLt,BitVec.toNat_xor]
theorem Sd(a:BitVec 32):bits .and .u32 (a.toNat:Int) 1=((a.toNat%2:Nat):Int):=by rw[show(1:Int)=((1:Nat):Int)from rfl,u32_and_nat _ _ a.isLt aa,nat_mask1]
theorem IL(a:BitVec 32):a.getLsbD 0=decide (a.toNat%2=1):=by rw[BitVec.getLsbD,Nat.testBit_zero]
theorem IM(a:BitVec 32):(a.toNat:Int)/(2:Int)=((a >>> 1).toNat:Int):=by rw[BitVec.toNat_ushiftRight,Nat.shiftRight_eq_div_pow];simp
theorem IN(x:BitVec 32)(h:(bits .and .u32 (x.toNat:Int) 1==1)=true):bits .xor .u32 ((x.toNat:Int)/2) 3988292384=((bu.s1 iC x).toNat:Int):=by
 have h1:x.getLsbD 0=true:=by rw[Sd]at h;rw[IL];simp at h ⊢;omega
 rw[IM,show(3988292384:Int)=((iC.toNat:Nat):Int)from rfl,zn];unfold bu.s1;rw[h1];simp
theorem Se(x:BitVec 32)(h:(bits .and .u32 (x.toNat:Int) 1==1)=false):(x.toNat:Int)/2=((bu.s1 iC x).toNat:Int):=by
 have h1:x.getLsbD 0=false:=by rw[Sd]at h;rw[IL];simp at h ⊢;omega
 rw[IM];unfold bu.s1;rw[h1];simp
theorem zo(r:BitVec 32)(w:World):
  Calls prog 207 #[.int .u32 r.toNat] w fun e w'=>e= .returned (.int .u32 (bu.sn iC 8 r).toNat)∧w=w':=by
 go_enter func207,ntmps207;go_wp2;go_loop [0,4] (fun a i=> ∃(k:Nat),k≤8∧i= .int .i64 k∧a= .int .u32 (bu.sn iC k r).toNat) (fun _ i=>8-(intOf i).toNat);case atStart=>exact⟨0,aa,rfl,rfl⟩
 case round=>
  obtain⟨k,hk,rfl,rfl⟩:=hrel;by_cases h:k<8
  ·have hs:=hdd (bu.sx iC k r);generalize bu.sn iC k r=x at*;go_wp2
   ·go_round;case rel=>exact⟨k+1,aa,aq,by rw[hs.out,←IN x (by assumption)]⟩
    case measure=>simp[intOf];omega
   ·go_round;case rel=>exact⟨k+1,aa,aq,by rw[hs.out,←Se x (by assumption)]⟩
    case measure=>simp[intOf];omega
  ·obtain rfl:k=8:=(by omega);go_wp2;go_ret;exact⟨rfl,rfl⟩
end C3
end Go.Proofs.YtgfpocdiojifoaaGreatDoor
