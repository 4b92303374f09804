import Derived.Test.YtfcaoggfnkhfiaaGreatDoorZ25
import Derived.Deep.RegionHeld3
namespace Go.Proofs.YtfcaoggfnkhfiaaGreatDoor
set_option maxRecDepth 100000
set_option maxHeartbeats 8000000
open Go.RowKit Go.Proofs.Tryz
variable{l:List (Int×Int)}{base k n:Nat}{A:Option Addr}{t:TypeId}{v:Value}{w:World}
theorem EE(n:Nat)(more:List UInt8)(h:n<9223372036854775808):Vl.get (Vl.put 9 n++more)=(n,(Vl.put 9 n).length,0):=by
 have h9:n<128^9:=by rw[show(128:Nat)^9=9223372036854775808 by decide];exact h
 have e:Vl.put 9 n=Vl.put 8 n:=by
  have key: ∀(f m:Nat),m<128^(f+1)→Vl.put (f+1) m=Vl.put f m:=by
   intro f;induction f with
   | zero=>intro m hm;rw[Vl.du rf,Vl.du rf]
   | succ f ih=>
    intro m hm;by_cases hs:m<128;·rw[Vl.du hs,Vl.du hs]
    ·rw[Vl.lM hs,Vl.lM hs,ih (m/128) (by rw[Nat.div_lt_iff_lt_mul aa];rw[Nat.pow_succ]at hm;exact hm)]
  exact key 8 n h9
 have:=Vl.KM (Vl.put 9 n++more) more 8 n 0 9 (by rw[e];rfl) h9 aa aa;unfold Vl.get;rw[this,e];simp[Vl.num]
theorem G9{x:Int}(z:Bool)(more:List UInt8)(Ap:x= -1∨0≤x)(Z9:x≤9223372036854775807)(hz:z=true→x≠0):rY (decide (x≠ -1)) z (jo x++more)=some (x,more):=by
 unfold rY jo;by_cases h:x= -1;·subst h;simp
 ·have h0:0≤x:=by omega
  rw[if_pos dD,if_neg h];have hn:fq (Vl.put 9 x.toNat++more)=some (x.toNat,more):=by unfold fq;rw[EE x.toNat more aa];rw[if_pos rfl,List.drop_left]
  rw[hn];have hx:((x.toNat:Nat):Int)=x:=aa;have:(z&&x.toNat==0)=false:=by
   cases z with
   | false=>rfl
   | true=>have:=hz rfl;simp;omega
  simp only[this,Bool.false_eq_true,if_false,hx]
theorem Y8(f:bS)(h:qY f)(more:List UInt8):iA (uU f++more)=(f,more,0):=by
 obtain⟨bL,h0,li,hb,hl⟩:=h;have n1:fq (uU f++more)=some (f.id.toNat,Vl.put 9 (dQ f).length++(dQ f++more)):=by unfold fq uU;rw[List.append_assoc,List.append_assoc,EE _ _ aa,if_pos rfl,List.drop_left]
 have n2:fq (Vl.put 9 (dQ f).length++(dQ f++more))=some ((dQ f).length,dQ f++more):=by unfold fq;rw[EE _ _ aa,if_pos rfl,List.drop_left]
 have hid:((f.id.toNat:Nat):Int)=f.id:=aa;unfold iA;simp only[n1,n2];rw[if_neg ag,if_neg aa,List.take_left,hid,Kk f bL _ hb];simp only[List.drop_left]
theorem Ha(many:Nat): ∀(fs:List bS) (i:Nat) (acc:List bS) (more:List UInt8),(∀f∈fs,qY f)→(∀j (h:j<fs.length),(fs[j].id==33)=(i+j==many))→bU many fs.length i (ea fs++more) acc=(acc++fs,more,0)
 | [],i,acc,more,_,_=>by simp[bU,ea]
 | f::fs,i,acc,more,hg,hj=>by
  have e0:ea (f::fs)++more=uU f++(ea fs++more):=by simp[ea]
  have h1:=Y8 f (hg f ag) (ea fs++more);have h0:=hj 0 ag;simp only[List.getElem_cons_zero,Nat.add_zero]at h0;rw[List.length_cons,nI,e0,h1];rw[if_neg ag,if_neg (by rw[h0];simp)];rw[Ha many fs (i+1) (acc++[f]) more (fun g hm=>hg g (by simp[hm])) (fun j h=>by
   have:=hj (j+1) kJ;simp only[List.getElem_cons_succ]at this;rw[this];congr 1;omega)]
  simp
theorem Py(n:Nat):(List.replicate n (0:UInt8)).all (· ==0)=true:=by rw[List.all_eq_true];intro x hx;rw[List.eq_of_mem_replicate hx];rfl
theorem Pz(h:eO)(bL:h.ok)(hf: ∀f∈h.l,f.ok)(hv:ie h=true)(n:Nat):fh (eD h) (tz h++List.replicate n 0)=(h,0):=by
 obtain⟨hg,h3,hp,hq⟩:=pE h bL hf hv;obtain⟨o1,o2,o3,o4,o5⟩:=bL;have aoL: ∀f∈h.l,f.id≠33:=fun f hm e=>by have Qa:=hv;simp only[ie,jE,Bool.and_eq_true,List.all_eq_true]at Qa;have h5:=Qa.1.2.2 f hm;obtain⟨id,m⟩:=f;obtain rfl:id=33:=e;rw[TY]at h5;cases h5
 have s1:(eD h/64%2==1)=decide (h.p≠ -1):=by unfold eD;rw[Bool.eq_iff_iff];by_cases h1:h.p= -1<;>by_cases h2:h.q= -1<;>simp[h1,h2]<;>omega
 have s2:(eD h/128==1)=decide (h.q≠ -1):=by unfold eD;rw[Bool.eq_iff_iff];by_cases h1:h.p= -1<;>by_cases h2:h.q= -1<;>simp[h1,h2]<;>omega
 have s3:eD h%4=h.l.length:=by unfold eD;by_cases h1:h.p= -1<;>by_cases h2:h.q= -1<;>simp[h1,h2]<;>omega
 have hs:ig (eD h) (tz h++List.replicate n 0)=some (h.p,h.q,ea (h.l++[bT h.d])++List.replicate n 0):=by rw[ve,s1,s2];unfold tz;rw[List.append_assoc,List.append_assoc,G9 true _ aa o2 (fun _=>aa)];simp only;rw[G9 false _ aa o4 ag]
 have AB:=Ha h.l.length (h.l++[bT h.d]) 0 [] (List.replicate n 0) hg (fun j hj=>by
  rw[List.length_append,List.length_singleton]at hj;by_cases ub:j<h.l.length;·have dH:=aoL _ (List.getElem_mem ub);rw[List.getElem_append_left ub];have e1:((h.l[j]).id==33)=false:=(by simp[dH]);have e2:(0+j==h.l.length)=false:=av;rw[e1,e2]
  ·obtain rfl:j=h.l.length:=(by omega);rw[List.getElem_append_right (Nat.le_refl _)];simp[bT])
 rw[List.length_append,List.length_singleton,List.nil_append]at AB;rw[Px,hs,s3];simp only[AB];rw[if_neg ag,if_neg (by rw[Py];simp)];have e1:(h.l++[bT h.d]).take h.l.length=h.l:=by rw[List.take_left]
 have e2:((h.l++[bT h.d]).getD h.l.length ⟨0,0⟩).n=h.d:=by simp[List.getD,bT]
 rw[e1,e2]
theorem tJ(h:eO)(bL:h.ok)(hf: ∀f∈h.l,f.ok)(hv:ie h=true):5≤(bE h).length∧(bE h).length≤120:=by
 obtain⟨hg,h3,_,_⟩:=pE h bL hf hv;have a1:=fQ h.p;have a2:=fQ h.q;have a3:=nE _ hg;have a4:3≤(uU (bT h.d)).length:=by
  have hl:=hg (bT h.d) ag;have p1:0<(Vl.put 9 (bT h.d).id.toNat).length:=(Vl.cN 9 _).1;have p2:0<(Vl.put 9 (dQ (bT h.d)).length).length:=(Vl.cN 9 _).1;have p3:(dQ (bT h.d)).length=1:=by
   have hb:=hl.2.2.2.1;unfold k9 bT at hb;rw[if_pos rfl]at hb;split at hb;·injection hb with hb;have:(dQ ⟨33,h.d⟩).length=1:=(by rw[←hb];rfl);exact this
   ·cases hb
  simp only[uU,List.length_append];omega
 have a5:(ea (h.l++[bT h.d])).length=(ea h.l).length+(uU (bT h.d)).length:=by rw[zA,List.length_append]
 have a6:(bE h).length=(jo h.p).length+(jo h.q).length+(ea (h.l++[bT h.d])).length+2:=by simp only[bE,tz,List.length_cons,List.length_append]
 rw[List.length_append,List.length_singleton]at a3;omega
theorem jI(h:eO)(bL:h.ok)(hf: ∀f∈h.l,f.ok)(hv:ie h=true):(fD h).length=(di (bE h)).length+4∧(di (bE h)).length%4=0∧8≤(di (bE h)).length∧(di (bE h)).length≤124:=by
 have a:=tJ h bL hf hv;have e:(di (bE h)).length=(bE h).length+aO (bE h).length:=by simp[di]
 refine⟨by rw[fD,List.length_append,bX,gv,List.length_set],?_,?_,?_⟩;·rw[e];unfold aO;omega
 ·rw[e];unfold aO;omega
 ·rw[e];unfold aO;omega
theorem PC(h:eO)(behind:List UInt8)(bL:h.ok)(hf: ∀f∈h.l,f.ok)(hv:ie h=true):gO (fD h++behind)=(h,(fD h).length,0):=by
 obtain⟨hL,hm,h8,axv⟩:=jI h bL hf hv;have qP:=Pz h bL hf hv (aO (bE h).length);obtain⟨hg,h3,hp,hq⟩:=pE h bL hf hv;have gZ:(gv h).length=(di (bE h)).length:=by rw[gv,List.length_set]
 have e0:(fD h++behind).getD 0 0=UInt8.ofNat ((di (bE h)).length/4):=by have:0<(gv h).length:=aa;rw[fD,List.append_assoc];simp only[List.getD];rw[List.getElem?_append_left this];simp only[gv,List.getElem?_set_self (show 0<(di (bE h)).length by omega)];rfl
 have e1:(fD h++behind).getD 1 0=UInt8.ofNat (eD h):=by have:1<(gv h).length:=aa;rw[fD,List.append_assoc];simp only[List.getD];rw[List.getElem?_append_left this];simp only[gv,List.getElem?_set_ne (show 0≠1 by omega)];rfl
 have t0:((fD h++behind).getD 0 0).toNat=(di (bE h)).length/4:=by rw[e0,lN _ aa]
 have dl:bN (fD h++behind)=(di (bE h)).length+4:=by unfold bN;rw[t0];omega
 have sI:bN (fD h++behind)-4=(gv h).length:=aa;have Z1:(fD h++behind).take (bN (fD h++behind)-4)=gv h:=by rw[sI,fD,List.append_assoc,List.take_left]
 have hpt:part (fD h++behind) (bN (fD h++behind)-4) 4=eL (gv h):=by unfold part;have h4:(eL (gv h)).length=4:=bX _;rw[sI,fD,List.append_assoc,List.drop_left,List.take_append_of_le_length aa,List.take_of_length_le aa]
 have hse:dZ (fD h++behind)=(gv h,0):=by
  unfold dZ;rw[if_neg (by rw[List.length_append];omega),if_neg (by
   intro e;rw[e]at t0;have:(0:UInt8).toNat=0:=rfl;omega),if_neg (by rw[dl,List.length_append,hL];omega),if_neg (by rw[Z1,hpt];simp),Z1]
 have Mz:eD h<256:=by unfold eD;by_cases h1:h.p= -1<;>by_cases h2:h.q= -1<;>simp[h1,h2]<;>omega
 have aoM:eD h/4%16=0:=by unfold eD;by_cases h1:h.p= -1<;>by_cases h2:h.q= -1<;>simp[h1,h2]<;>omega
 have jz:(gv h).drop 2=tz h++List.replicate (aO (bE h).length) 0:=by unfold gv di bE;rfl
 unfold gO;rw[hse,e1,lN _ Mz];simp only;rw[if_neg ag,if_neg (by rw[aoM];simp),jz,qP];simp only;rw[if_neg ag,dl,hL]
theorem vg(bo base:Nat)(v:Value)(L:List UInt8)(n:Nat)(w:World)(hb:ir bo w v)(ho:Own base w v L)(jS:base≤bo)(hn:n≤9223372036854775807)(hL:L.length≤100000000):
  Calls prog 41 #[.int .u64 (n:Nat),.pointer (some ⟨bo,0,none⟩)] w fun e w'=> ∃v',e= .returned (.tuple #[])∧ir bo w' v'∧Own base w' v' (L++Vl.put 9 n)∧Below base w w'∧ ∀g,g<w.heap.size→g≠bo→v.ownBlock≠some g→w'.heap[g]? =w.heap[g]? :=by
 have HP:=ae (Mj n w hn);have HL:=ae (Vl.cN 9 n);generalize Vl.put 9 n=P at*;have ki:base≤w.heap.size:=Nat.le_trans jS (Nat.le_of_lt hb.lt);go_enter func41,ntmps41;go_wp2_with fail;refine HP.out.mono ?_;rintro e w1 ⟨v1,rfl,xa,az⟩;obtain⟨A,c,rfl,cC,cU,eW⟩:=xa.read;have jA:=hb.below az;have eS:=jA.cell;have el:=ho.below az;have dl:=az.size;go_wp2_with (refine ap rfl _ _ rfl base _ v L rfl el A P c rfl eW (am HL.out) aa ?_;intro v' w2 fE Qi;have fL:=jA.grown Qi (fun e=>jA.ne el e);have wE:=fL.cell;have Kf:=fL.frozen;obtain⟨A3,c3,rfl,oj⟩:=fE.read;rw[List.length_append]at fE)
 go_end0;exact⟨_,rfl,fL.set _,fE.rO fL _,Below.setCell (ao (az.mono ki) Qi aa (fun g e=>(el.ax g e).1)) jS _,fun g h1 h2 h3=>(ah _ _ _ _ (fun e=>h2 e)).trans ((Qi.block g aa (fun e=>h3 e.symm)).trans (az.block g h1))⟩
theorem Hf(n:Nat)(w:World)(hn:n≤1000000000):Calls prog 44 #[.int .i64 (n:Nat)] w fun e w'=>e= .returned (.int .i64 (aO n:Nat))∧w=w':=by have hi:(n:Int)≤1000000000:=aa;have hz:(((4-(n:Int)%4)%4:Int))=((aO n:Nat):Int):=pN;go_enter func44,ntmps44;go_wp2_with fail;rw[hz];go_ret;exact⟨rfl,rfl⟩
def iw(n:Int):Bool:=decide (5≤n)&&decide (n≤9223372036854775804)
theorem we(n:Int)(w:World)(lo: -9223372036854775808≤n)(hi:n≤9223372036854775807):Calls prog 43 #[.int .i64 n] w fun e w'=>e= .returned (.bool (iw n))∧w=w':=by
 by_cases h5:5≤n
 ·by_cases hm:n≤9223372036854775804;·have hf:iw n=true:=(by unfold iw;simp[h5,hm]);rw[hf];clear hf;go_enter func43,ntmps43;go_wp2_with fail;go_ret;exact⟨rfl,rfl⟩
  ·have hf:iw n=decide (n≤9223372036854775804):=(by unfold iw;simp[h5]);rw[hf];clear hf hm;go_enter func43,ntmps43;go_wp2_with fail;go_ret;exact⟨rfl,rfl⟩
 ·have hf:iw n=false:=by unfold iw;simp[h5]
  rw[hf];have h52:n<5:=aa;clear hf h5;go_enter func43,ntmps43;go_wp2_with fail;go_ret;exact⟨rfl,rfl⟩
def aS(l:List UInt8)(k:Nat):Nat×Nat×Nat:=
 if(Vl.get (l.drop k)).2.2=6 then(0,0,8)else((Vl.get (l.drop k)).1,k+(Vl.get (l.drop k)).2.1,(Vl.get (l.drop k)).2.2)
def KW(ba:Nat)(r:Nat×Nat×Nat)(w:World)(e:Ending)(w':World):Prop:=
 e= .returned (.tuple #[.int .i64 (r.1:Nat),.int .i64 (r.2.2:Nat)])∧(r.2.2=0→w'=w.setCell ⟨ba,0,none⟩ (.int .i64 (r.2.1:Nat)))∧Below ba w w'
theorem Vc(bb ba:Nat)(A:Option Addr)(l:List UInt8)(c k:Nat)(w:World)(jS:w.cell? ⟨bb,0,none⟩=some (.slice A l.length c))(xc:w.cell? ⟨ba,0,none⟩=some (.int .i64 (k:Nat)))(OU:w.frozen? ⟨ba,0,none⟩=false)
  (hB:Bytes w A l) (hk:k≤l.length) (hc:l.length≤c) (hm:c≤9223372036854775807) (hl:l.length≤1000000):
  Calls prog 141 #[.pointer (some ⟨bb,0,none⟩),.pointer (some ⟨ba,0,none⟩)] w (KW ba (aS l k) w):=by
 have HG:=ae (show ∀A' c',Bytes w A' (l.drop k)→Calls prog 142 #[.slice A' (l.length-k) c'] w (Got w (Vl.get (l.drop k)))from fun A' c' h=>by
  have:=CO A' (l.drop k) c' w h jL;rwa [List.length_drop]at this)
 have HB:=ae hB;have Js:(k:Int)≤(l.length:Int):=aa;have pW:(l.length:Int)≤(c:Int):=aa;have qw:(l.length:Int)≤1000000:=aa;have hkL:l.length≤k→l.drop k=[]:=fun h=>List.drop_eq_nil_of_le h;have HKL:=ae hkL;have AE:(l.drop k).length=l.length-k:=List.length_drop;have HGC:=Vl.qk (l.drop k);have hR:aS l k=if(Vl.get (l.drop k)).2.2=6 then(0,0,8)else((Vl.get (l.drop k)).1,k+(Vl.get (l.drop k)).2.1,(Vl.get (l.drop k)).2.2):=rfl;rw[AE]at HGC;generalize aS l k=R at*;generalize Vl.get (l.drop k)=q at*;obtain⟨n,m,er⟩:=q;clear hB hkL AE;rcases HGC with⟨h1,h2,h3⟩ | ⟨h1,h2,h3⟩ | ⟨h1,h2,h3,h4⟩
 ·obtain rfl:er=2:=h1;obtain rfl:n=0:=h2;obtain rfl:m=0:=h3;obtain rfl:R=(0,k,2):=hR;go_enter func141,ntmps141;go_wp2_with fail;·refine(HG.out A 0 (by rw[HKL.out aa];exact .nil)).mono ?_;rintro e w1 ⟨rfl,rfl⟩;go_wp2_with fail;go_ret2;exact⟨rfl,fun h=>absurd (show(2:Nat)=0 from h) ak,Below.setCell (p:=⟨ba,0,none⟩) (Below.refl _ _) (Nat.le_refl _) _⟩
  ·refine(HG.out _ (c-k) (HB.out.cut k)).mono ?_;rintro e w1 ⟨rfl,rfl⟩;go_wp2_with fail;go_ret2;exact⟨rfl,fun h=>absurd (show(2:Nat)=0 from h) ak,Below.setCell (p:=⟨ba,0,none⟩) (Below.refl _ _) (Nat.le_refl _) _⟩
 ·obtain rfl:er=6:=h1;obtain rfl:n=0:=h2;obtain rfl:m=0:=h3;obtain rfl:R=(0,0,8):=hR;go_enter func141,ntmps141;go_wp2_with fail;·refine(HG.out A 0 (by rw[HKL.out aa];exact .nil)).mono ?_;rintro e w1 ⟨rfl,rfl⟩;go_wp2_with fail;go_ret2;exact⟨rfl,fun h=>absurd h ak,Below.refl _ _⟩
  ·refine(HG.out _ (c-k) (HB.out.cut k)).mono ?_;rintro e w1 ⟨rfl,rfl⟩;go_wp2_with fail;go_ret2;exact⟨rfl,fun h=>absurd h ak,Below.refl _ _⟩
 ·obtain rfl:er=0:=h1;obtain rfl:R=(n,k+m,0):=hR;have hn:(n:Int)<9223372036854775808:=by have:n<_:=h4;omega
  have Bc:(0:Int)≤(n:Int):=aa;have IH:(m:Int)≤1000000:=by have:m≤_:=h2;omega
  have HNB:=ae (And.intro hn (And.intro Bc IH));clear h2 h3 h4 hn Bc IH;go_enter func141,ntmps141;go_wp2_with fail;·refine(HG.out A 0 (by rw[HKL.out aa];exact .nil)).mono ?_;rintro e w1 ⟨rfl,rfl⟩;obtain⟨hn,Bc,IH⟩:=HNB.out;go_wp2_with fail;go_ret2;exact⟨rfl,fun _=>rfl,Below.setCell (p:=⟨ba,0,none⟩) (Below.refl _ _) (Nat.le_refl _) _⟩
  ·refine(HG.out _ (c-k) (HB.out.cut k)).mono ?_;rintro e w1 ⟨rfl,rfl⟩;obtain⟨hn,Bc,IH⟩:=HNB.out;go_wp2_with fail;go_ret2;exact⟨rfl,fun _=>rfl,Below.setCell (p:=⟨ba,0,none⟩) (Below.refl _ _) (Nat.le_refl _) _⟩
def zr(l:List UInt8):Nat→Nat→Nat×Nat
 | 0,a=>(a,0)
 | z+1,a=>if l.length≤a then(0,2)else if l.getD a 0≠0 then(0,8)else zr l z (a+1)
def KX(l:List UInt8)(a:Nat):Nat×Nat:=if l.length<a+4 then(0,2)else if(part l a 4==eL (l.take a))=false then(0,8)else(a+4,0)
def lr(l:List UInt8)(a:Nat):Nat×Nat:=if(zr l (aO a) a).2≠0 then(0,(zr l (aO a) a).2)else KX l (zr l (aO a) a).1
theorem Zg(A:Option Addr)(l:List UInt8)(c a:Nat)(w:World)(hB:Bytes w A l)(ha:a≤l.length)(hc:l.length≤c)(hm:c≤9223372036854775807)(hl:l.length≤1000000):
  Calls prog 144 #[.slice A l.length c,.int .i64 (a:Nat)] w fun e w'=>e= .returned (.tuple #[.int .i64 ((lr l a).1:Nat),.int .i64 ((lr l a).2:Nat)])∧Below w.heap.size w w':=by
 have HZ:=ae (Hf a w aa);have hai:(a:Int)≤(l.length:Int):=aa;have pW:(l.length:Int)≤(c:Int):=aa;have qw:(l.length:Int)≤1000000:=aa;have HR:=ae (show lr l a=if(zr l (aO a) a).2≠0 then(0,(zr l (aO a) a).2)else KX l (zr l (aO a) a).1 from rfl);have YP:aO a<4:=pN;generalize aO a=z at*;go_enter func144,ntmps144;go_wp2_with fail;refine HZ.out.mono ?_;rintro e _ ⟨rfl,rfl⟩;go_wp2_with fail;go_loopw [1,8] (fun at' i wr=> ∃j:Nat,j≤z∧i= .int .i64 (j:Nat)∧at'= .int .i64 ((a+j:Nat):Int)∧Hid (zr l z a=zr l (z-j) (a+j))∧a+j≤l.length∧w=wr) (fun _ i _=>z-(intOf i).toNat);case atStart=>exact⟨0,aa,rfl,rfl,rfl,aa,rfl⟩
 case round=>
  obtain⟨j,hj,rfl,rfl,ue,ub,rfl⟩:=hrel;by_cases hjz:j<z
  ·have axO:(j:Int)<(z:Int):=(by omega);have VT:(z:Int)<4:=aa;have wb:z-j=(z-(j+1))+1:=aa;rw[wb]at ue;by_cases hae:a+j=l.length
   ·have HE:Hid (lr l a=(0,2)):=ae (by
     have e:zr l z a=(0,2):=(by rw[ue.out,zr,if_pos aa]);rw[HR.out,e];rfl)
    have axP:((a:Int)+(j:Int))=(l.length:Int):=aa;clear ue wb hjz hae;go_wp2_with fail;go_ret2;exact⟨kb,Below.refl _ _⟩
   ·have aH:a+j<l.length:=(by omega);obtain⟨b,off,rfl,hb,hcell⟩:=hB.addr aa;have Me:=hcell (a+j) aH;have mb:l[a+j]=l.getD (a+j) 0:=(by simp[List.getD,aH]);rw[mb]at Me;have⟨p,hp⟩:=ex (a+j:Nat);have AU:((a:Int)+(j:Int))=(p:Int):=aa;have vo:((a+(j+1):Nat):Int)=(p:Int)+1:=aa;by_cases h0:l.getD (a+j) 0=0
    ·have HN:Hid (zr l z a=zr l (z-(j+1)) (a+(j+1))):=ae (by
      rw[ue.out,zr,if_neg aa,if_neg (by rw[h0];simp)];rfl)
     rw[h0,hp]at Me;have qp:(p:Int)<(l.length:Int):=aa;have dH: ¬(p:Int)=(l.length:Int):=aa;clear ue wb hjz hae mb hcell h0;go_wp2_with fail;exact⟨⟨j+1,aa,aE,aE,HN,aa,trivial⟩,jb⟩
    ·have HE:Hid (lr l a=(0,8)):=ae (by
      have e:zr l z a=(0,8):=(by rw[ue.out,zr,if_neg aa,if_pos h0]);rw[HR.out,e];rfl)
     rw[hp]at Me h0;have qp:(p:Int)<(l.length:Int):=aa;have dH: ¬(p:Int)=(l.length:Int):=aa;have nV: ¬((l.getD p 0).toNat:Int)=0:=fun h=>h0 (UInt8.toNat_inj.1 kJ);have axQ:w.cell? ⟨b,off+p,none⟩=some (.int .u8 ((l.getD p 0).toNat:Nat)):=Me;generalize(l.getD p 0).toNat=x at*;have jA:(0:Int)<(x:Int):=aa;clear ue wb hjz hae mb hcell h0 Me;go_wp2_with fail;go_ret2;exact⟨kb,Below.refl _ _⟩
  ·obtain rfl:j=z:=(by omega);have aiq:zr l j a=(a+j,0):=(by rw[ue.out,Nat.sub_self];rfl);have BJ:Hid (lr l a=KX l (a+j)):=ae (by rw[HR.out,aiq];rfl);have⟨p,hp⟩:=ex (a+j:Nat);have AU:((a:Int)+(j:Int))=(p:Int):=aa;rw[hp]at BJ;have qp:(p:Int)≤(l.length:Int):=aa;clear ue aiq hjz;by_cases h4:l.length<p+4;·have HE:Hid (lr l a=(0,2)):=ae (by rw[BJ.out,KX,if_pos h4]);have h4i:(l.length:Int)-(p:Int)<4:=aa;clear h4;go_wp2_with fail;go_ret2;exact⟨kb,Below.refl _ _⟩
   ·have hp4:p+4≤l.length:=(by omega);obtain⟨b,off,rfl,gZ,_⟩:=hB.addr aa;have JG:=ae (show KX l p=if(part l p 4==eL (l.take p))=false then(0,8)else(p+4,0)from by rw[KX,if_neg h4]);have sk:=ae (bX (l.take p));have HS:=ae (show ∀w',Bytes w' (some ⟨b,off,none⟩) l→Calls prog 39 #[.int .i64 1,.slice (some ⟨b,off,none⟩) p c] w' (bF w' (eL (l.take p)))from fun w' h=>by
     have:=mL (some ⟨b,off,none⟩) (l.take p) c w' (h.take p) mV hm;rwa [show(l.take p).length=p by rw[List.length_take];omega]at this)
    have HE:=ae (show ∀A2 c2 w',Bytes w' (some ⟨b,off,none⟩) l→Bytes w' A2 (eL (l.take p))→Calls prog 92 #[.slice (some ⟨b,off+p,none⟩) 4 (c-p),.slice A2 4 c2] w' fun e Qv=>e= .returned (.bool (part l p 4==eL (l.take p)))∧w'=Qv from fun A2 c2 w' h h2=>by
     have h3:Bytes w' (some ⟨b,off+p,none⟩) (part l p 4):=(Bytes.drop p h).take 4;have:=cS _ _ (part l p 4) (eL (l.take p)) (c-p) c2 w' h3 h2;rwa [dJ l p 4 hp4,bX]at this)
    have⟨t,ht⟩:=ex (p+4:Nat);have HW:Hid (IntKind.i64.wrap ((p:Int)+4)=(t:Int)):=ae (by rw[IntWalk.i64_in _ aa];omega);have HT4:Hid (t-p=4):=ae aa;have HC:=ae (show(p:Int)+4≤(c:Int)∧ ¬c=p∧(p:Int)+4≤(l.length:Int)∧(p:Int)≤(l.length:Int)∧(p:Int)≤(c:Int)∧(0:Int)≤(t:Int)∧(t:Int)≤(c:Int)∧p≤t by omega);clear ht;have pX: ¬(l.length:Int)-(p:Int)<4:=aa;have hBB:=ae hB;generalize hv:(part l p 4==eL (l.take p))=v at*;clear hv hp4 h4;have bw:Below w.heap.size w w.drew:=bg w;go_wp2_with fail;refine wp_region_held_drew (S:=fun w'=>Below w.heap.size w w') ai bw (fun hS=> ?_);refine af 0 hS (h:=af 1 hS (h:=af 2 hS (h:=af 3 hS (h:= ?_))));rw[HW.out];refine cw 4 rfl (fun w hSw=>La) hS (h:= ?_);rw[HT4.out];refine af 5 hS (h:=af 6 hS (h:=cw 7 rfl (fun w hSw=>La) hS (h:= ?_)));refine aC 8 (fun K hK=> ?_);go_simp;refine(HS.out w.drew (hBB.out.below bw)).mono ?_;rintro e w2 ⟨A2,c2,rfl,cU,fJ,fC,aD⟩;have g2:Below w.heap.size w w2:=aM bw aD;have iX:=ae (HE.out A2 c2 w2 (hBB.out.below g2) fC);rw[sk.out];clear fC aD;go_wp2_with fail;refine hK.out _ _ g2 (fun _=> ?_);clear hK K;refine aC 9 (fun K hK=> ?_);go_simp;refine iX.out.mono ?_;rintro e w3 ⟨rfl,rfl⟩;go_wp2_with fail;refine hK.out _ _ g2 (fun _=> ?_);clear hK K;refine af 10 g2 (h:= ?_);refine wpAnyH_done ai ?_ _;cases v with
    | false=>
     have HF:Hid (lr l a=(0,8)):=ae (by rw[BJ.out,JG.out,if_pos rfl]);go_wp2_with fail;go_ret2;exact⟨ez,g2⟩
    | true=>
     have HF:Hid (lr l a=(p+4,0)):=ae (by rw[BJ.out,JG.out,if_neg ag]);go_wp2_with fail;go_ret2;exact⟨ez,g2⟩
def gE(l:List UInt8):Nat→Nat→List (Int×Int)→List (Int×Int)×Nat×Nat
 | 0,k,acc=>(acc,k,0)
 | m+1,k,acc=>
  if(aS l k).2.2≠0 then([],0,(aS l k).2.2)else if iw ((aS l k).1:Nat)=false then([],0,8)
  else if(aS l (aS l k).2.1).2.2≠0 then([],0,(aS l (aS l k).2.1).2.2)
  else gE l m (aS l (aS l k).2.1).2.1 (acc++[((((aS l k).1:Nat):Int),(((aS l (aS l k).2.1).1:Nat):Int))])
theorem pJ(l:List UInt8)(m k:Nat)(acc:List (Int×Int)):gE l (m+1) k acc=if(aS l k).2.2≠0 then([],0,(aS l k).2.2)else if iw ((aS l k).1:Nat)=false then([],0,8)
  else if(aS l (aS l k).2.1).2.2≠0 then([],0,(aS l (aS l k).2.1).2.2)
  else gE l m (aS l (aS l k).2.1).2.1 (acc++[((((aS l k).1:Nat):Int),(((aS l (aS l k).2.1).1:Nat):Int))]):=rfl
def gQ(l:List UInt8)(k:Nat):List (Int×Int)×Nat×Nat:=if(aS l k).2.2≠0 then([],0,(aS l k).2.2)else gE l (aS l k).1 (aS l k).2.1 []
theorem fS(l:List UInt8)(k:Nat)(hk:k≤l.length):(aS l k).2.2=0∧k<(aS l k).2.1∧(aS l k).2.1≤l.length∧(aS l k).1<9223372036854775808∨(aS l k).2.2=2∧(aS l k).1=0∨(aS l k).2.2=8∧(aS l k).1=0:=by
 have h:=Vl.qk (l.drop k);rw[List.length_drop]at h;unfold aS;rcases h with⟨h1,h2,_⟩ | ⟨h1,_⟩ | ⟨h1,h2,h3,h4⟩
 ·rw[if_neg aa];exact .inr (.inl ⟨h1,h2⟩)
 ·rw[if_pos h1];exact .inr (.inr ⟨rfl,rfl⟩)
 ·rw[if_neg aa];exact .inl ⟨h1,by show k<k+_;omega,by show k+_≤_;omega,h4⟩
theorem Zh:CG 28 51 (.agg #[.int .i64 0,.int .i64 0]) 16:=⟨underlying28,ai,rfl⟩
def Vd(ba:Nat)(r:List (Int×Int)×Nat×Nat)(w:World)(e:Ending)(w':World):Prop:=
 ∃v,e= .returned (.tuple #[v,.int .i64 (r.2.2:Nat)])∧Below ba w w'∧(r.2.2≠0→v= .slice none 0 0)∧
  (r.2.2=0→dz 51 w.heap.size w' v r.1∧w'.cell? ⟨ba,0,none⟩=some (.int .i64 (r.2.1:Nat)))
theorem Ve(bb ba:Nat)(A:Option Addr)(l:List UInt8)(c k:Nat)(w:World)(jS:w.cell? ⟨bb,0,none⟩=some (.slice A l.length c))(xc:w.cell? ⟨ba,0,none⟩=some (.int .i64 (k:Nat)))(OU:w.frozen? ⟨ba,0,none⟩=false)
  (aH:bb<ba) (ZE:ba<w.heap.size) (hB: ∀w',Below ba w w'→Bytes w' A l) (hk:k≤l.length) (hc:l.length≤c) (hm:c≤9223372036854775807) (hl:l.length≤1000000):
  Calls prog 143 #[.func (.func 141) #[] #[.pointer (some ⟨bb,0,none⟩),.pointer (some ⟨ba,0,none⟩)]] w (Vd ba (gQ l k) w):=by
 have HN:=ae (fun(j:Nat) (wr:World) (hb:Below ba w wr) (hj:j≤l.length) (h1:wr.cell? ⟨ba,0,none⟩=some (.int .i64 (j:Nat))) (h2:wr.frozen? ⟨ba,0,none⟩=false)=>Vc bb ba A l c j wr ((hb.cell (p:=⟨bb,0,none⟩) aH).trans jS) h1 h2 (hB wr hb) hj hc hm hl);have H0:=ae (HN.out k w (Below.refl _ _) hk xc OU);have HC0:=ae (fS l k hk);have HR:=ae (show gQ l k=if(aS l k).2.2≠0 then([],0,(aS l k).2.2)else gE l (aS l k).1 (aS l k).2.1 []from rfl);have HFZ:=ae OU;have RO:=ae xc;generalize gQ l k=R at*;generalize aS l k=r at*;obtain⟨n,p,er⟩:=r;clear jS xc OU hB hk hc hm;go_enter func143,ntmps143;go_wp2_with fail;refine H0.out.mono ?_;rintro e w1 ⟨rfl,nd,az⟩;rcases HC0.out with⟨h1,h2,h3,h4⟩ | ⟨h1,h2⟩ | ⟨h1,h2⟩
 ·obtain rfl:er=0:=h1;have js:w1=w.setCell ⟨ba,0,none⟩ (.int .i64 (p:Nat)):=nd rfl;have hp:p≤l.length:=h3;have cC:w1.cell? ⟨ba,0,none⟩=some (.int .i64 (p:Nat)):=by rw[js];exact World.cell?_setCell_same' _ _ _ (by rw[RO.out];rfl)
  have ud:w1.frozen? ⟨ba,0,none⟩=false:=by rw[js,World.frozen?_setCell];exact HFZ.out
  have air:(n:Int)≤9223372036854775807:=by have:n<9223372036854775808:=h4;omega
  have eQ:w.heap.size≤w1.heap.size:=az.size;have ES:Hid (R=gE l n p []):=ae HR.out;clear h2 h3 h4 nd js;have ao4:=ae air;clear air;go_wp2_with fail;go_loopw [6,19] (fun lv i wr=> ∃(j q:Nat) (rs:List (Int×Int)),j≤n∧i= .int .i64 (j:Nat)∧Hid (gE l n p []=gE l (n-j) q rs)∧q≤l.length∧2*rs.length≤q∧dz 51 w.heap.size wr lv rs∧Hid (Below ba w wr)∧wr.cell? ⟨ba,0,none⟩=some (.int .i64 (q:Nat))∧wr.frozen? ⟨ba,0,none⟩=false) (fun _ i _=>n-(intOf i).toNat);case atStart=>exact⟨0,p,[],aa,rfl,rfl,hp,ag,dz.nil _ _ _,ae az,cC,ud⟩
  case round=>
   obtain⟨j,q,rs,hj,rfl,ue,hq,mm,aK,Hu,Wy,lW⟩:=hrel;by_cases hjn:j<n
   ·have axS:(j:Int)<(n:Int):=(by omega);have HG:=ae (HN.out q wr Hu.out hq Wy lW);have wb:n-j=(n-(j+1))+1:=aa;rw[wb]at ue;have HE:=ae (ue.out.trans (pJ l (n-(j+1)) q rs));have xd:=fS l q hq;clear wb ue;generalize aS l q=r1 at*;obtain⟨n1,p1,e1⟩:=r1;go_wp2_with fail;refine HG.out.mono ?_;rintro e w2 ⟨rfl,MB,aD⟩;have Vf:=ae (Hu.out.trans aD);rcases xd with⟨h1,h2,h3,h4⟩ | ⟨h1,h2⟩ | ⟨h1,h2⟩
    ·obtain rfl:e1=0:=h1;have Dk:w2=wr.setCell ⟨ba,0,none⟩ (.int .i64 (p1:Nat)):=MB rfl;have Fn:p1≤l.length:=h3;have hqp:q<p1:=h2;have cU:w2.cell? ⟨ba,0,none⟩=some (.int .i64 (p1:Nat)):=(by rw[Dk];exact World.cell?_setCell_same' _ _ _ (by rw[Wy];rfl));have Lh:w2.frozen? ⟨ba,0,none⟩=false:=(by rw[Dk,World.frozen?_setCell];exact lW);have lC:=aK.set (p:=⟨ba,0,none⟩) ZE (.int .i64 (p1:Nat));rw[←Dk]at lC;have FC:n1<9223372036854775808:=h4;have HU:=ae (we (n1:Nat) w2 aa aa);have Xr:=ae (HN.out p1 w2 Vf.out Fn cU Lh);have BJ:Hid (gE l n p []=if iw (n1:Nat)=false then([],0,8)else if(aS l p1).2.2≠0 then([],0,(aS l p1).2.2)else gE l (n-(j+1)) (aS l p1).2.1 (rs++[((n1:Int),(((aS l p1).1:Nat):Int))])):=ae HE.out;have hC2:=fS l p1 Fn;generalize aS l p1=r2 at*;generalize iw (n1:Nat)=fu at*;obtain⟨n2,p2,e2⟩:=r2;clear Dk MB h2 h3 h4 aD FC aK HE Wy lW HG;go_wp2_with fail;refine HU.out.mono ?_;rintro e _ ⟨rfl,rfl⟩;cases fu with
     | false=>
      have HF:Hid (R=([],0,8)):=ae (by rw[ES.out,BJ.out];rfl);clear hC2;go_wp2_with fail;go_ret2;exact⟨_,ez,Vf.out,fun _=>rfl,fun h=>absurd (show(8:Nat)=0 by rw[HF.out]at h;exact h) ak⟩
     | true=>
      go_wp2_with fail;refine Xr.out.mono ?_;rintro e w3 ⟨rfl,MC,bA⟩;have Zi:=ae (Vf.out.trans bA);rcases hC2 with⟨h1,h2,h3,h4⟩ | ⟨h1,h2⟩ | ⟨h1,h2⟩
      ·obtain rfl:e2=0:=h1;have FO:w3=w2.setCell ⟨ba,0,none⟩ (.int .i64 (p2:Nat)):=MC rfl;have vo:p2≤l.length:=h3;have axT:p1<p2:=h2;have oj:w3.cell? ⟨ba,0,none⟩=some (.int .i64 (p2:Nat)):=(by rw[FO];exact World.cell?_setCell_same' _ _ _ (by rw[cU];rfl));have Qp:w3.frozen? ⟨ba,0,none⟩=false:=(by rw[FO,World.frozen?_setCell];exact Lh);have sy:=lC.set (p:=⟨ba,0,none⟩) ZE (.int .i64 (p2:Nat));rw[←FO]at sy;have HE3:Hid (gE l n p []=gE l (n-(j+1)) p2 (rs++[((n1:Int),(n2:Int))])):=ae (by rw[BJ.out,if_neg (fun h=>iR),if_neg (fun h=>h rfl)]);have Pb:w.heap.size≤w3.heap.size:=Zi.out.size;have Vg:=sy.alloc (.cells #[.int .i64 (n1:Nat),.int .i64 (n2:Nat)] 51);have Q6:(w3.alloc (.cells #[.int .i64 (n1:Nat),.int .i64 (n2:Nat)] 51)).cell? ⟨w3.heap.size,0,none⟩=some (.int .i64 ((n1:Int),(n2:Int)).1):=ag;have xT:(w3.alloc (.cells #[.int .i64 (n1:Nat),.int .i64 (n2:Nat)] 51)).cell? ⟨w3.heap.size,1,none⟩=some (.int .i64 ((n1:Int),(n2:Int)).2):=ag;have hsA:w.heap.size≤(w3.alloc (.cells #[.int .i64 (n1:Nat),.int .i64 (n2:Nat)] 51)).heap.size:=av;have vw:=ae (Zi.out.alloc (Nat.le_trans (Nat.le_of_lt ZE) Pb) (.cells #[.int .i64 (n1:Nat),.int .i64 (n2:Nat)] 51));have ao6:ba<w3.heap.size:=aa;have hcA:(w3.alloc (.cells #[.int .i64 (n1:Nat),.int .i64 (n2:Nat)] 51)).heap[ba]? =w3.heap[ba]? :=Below.heap_alloc _ _ _ ao6;have HK:=ae (And.intro oj (And.intro Qp hcA));have HL:=ae (And.intro Q6 xT);clear FO MC h2 h3 h4 bA cU Lh lC BJ oj Qp hcA Q6 xT sy;have axV:(j:Int)+1≤9223372036854775807:=am ao4.out;have hj0:(0:Int)≤(j:Int):=aa;go_wp2_with (refine lP Zh rfl _ _ rfl w.heap.size _ u6 rs rfl Vg w3.heap.size 1 ((n1:Int),(n2:Int)) rfl HL.out.1 HL.out.2 aa aa hsA ?_;intro v' w4 ais hgB)
       have VH:Below ba w w4:=ao vw.out hgB (Nat.le_trans (Nat.le_of_lt ZE) hsA) (fun g e=>Nat.le_trans (Nat.le_of_lt ZE) (Vg.lt g e).1);have mY:w4.heap[ba]? =w3.heap[ba]? :=(hgB.block ba (Nat.lt_of_lt_of_le ZE hsA) (fun e=>absurd (Vg.lt ba e.symm).1 (Nat.not_le_of_lt ZE))).trans HK.out.2.2;exact⟨⟨j+1,p2,rs++[((n1:Int),(n2:Int))],aa,aE,HE3,vo,av,ais,ae VH,(World.cell?_of_block (a:=⟨ba,0,none⟩) mY).trans HK.out.1,(World.frozen?_of_block (a:=⟨ba,0,none⟩) mY).trans HK.out.2.1⟩,jb⟩
      ·obtain rfl:e2=2:=h1;have HF:Hid (R=([],0,2)):=ae (by rw[ES.out,BJ.out];rfl);clear MC bA;go_wp2_with fail;go_ret2;exact⟨_,ez,Zi.out,fun _=>rfl,fun h=>absurd (show(2:Nat)=0 by rw[HF.out]at h;exact h) ak⟩
      ·obtain rfl:e2=8:=h1;have HF:Hid (R=([],0,8)):=ae (by rw[ES.out,BJ.out];rfl);clear MC bA;go_wp2_with fail;go_ret2;exact⟨_,ez,Zi.out,fun _=>rfl,fun h=>absurd (show(8:Nat)=0 by rw[HF.out]at h;exact h) ak⟩
    ·obtain rfl:e1=2:=h1;have HF:Hid (R=([],0,2)):=ae (by rw[ES.out,HE.out];rfl);clear MB aD;go_wp2_with fail;go_ret2;exact⟨_,ez,Vf.out,fun _=>rfl,fun h=>absurd (show(2:Nat)=0 by rw[HF.out]at h;exact h) ak⟩
    ·obtain rfl:e1=8:=h1;have HF:Hid (R=([],0,8)):=ae (by rw[ES.out,HE.out];rfl);clear MB aD;go_wp2_with fail;go_ret2;exact⟨_,ez,Vf.out,fun _=>rfl,fun h=>absurd (show(8:Nat)=0 by rw[HF.out]at h;exact h) ak⟩
   ·obtain rfl:j=n:=(by omega);have HF:Hid (R=(rs,q,0)):=ae (by rw[ES.out,ue.out,Nat.sub_self];rfl);clear ue hjn;go_wp2_with fail;go_ret2;exact⟨_,ez,Hu.out,fun h=>absurd (show(0:Nat)=0 from rfl) (by rw[HF.out]at h;exact h),fun _=>⟨by rw[HF.out];exact aK,by rw[HF.out];exact Wy⟩⟩
 ·obtain rfl:er=2:=h1;have ES:Hid (R=([],0,2)):=ae HR.out;clear nd;go_wp2_with fail;go_ret2;exact⟨_,by rw[ES.out];rfl,az,fun _=>rfl,fun h=>absurd (show(2:Nat)=0 by rw[ES.out]at h;exact h) ak⟩
 ·obtain rfl:er=8:=h1;have ES:Hid (R=([],0,8)):=ae HR.out;clear nd;go_wp2_with fail;go_ret2;exact⟨_,by rw[ES.out];rfl,az,fun _=>rfl,fun h=>absurd (show(8:Nat)=0 by rw[ES.out]at h;exact h) ak⟩
def tL(l:List UInt8):List (Int×Int)×Nat×Nat:=
 if l.length=0 then([],0,2)else if l.getD 0 0≠0 then([],0,8)else if(gQ l 1).2.2≠0 then([],0,(gQ l 1).2.2)
 else if(lr l (gQ l 1).2.1).2≠0 then([],0,(lr l (gQ l 1).2.1).2)else((gQ l 1).1,(lr l (gQ l 1).2.1).1,0)
theorem tM(l:List UInt8): ∀(m k:Nat) (acc:List (Int×Int)),k≤l.length→(gE l m k acc).2.2=0→(gE l m k acc).2.1≤l.length
 | 0,_,_,hk,_=>hk
 | m+1,k,acc,hk,h=>by
  rw[pJ]at h ⊢;rcases fS l k hk with⟨h1,h2,h3,h4⟩ | ⟨h1,h2⟩ | ⟨h1,h2⟩
  ·rw[if_neg aa]at h ⊢;by_cases hf:iw ((aS l k).1:Nat)=false;·rw[if_pos hf]at h;cases h
   rw[if_neg hf]at h ⊢;rcases fS l (aS l k).2.1 h3 with⟨g1,g2,g3,g4⟩ | ⟨g1,g2⟩ | ⟨g1,g2⟩
   ·rw[if_neg aa]at h ⊢;exact tM l m _ _ g3 h
   ·rw[if_pos aa]at h;have h':(aS l (aS l k).2.1).2.2=0:=h;omega
   ·rw[if_pos aa]at h;have h':(aS l (aS l k).2.1).2.2=0:=h;omega
  ·rw[if_pos aa]at h;have h':(aS l k).2.2=0:=h;omega
  ·rw[if_pos aa]at h;have h':(aS l k).2.2=0:=h;omega
theorem Hg(l:List UInt8)(k:Nat)(hk:k≤l.length)(h:(gQ l k).2.2=0):(gQ l k).2.1≤l.length:=by
 unfold gQ at h ⊢;rcases fS l k hk with⟨h1,h2,h3,h4⟩ | ⟨h1,h2⟩ | ⟨h1,h2⟩
 ·rw[if_neg aa]at h ⊢;exact tM l _ _ _ h3 h
 ·rw[if_pos aa]at h;have h':(aS l k).2.2=0:=h;omega
 ·rw[if_pos aa]at h;have h':(aS l k).2.2=0:=h;omega
theorem dz.weaken{gj:Nat}(h:dz t base w v l)(hb:gj≤base):dz t gj w v l:=by
 rcases h with⟨h1,h2 | ⟨g,cap,cur,h2,h3,h4⟩⟩
 ·exact⟨h1,.inl h2⟩
 ·exact⟨h1,.inr ⟨g,cap,cur,h2,Nat.le_trans hb h3,h4⟩⟩
def PH(w:World)(r:List (Int×Int)×Nat×Nat)(e:Ending)(w':World):Prop:=
 ∃v,e= .returned (.tuple #[v,.int .i64 (r.2.1:Nat),.int .i64 (r.2.2:Nat)])∧dz 51 w.heap.size w' v r.1∧Below w.heap.size w w'
theorem PI(A:Option Addr)(l:List UInt8)(c:Nat)(w:World)(hB:Bytes w A l)(hc:l.length≤c)(hm:c≤9223372036854775807)(hl:l.length≤1000000):
  Calls prog 97 #[.slice A l.length c] w (PH w (tL l)):=by
 have HB:=ae hB;by_cases h0:l.length=0;·have HF:Hid (tL l=([],0,2)):=ae (by rw[tL,if_pos h0]);have ZO:(l.length:Int)=0:=aa;rw[h0];clear hB;go_enter func97,ntmps97;go_wp2_with fail;go_ret3;exact⟨_,ez,wQ,ar⟩
 ·have ZO: ¬(l.length:Int)=0:=by omega
  obtain⟨b,off,rfl,gZ,hcell⟩:=hB.addr aa;have k0:w.cell? ⟨b,off+0,none⟩=some (B8 (l[0]'aa)):=hcell 0 aa;have mb:l[0]'aa=l.getD 0 0:=by simp[List.getD,show 0<l.length by omega]
  rw[mb,Nat.add_zero]at k0;have ur:(0:Int)<(l.length:Int):=aa;clear hcell mb hB;by_cases hx:l.getD 0 0=0
  ·rw[hx]at k0;have k1:w.cell? ⟨b,off,none⟩=some (.int .u8 0):=k0;clear k0;go_enter func97,ntmps97;have fw:Below w.heap.size w ((w.alloc (.cells #[.slice (some ⟨b,off,none⟩) l.length c] 22)).alloc (.cells #[.int .i64 1] 3)):=(ar).alloc ag _;have EU:=ae (Ve w.heap.size (w.heap.size+1) (some ⟨b,off,none⟩) l c 1 ((w.alloc (.cells #[.slice (some ⟨b,off,none⟩) l.length c] 22)).alloc (.cells #[.int .i64 1] 3)) ag ag ag aa ag (fun w' h=>HB.out.below (fw.trans (h.mono aa))) aa hc hm hl);have WZ:=ae (show tL l=if(gQ l 1).2.2≠0 then([],0,(gQ l 1).2.2)else if(lr l (gQ l 1).2.1).2≠0 then([],0,(lr l (gQ l 1).2.1).2)else((gQ l 1).1,(lr l (gQ l 1).2.1).1,0)from by rw[tL,if_neg h0,if_neg (fun h=>h hx)]);have At:=ae (Hg l 1 aa);generalize gQ l 1=RR at*;obtain⟨rs,pl,er⟩:=RR;have dE:=ae fw;have ait:((w.alloc (.cells #[.slice (some ⟨b,off,none⟩) l.length c] 22)).alloc (.cells #[.int .i64 1] 3)).cell? ⟨w.heap.size,0,none⟩=some (.slice (some ⟨b,off,none⟩) l.length c):=ag;have DK:=ae ait;clear fw ait;go_wp2_with fail;refine EU.out.mono ?_;rintro e w3 ⟨v,rfl,bA,ya,G8⟩;have IW:Below w.heap.size w w3:=dE.out.trans (bA.mono aa);have Lq:=(bA.cell (p:=⟨w.heap.size,0,none⟩) ag).trans DK.out;by_cases he:er=0
   ·subst he;obtain⟨aK,IB⟩:=G8 rfl;have axW:w3.cell? ⟨w.heap.size+1,0,none⟩=some (.int .i64 (pl:Nat)):=IB;have lC:dz 51 w.heap.size w3 v rs:=aK.weaken av;have HE:=ae (Zg (some ⟨b,off,none⟩) l c pl w3 (HB.out.below IW) (At.out rfl) hc hm hl);have Xr:Hid (tL l=if(lr l pl).2≠0 then([],0,(lr l pl).2)else(rs,(lr l pl).1,0)):=ae WZ.out;generalize lr l pl=ee at*;obtain⟨cnt,e2⟩:=ee;clear ya G8 IB aK bA;go_wp2_with fail;refine HE.out.mono ?_;rintro e w4 ⟨rfl,bm⟩;have MZ:=aM IW bm;by_cases he2:e2=0;·subst he2;have HF:Hid (tL l=(rs,cnt,0)):=ae Xr.out;go_wp2_with fail;go_ret3;exact⟨_,ez,by rw[HF.out];exact lC.below bm,MZ⟩
    ·have HF:Hid (tL l=([],0,e2)):=ae (by rw[Xr.out,if_pos he2]);have Wm:(0:Int)<(e2:Int):=aa;clear he2;go_wp2_with fail;go_ret3;exact⟨_,ez,wQ,MZ⟩
   ·have HF:Hid (tL l=([],0,er)):=ae (by rw[WZ.out,if_pos he]);have Wm:(0:Int)<(er:Int):=aa;clear he ya G8 bA;go_wp2_with fail;go_ret3;exact⟨_,ez,wQ,IW⟩
  ·have HF:Hid (tL l=([],0,8)):=ae (by rw[tL,if_neg h0,if_pos hx]);have nV: ¬((l.getD 0 0).toNat:Int)=0:=fun h=>hx (UInt8.toNat_inj.1 kJ);have k1:w.cell? ⟨b,off,none⟩=some (.int .u8 ((l.getD 0 0).toNat:Nat)):=k0;generalize(l.getD 0 0).toNat=x at*;have jA:(0:Int)<(x:Int):=aa;clear k0 hx;go_enter func97,ntmps97;go_wp2_with fail;go_ret3;exact⟨_,ez,wQ,ar⟩
def Ad(w:World)(A:Option Addr)(l:List (Int×Int)):Prop:=
 l=[]∨ ∃b off,A=some ⟨b,off,none⟩∧b<w.heap.size∧ ∀k (h:k<l.length),w.cell? ⟨b,off+k*2,none⟩=some (.int .i64 l[k].1)∧w.cell? ⟨b,off+k*2+1,none⟩=some (.int .i64 l[k].2)
theorem Ad.below{w':World}(h:Ad w A l)(hb:Below w.heap.size w w'):Ad w' A l:=by
 rcases h with h | ⟨b,off,h1,h2,h3⟩
 ·exact .inl h
 ·exact .inr ⟨b,off,h1,Nat.lt_of_lt_of_le h2 hb.size,fun k h=>⟨(hb.cell (p:=⟨b,off+k*2,none⟩) h2).trans (h3 k h).1,(hb.cell (p:=⟨b,off+k*2+1,none⟩) h2).trans (h3 k h).2⟩⟩
theorem Ad.addr(h:Ad w A l)(h0:0<l.length): ∃b off,A=some ⟨b,off,none⟩∧b<w.heap.size∧ ∀k (h:k<l.length),w.cell? ⟨b,off+k*2,none⟩=some (.int .i64 l[k].1)∧w.cell? ⟨b,off+k*2+1,none⟩=some (.int .i64 l[k].2):=by
 rcases h with rfl | h;·simp at h0
 ·exact h
theorem dz.read(h:dz t base w v l): ∃A c,v= .slice A l.length c∧l.length≤c∧c≤9223372036854775807∧Ad w A l:=by
 rcases h with⟨h1,⟨h2,h3⟩ | ⟨g,cap,cur,h2,h3,h4,h5,h6,h7⟩⟩
 ·have e:l=[]:=List.eq_nil_of_length_eq_zero (by have:=jQ l;simp_all);subst e;exact⟨none,0,h2,ag,aa,.inl rfl⟩
 ·refine⟨_,cap,h2,h5,xt,.inr ⟨g,0,rfl,?_,fun k hk=> ?_⟩⟩
  ·rcases Nat.lt_or_ge g w.heap.size with h | h;·exact h
   ·rw[Array.getElem?_eq_none h]at h4;cases h4
  ·have e1: ∀j,j<l.length*2→cur[j]? =(da l)[j]? :=fun j hj=>(by have h9:=congrArg (fun x:List Value=>x[j]?) h7.2;simpa only[List.getElem?_take,hj,if_true,Array.getElem?_toList]using h9);have hg:=Eu l k hk;rw[Nat.mul_comm]at hg;rw[cell_of_row w g _ cur _ _ h4,cell_of_row w g _ cur _ _ h4,Nat.zero_add];exact⟨(e1 (k*2) aa).trans hg.1,(e1 (k*2+1) aa).trans hg.2⟩
theorem acO(w:World)(a b:Value)(t:TypeId):(w.alloc (.cells #[a,b] t)).cell? ⟨w.heap.size,0,none⟩=some a:=ag
theorem acP(w:World)(a b:Value)(t:TypeId):(w.alloc (.cells #[a,b] t)).cell? ⟨w.heap.size,1,none⟩=some b:=ag
def jr(l:List (Int×Int)):List UInt8:=l.flatMap fun r=>Vl.put 9 r.1.toNat++Vl.put 9 r.2.toNat
theorem PJ(l:List (Int×Int))(r:Int×Int):jr (l++[r])=jr l++Vl.put 9 r.1.toNat++Vl.put 9 r.2.toNat:=by simp[jr]
theorem pK(l:List (Int×Int)):(jr l).length≤20*l.length:=by
 induction l with
 | nil=>simp[jr]
 | cons r l ih=>
  have h1:=(Vl.cN 9 r.1.toNat).2;have h2:=(Vl.cN 9 r.2.toNat).2;simp only[jr,List.flatMap_cons,List.length_append,List.length_cons]at ih ⊢;omega
def jY(n:Nat):List UInt8:=0::Vl.put 9 n
theorem nK(n:Nat):0<(jY n).length∧(jY n).length≤11:=by have:=(Vl.cN 9 n).2;simp[jY];omega
def ew(l:List (Int×Int)):List UInt8:=jY l.length++jr l
def gi(l:List (Int×Int)):List UInt8:=di (ew l)++eL (di (ew l))
def jZ(r:Int×Int):Bool:=iw r.1&&decide (0≤r.2)
def Vh(r:Int×Int):Prop:= -9223372036854775808≤r.1∧r.1≤9223372036854775807∧ -9223372036854775808≤r.2∧r.2≤9223372036854775807
def PK(w:World)(l:List (Int×Int))(e:Ending)(w':World):Prop:=
 (l.all jZ=true∧ ∃v,e= .returned (.tuple #[v,.int .i64 0])∧Own w.heap.size w' v (gi l)∧Below w.heap.size w w')∨
 (l.all jZ=false∧e= .returned (.tuple #[.slice none 0 0,.int .i64 1])∧Below w.heap.size w w')
theorem Zj(l:List (Int×Int))(j:Nat)(h:j<l.length)(hb:jZ l[j]=false):l.all jZ=false:=by rw[List.all_eq_false];exact⟨l[j],List.getElem_mem h,by rw[hb];simp⟩
theorem PM(A:Option Addr)(l:List (Int×Int))(c:Nat)(w:World)(hB:Ad w A l)(hr: ∀r∈l,Vh r)(hl:l.length≤100000):
  Calls prog 21 #[.slice A l.length c] w (PK w l):=by
 have qw:(l.length:Int)≤100000:=aa;have Fb:Below w.heap.size w ((w.alloc (.cells #[.int .u8 0] 5)).alloc (.cells #[.slice (some ⟨w.heap.size,0,none⟩) 1 1] 22)):=(ar).alloc ag _;have hX0:ir (w.heap.size+1) ((w.alloc (.cells #[.int .u8 0] 5)).alloc (.cells #[.slice (some ⟨w.heap.size,0,none⟩) 1 1] 22)) (.slice (some ⟨w.heap.size,0,none⟩) 1 1):=by have h:=heap_alloc_last (w.alloc (.cells #[.int .u8 0] 5)) (.cells #[.slice (some ⟨w.heap.size,0,none⟩) 1 1] 22);rw[World.size_alloc]at h;exact h
 have hO0:Own w.heap.size ((w.alloc (.cells #[.int .u8 0] 5)).alloc (.cells #[.slice (some ⟨w.heap.size,0,none⟩) 1 1] 22)) (.slice (some ⟨w.heap.size,0,none⟩) 1 1) [0]:=(Own.lit w [0] (Nat.le_refl _) ag).alloc _;have H0:=ae (vg (w.heap.size+1) w.heap.size _ [0] l.length _ hX0 hO0 aa aa ag);have F9:=ae Fb;clear hX0 hO0 Fb;go_enter func21,ntmps21;go_wp2_with fail;refine H0.out.mono ?_;rintro e w1 ⟨v1,rfl,jA,xa,az,_⟩;have a7:Hid (Below w.heap.size w w1):=ae (F9.out.trans az);have ao7:Own w.heap.size w1 v1 (jY l.length):=xa;clear H0 az xa;go_wp2_with fail;go_loopw [17] (fun i wr=> ∃(j:Nat) (v:Value),j≤l.length∧i= .int .i64 (j:Nat)∧Hid ((l.take j).all jZ=true)∧Hid (ir (w.heap.size+1) wr v)∧Hid (Own w.heap.size wr v (jY l.length++jr (l.take j)))∧Hid (Below w.heap.size w wr)) (fun i _=>l.length-(intOf i).toNat);case atStart=>exact⟨0,v1,aa,rfl,rfl,ae jA,ae (by simpa [jr]using ao7),a7⟩
 case round=>
  obtain⟨j,v,hj,rfl,dp,M3,HOW,tU⟩:=hrel;by_cases ub:j<l.length
  ·have Dj:(j:Int)<(l.length:Int):=(by omega);obtain⟨b,off,rfl,hb,eS⟩:=hB.addr aa;have hcj:=eS j ub;have mv:l.take (j+1)=l.take j++[l[j]]:=(by rw[List.take_succ_eq_append_getElem ub]);have hrj:=hr l[j] (List.getElem_mem ub);have Y0:=ae (fun h=>Zj l j ub h);generalize l[j]=r at*;obtain⟨n1,n2⟩:=r;obtain⟨r1,r2,r3,r4⟩: -9223372036854775808≤n1∧n1≤9223372036854775807∧ -9223372036854775808≤n2∧n2≤9223372036854775807:=hrj;have k1:wr.cell? ⟨b,off+j*2,none⟩=some (.int .i64 n1):=(tU.out.cell (p:=⟨b,off+j*2,none⟩) hb).trans hcj.1;have k2:wr.cell? ⟨b,off+j*2+1,none⟩=some (.int .i64 n2):=(tU.out.cell (p:=⟨b,off+j*2+1,none⟩) hb).trans hcj.2;have HU:=ae (fun w'=>we n1 w' r1 r2);have hwz:=tU.out.size;have vw:Below w.heap.size w (wr.alloc (.cells #[.int .i64 n1,.int .i64 n2] 51)):=tU.out.alloc hwz _;have hxA:ir (w.heap.size+1) (wr.alloc (.cells #[.int .i64 n1,.int .i64 n2] 51)) v:=M3.out.below (ar);have hoA:Own w.heap.size (wr.alloc (.cells #[.int .i64 n1,.int .i64 n2] 51)) v (jY l.length++jr (l.take j)):=HOW.out.alloc _;have hA1:wr.heap.size<(wr.alloc (.cells #[.int .i64 n1,.int .i64 n2] 51)).heap.size:=ag;have Qe:(wr.alloc (.cells #[.int .i64 n1,.int .i64 n2] 51)).cell? ⟨wr.heap.size,0,none⟩=some (.int .i64 n1):=ag;have Lj:(wr.alloc (.cells #[.int .i64 n1,.int .i64 n2] 51)).cell? ⟨wr.heap.size,1,none⟩=some (.int .i64 n2):=ag;have HA:=ae (And.intro vw (And.intro hxA (And.intro hoA (And.intro Qe Lj))));clear eS hcj vw hxA hoA Qe Lj hA1;by_cases h5:iw n1=true;case neg=>have h5f:iw n1=false:=(by simpa using h5);rw[h5f]at HU;have va:l.all jZ=false:=Y0.out (by simp[jZ,h5f]);clear h5 h5f mv;go_wp2_with fail;refine(HU.out _).mono ?_;rintro e _ ⟨rfl,rfl⟩;go_wp2_with fail;go_ret2;exact .inr ⟨va,rfl,HA.out.1⟩
   by_cases h6:0≤n2;case neg=>have va:l.all jZ=false:=Y0.out (by simp[jZ];intro _;omega);have h6n:n2<0:=aa;rw[h5]at HU;clear h5 h6 mv;go_wp2_with fail;refine(HU.out _).mono ?_;rintro e _ ⟨rfl,rfl⟩;go_wp2_with fail;go_ret2;exact .inr ⟨va,rfl,HA.out.1⟩
   have h1:5≤n1:=by
    by_cases h:5≤n1;·exact h
    ·simp[iw,h]at h5
   obtain⟨m1,rfl⟩:=Int.eq_ofNat_of_zero_le (show 0≤n1 by omega);obtain⟨m2,rfl⟩:=Int.eq_ofNat_of_zero_le h6;have lW:jZ ((m1:Int),(m2:Int))=true:=(by simp[jZ,h5]);rw[h5]at HU;have hLe:=(nK l.length).2;have hRe:=pK (l.take j);have Z1:(l.take j).length≤j:=av;have Z0:=ae (vg (w.heap.size+1) w.heap.size v (jY l.length++jr (l.take j)) m1 _ HA.out.2.1 HA.out.2.2.1 aa aa sm);have nR:=ae (fun(v':Value) (w':World) (hx:ir (w.heap.size+1) w' v') (ho:Own w.heap.size w' v' (jY l.length++jr (l.take j)++Vl.put 9 m1))=>vg (w.heap.size+1) w.heap.size v' _ m2 w' hx ho aa aa (by
    have:=(Vl.cN 9 m1).2;simp only[List.length_append];omega))
   clear hLe hRe Z1 h5 h6 h1;go_wp2_with fail;refine(HU.out _).mono ?_;rintro e _ ⟨rfl,rfl⟩;go_wp2_with fail;refine Z0.out.mono ?_;rintro e w2 ⟨v2,rfl,fL,el,aD,l6⟩;have mY:w2.heap[wr.heap.size]? =(wr.alloc (.cells #[.int .i64 (m1:Int),.int .i64 (m2:Int)] 51)).heap[wr.heap.size]? :=l6 wr.heap.size ag (fun e=>am M3.out.lt) (fun e=>by have:=(HOW.out.ax _ e).2;omega);have Qe:w2.cell? ⟨wr.heap.size,0,none⟩=some (.int .i64 (m1:Int)):=(World.cell?_of_block (a:=⟨wr.heap.size,0,none⟩) mY).trans HA.out.2.2.2.1;have Lj:w2.cell? ⟨wr.heap.size,1,none⟩=some (.int .i64 (m2:Int)):=(World.cell?_of_block (a:=⟨wr.heap.size,1,none⟩) mY).trans HA.out.2.2.2.2;have apa:=ae (nR.out v2 w2 fL el);have dW:=ae (HA.out.1.trans aD);clear mY aD l6 fL el;go_wp2_with fail;refine apa.out.mono ?_;rintro e w3 ⟨v3,rfl,rz,fE,bA,_⟩;have aiu:(l.take (j+1)).all jZ=true:=(by rw[mv,List.all_append,dp.out];simp[lW]);have ab1:Own w.heap.size w3 v3 (jY l.length++jr (l.take (j+1))):=(by rw[mv,PJ];simp only[←List.append_assoc]at fE ⊢;exact fE);go_wp2_with fail;exact⟨⟨j+1,v3,aa,aE,ae aiu,ae rz,ae ab1,ae (dW.out.trans bA)⟩,jb⟩
  ·obtain rfl:j=l.length:=(by omega);rw[List.take_length]at dp HOW;have Bn:Hid (ew l=jY l.length++jr l):=ae rfl;rw[←Bn.out]at HOW;have HR:=ae (show gi l=di (ew l)++eL (di (ew l))from rfl);have VL:=ae (show di (ew l)=ew l++List.replicate (aO (ew l).length) 0 from rfl);have hlen:0<(ew l).length∧(ew l).length≤2000100:=(by have h1:=nK l.length;have h2:=pK l;simp only[ew,List.length_append];omega);have HZ:=ae (fun w'=>Hf (ew l).length w' aa);have YP:aO (ew l).length<4:=pN;generalize aO (ew l).length=Z at*;generalize hBD:ew l=BD at*;generalize hPD:di BD=PD at*;have acR:Hid (PD.length=BD.length+Z):=ae (by rw[VL.out];simp);have⟨TP,hTP⟩:=ex (BD.length+Z:Nat);have At:Hid (BD.length+Z=TP):=ae hTP;have Q2:Hid ((BD++List.replicate Z (0:UInt8)).length=TP):=ae (by rw[List.length_append,List.length_replicate];exact hTP);have ax1:TP≤2000110:=aa;obtain⟨A1,c1,rfl,cC,i9,_⟩:=HOW.out.read;have PN:Hid (ir (w.heap.size+1) wr.drew (.slice A1 BD.length c1)):=ae M3.out;have hcw:=M3.out.cell;have Ie:=ae hlen.1;have Qr:Hid (Z≤1000000):=ae aa;have sM:Hid (BD.length+Z≤140737488355328):=ae aa;have HZS:Hid (w.heap.size≤wr.drew.heap.size):=ae tU.out.size;have bw:Below w.heap.size w wr.drew:=tU.out.trans ((bg wr).mono tU.out.size);clear Bn hlen YP;go_wp2_with fail;refine wp_region_held_drew (S:=fun w'=>Below w.heap.size w w') ai bw (fun hS=> ?_);refine wpAnyH_ready (rs:=[0,1]) ai ag ?_;refine(AllReadyH.cons rfl (fun K hK=> ?_) (AllReadyH.cons rfl (fun K hK=> ?_) AllReadyH.nil))
   ·skip;go_simp;refine hK.out _ _ bw (fun _=> ?_);clear hK K;refine aC 1 (fun K hK=> ?_);go_simp;refine hK.out _ _ bw (fun _=> ?_);clear hK K;refine af 2 bw (h:= ?_);refine aC 3 (fun K hK=> ?_);go_simp;refine(HZ.out wr.drew).mono ?_;rintro e _ ⟨rfl,rfl⟩;go_wp2_with fail;refine hK.out _ _ bw (fun _=> ?_);clear hK K;refine aC 4 (fun K hK=> ?_);refine iK rfl (.tmp 41) (.tmp 44) rfl w.heap.size wr.drew _ BD rfl HOW.out Ie.out Z rfl Qr.out sM.out HZS.out ?_;intro v2 w2 el gI;have g2:Below w.heap.size w w2:=ao bw gI HZS.out (fun g e=>(HOW.out.ax g e).1);have fL:ir (w.heap.size+1) w2 _:=ir.grown (w:=wr.drew) PN.out gI (fun e=>ir.ne (w:=wr.drew) PN.out HOW.out e);obtain⟨A2,c2,rfl,cU,fJ,fC⟩:=el.read;have wE:=fL.cell;have Kf:=fL.frozen;rw[Q2.out]at el cU ⊢;refine dM ?_;refine hK.out _ _ g2 (fun _=> ?_);clear hK K;refine aC 5 (fun K hK=> ?_);go_simp;have g3:Below w.heap.size w (w2.setCell ⟨w.heap.size+1,0,none⟩ (.slice A2 TP c2)):=Below.setCell (p:=⟨w.heap.size+1,0,none⟩) g2 ua _;refine hK.out _ _ g3 (fun _=> ?_);clear hK K;refine wpAnyH_done ai ?_ _;have rz:=fL.set (.slice A2 TP c2);have fE:=el.rO fL (.slice A2 TP c2);rw[←VL.out]at fE;generalize w2.setCell ⟨w.heap.size+1,0,none⟩ (.slice A2 TP c2)=w3 at rz fE g3 ⊢;have Ae:PD.length=TP:=acR.out.trans At.out;clear el gI fL fC wE Kf cU;rw[←Ae]at fE;obtain⟨A3,c3,Wm,oj,EX,ln⟩:=fE.read;obtain⟨rfl,rfl⟩:A2=A3∧c2=c3:=Dh;rw[Ae]at fE;have HS:=ae (show ∀w',Bytes w' A2 PD→Calls prog 39 #[.int .i64 1,.slice A2 TP c2] w' (bF w' (eL PD))from fun w' h=>by
     have:=mL A2 PD c2 w' h aa EX;rwa [Ae]at this)
    have vV:Below w3.heap.size w3 w3.drew:=bg w3;have Vi:Below w.heap.size w w3.drew:=aM g3 vV;have XD:Hid (ir (w.heap.size+1) w3.drew (.slice A2 TP c2)):=ae rz;clear Wm;go_wp2_with fail;refine wp_region_held_drew (S:=fun w'=>ir (w.heap.size+1) w' (.slice A2 TP c2)∧Below w.heap.size w w') ai ⟨XD.out,Vi⟩ (fun hS=> ?_);refine cw 0 rfl (fun w hSw=>ly) hS (h:=cw 1 rfl (fun w hSw=>ly) hS (h:= ?_));refine aC 2 (fun K hK=> ?_);go_simp;refine(HS.out w3.drew (ln.below vV)).mono ?_;rintro e w4 ⟨A4,c4,rfl,qE,mS,uw,bm⟩;have g4:Below w3.heap.size w3 w4:=aM vV bm;have vu:=rz.below g4;have cY:=fE.below g4;have tN:=aM g3 g4;go_wp2_with fail;refine hK.out _ _ ⟨vu,tN⟩ (fun _=> ?_);clear hK K;refine aC 3 (fun K hK=> ?_);refine iI rfl (.tmp 46) (.tmp 48) rfl w.heap.size w4 (.slice A2 TP c2) PD rfl cY A4 (eL PD) c4 rfl uw (am (bX PD)) tN.size ?_;intro v5 w5 lZ je;have Es:=vu.grown je (fun e=>vu.ne cY e);have g5:Below w.heap.size w w5:=ao tN je tN.size (fun g e=>(cY.ax g e).1);refine dM ?_;refine hK.out _ _ ⟨Es,g5⟩ (fun _=> ?_);clear hK K;refine aC 4 (fun K hK=> ?_);go_simp;refine hK.out _ _ ⟨Es,g5⟩ (fun _=> ?_);clear hK K;refine aC 5 (fun K hK=> ?_);go_simp;refine hK.out _ _ ⟨Es,g5⟩ (fun _=> ?_);clear hK K;refine wpAnyH_done ai ?_ _;go_wp2_with fail;go_ret2;exact .inl ⟨dp.out,_,rfl,by rw[HR.out];exact lZ,g5⟩
   ·skip;go_simp;refine hK.out _ _ bw (fun _=> ?_);clear hK K;refine af 2 bw (h:= ?_);refine wpAnyH_ready (rs:=[0,3]) ai ag ?_;refine(AllReadyH.cons rfl (fun K hK=> ?_) (AllReadyH.cons rfl (fun K hK=> ?_) AllReadyH.nil))
    ·skip;go_simp;refine hK.out _ _ bw (fun _=> ?_);clear hK K;refine aC 3 (fun K hK=> ?_);go_simp;refine(HZ.out wr.drew).mono ?_;rintro e _ ⟨rfl,rfl⟩;go_wp2_with fail;refine hK.out _ _ bw (fun _=> ?_);clear hK K;refine aC 4 (fun K hK=> ?_);refine iK rfl (.tmp 41) (.tmp 44) rfl w.heap.size wr.drew _ BD rfl HOW.out Ie.out Z rfl Qr.out sM.out HZS.out ?_;intro v2 w2 el gI;have g2:Below w.heap.size w w2:=ao bw gI HZS.out (fun g e=>(HOW.out.ax g e).1);have fL:ir (w.heap.size+1) w2 _:=ir.grown (w:=wr.drew) PN.out gI (fun e=>ir.ne (w:=wr.drew) PN.out HOW.out e);obtain⟨A2,c2,rfl,cU,fJ,fC⟩:=el.read;have wE:=fL.cell;have Kf:=fL.frozen;rw[Q2.out]at el cU ⊢;refine dM ?_;refine hK.out _ _ g2 (fun _=> ?_);clear hK K;refine aC 5 (fun K hK=> ?_);go_simp;have g3:Below w.heap.size w (w2.setCell ⟨w.heap.size+1,0,none⟩ (.slice A2 TP c2)):=Below.setCell (p:=⟨w.heap.size+1,0,none⟩) g2 ua _;refine hK.out _ _ g3 (fun _=> ?_);clear hK K;refine wpAnyH_done ai ?_ _;have rz:=fL.set (.slice A2 TP c2);have fE:=el.rO fL (.slice A2 TP c2);rw[←VL.out]at fE;generalize w2.setCell ⟨w.heap.size+1,0,none⟩ (.slice A2 TP c2)=w3 at rz fE g3 ⊢;have Ae:PD.length=TP:=acR.out.trans At.out;clear el gI fL fC wE Kf cU;rw[←Ae]at fE;obtain⟨A3,c3,Wm,oj,EX,ln⟩:=fE.read;obtain⟨rfl,rfl⟩:A2=A3∧c2=c3:=Dh;rw[Ae]at fE;have HS:=ae (show ∀w',Bytes w' A2 PD→Calls prog 39 #[.int .i64 1,.slice A2 TP c2] w' (bF w' (eL PD))from fun w' h=>by
      have:=mL A2 PD c2 w' h aa EX;rwa [Ae]at this)
     have vV:Below w3.heap.size w3 w3.drew:=bg w3;have Vi:Below w.heap.size w w3.drew:=aM g3 vV;have XD:Hid (ir (w.heap.size+1) w3.drew (.slice A2 TP c2)):=ae rz;clear Wm;go_wp2_with fail;refine wp_region_held_drew (S:=fun w'=>ir (w.heap.size+1) w' (.slice A2 TP c2)∧Below w.heap.size w w') ai ⟨XD.out,Vi⟩ (fun hS=> ?_);refine cw 0 rfl (fun w hSw=>ly) hS (h:=cw 1 rfl (fun w hSw=>ly) hS (h:= ?_));refine aC 2 (fun K hK=> ?_);go_simp;refine(HS.out w3.drew (ln.below vV)).mono ?_;rintro e w4 ⟨A4,c4,rfl,qE,mS,uw,bm⟩;have g4:Below w3.heap.size w3 w4:=aM vV bm;have vu:=rz.below g4;have cY:=fE.below g4;have tN:=aM g3 g4;go_wp2_with fail;refine hK.out _ _ ⟨vu,tN⟩ (fun _=> ?_);clear hK K;refine aC 3 (fun K hK=> ?_);refine iI rfl (.tmp 46) (.tmp 48) rfl w.heap.size w4 (.slice A2 TP c2) PD rfl cY A4 (eL PD) c4 rfl uw (am (bX PD)) tN.size ?_;intro v5 w5 lZ je;have Es:=vu.grown je (fun e=>vu.ne cY e);have g5:Below w.heap.size w w5:=ao tN je tN.size (fun g e=>(cY.ax g e).1);refine dM ?_;refine hK.out _ _ ⟨Es,g5⟩ (fun _=> ?_);clear hK K;refine aC 4 (fun K hK=> ?_);go_simp;refine hK.out _ _ ⟨Es,g5⟩ (fun _=> ?_);clear hK K;refine aC 5 (fun K hK=> ?_);go_simp;refine hK.out _ _ ⟨Es,g5⟩ (fun _=> ?_);clear hK K;refine wpAnyH_done ai ?_ _;go_wp2_with fail;go_ret2;exact .inl ⟨dp.out,_,rfl,by rw[HR.out];exact lZ,g5⟩
    ·skip;go_simp;refine(HZ.out wr.drew).mono ?_;rintro e _ ⟨rfl,rfl⟩;go_wp2_with fail;refine hK.out _ _ bw (fun _=> ?_);clear hK K;refine aC 0 (fun K hK=> ?_);go_simp;refine hK.out _ _ bw (fun _=> ?_);clear hK K;refine aC 4 (fun K hK=> ?_);refine iK rfl (.tmp 41) (.tmp 44) rfl w.heap.size wr.drew _ BD rfl HOW.out Ie.out Z rfl Qr.out sM.out HZS.out ?_;intro v2 w2 el gI;have g2:Below w.heap.size w w2:=ao bw gI HZS.out (fun g e=>(HOW.out.ax g e).1);have fL:ir (w.heap.size+1) w2 _:=ir.grown (w:=wr.drew) PN.out gI (fun e=>ir.ne (w:=wr.drew) PN.out HOW.out e);obtain⟨A2,c2,rfl,cU,fJ,fC⟩:=el.read;have wE:=fL.cell;have Kf:=fL.frozen;rw[Q2.out]at el cU ⊢;refine dM ?_;refine hK.out _ _ g2 (fun _=> ?_);clear hK K;refine aC 5 (fun K hK=> ?_);go_simp;have g3:Below w.heap.size w (w2.setCell ⟨w.heap.size+1,0,none⟩ (.slice A2 TP c2)):=Below.setCell (p:=⟨w.heap.size+1,0,none⟩) g2 ua _;refine hK.out _ _ g3 (fun _=> ?_);clear hK K;refine wpAnyH_done ai ?_ _;have rz:=fL.set (.slice A2 TP c2);have fE:=el.rO fL (.slice A2 TP c2);rw[←VL.out]at fE;generalize w2.setCell ⟨w.heap.size+1,0,none⟩ (.slice A2 TP c2)=w3 at rz fE g3 ⊢;have Ae:PD.length=TP:=acR.out.trans At.out;clear el gI fL fC wE Kf cU;rw[←Ae]at fE;obtain⟨A3,c3,Wm,oj,EX,ln⟩:=fE.read;obtain⟨rfl,rfl⟩:A2=A3∧c2=c3:=Dh;rw[Ae]at fE;have HS:=ae (show ∀w',Bytes w' A2 PD→Calls prog 39 #[.int .i64 1,.slice A2 TP c2] w' (bF w' (eL PD))from fun w' h=>by
      have:=mL A2 PD c2 w' h aa EX;rwa [Ae]at this)
     have vV:Below w3.heap.size w3 w3.drew:=bg w3;have Vi:Below w.heap.size w w3.drew:=aM g3 vV;have XD:Hid (ir (w.heap.size+1) w3.drew (.slice A2 TP c2)):=ae rz;clear Wm;go_wp2_with fail;refine wp_region_held_drew (S:=fun w'=>ir (w.heap.size+1) w' (.slice A2 TP c2)∧Below w.heap.size w w') ai ⟨XD.out,Vi⟩ (fun hS=> ?_);refine cw 0 rfl (fun w hSw=>ly) hS (h:=cw 1 rfl (fun w hSw=>ly) hS (h:= ?_));refine aC 2 (fun K hK=> ?_);go_simp;refine(HS.out w3.drew (ln.below vV)).mono ?_;rintro e w4 ⟨A4,c4,rfl,qE,mS,uw,bm⟩;have g4:Below w3.heap.size w3 w4:=aM vV bm;have vu:=rz.below g4;have cY:=fE.below g4;have tN:=aM g3 g4;go_wp2_with fail;refine hK.out _ _ ⟨vu,tN⟩ (fun _=> ?_);clear hK K;refine aC 3 (fun K hK=> ?_);refine iI rfl (.tmp 46) (.tmp 48) rfl w.heap.size w4 (.slice A2 TP c2) PD rfl cY A4 (eL PD) c4 rfl uw (am (bX PD)) tN.size ?_;intro v5 w5 lZ je;have Es:=vu.grown je (fun e=>vu.ne cY e);have g5:Below w.heap.size w w5:=ao tN je tN.size (fun g e=>(cY.ax g e).1);refine dM ?_;refine hK.out _ _ ⟨Es,g5⟩ (fun _=> ?_);clear hK K;refine aC 4 (fun K hK=> ?_);go_simp;refine hK.out _ _ ⟨Es,g5⟩ (fun _=> ?_);clear hK K;refine aC 5 (fun K hK=> ?_);go_simp;refine hK.out _ _ ⟨Es,g5⟩ (fun _=> ?_);clear hK K;refine wpAnyH_done ai ?_ _;go_wp2_with fail;go_ret2;exact .inl ⟨dp.out,_,rfl,by rw[HR.out];exact lZ,g5⟩
theorem PO(n:Nat)(more:List UInt8)(h:n<9223372036854775808):Vl.get (Vl.put 9 n++more)=(n,(Vl.put 9 n).length,0):=by
 have h9:n<128^9:=by rw[show(128:Nat)^9=9223372036854775808 by decide];exact h
 have e:Vl.put 9 n=Vl.put 8 n:=by
  have key: ∀(f m:Nat),m<128^(f+1)→Vl.put (f+1) m=Vl.put f m:=by
   intro f;induction f with
   | zero=>intro m hm;rw[Vl.du rf,Vl.du rf]
   | succ f ih=>
    intro m hm;by_cases hs:m<128;·rw[Vl.du hs,Vl.du hs]
    ·rw[Vl.lM hs,Vl.lM hs,ih (m/128) (by rw[Nat.div_lt_iff_lt_mul aa];rw[Nat.pow_succ]at hm;exact hm)]
  exact key 8 n h9
 have:=Vl.KM (Vl.put 9 n++more) more 8 n 0 9 (by rw[e];rfl) h9 aa aa;unfold Vl.get;rw[this,e];simp[Vl.num]
theorem Ag{l more:List UInt8}(h:n<9223372036854775808)(hd:l.drop k=Vl.put 9 n++more):aS l k=(n,k+(Vl.put 9 n).length,0):=by unfold aS;rw[hd,PO n more h];rfl
theorem zk{l:List UInt8}{p:Nat}(hk:k≤l.length)(h:aS l k=(n,p,0)):k<p∧p≤l.length∧n<9223372036854775808∧l.take p=l.take k++Vl.put 9 n:=by
 have hc:=fS l k hk;rw[h]at hc;rcases hc with⟨_,h2,h3,h4⟩ | ⟨h1,_⟩ | ⟨h1,_⟩
 ·have h2':k<p:=h2;have h3':p≤l.length:=h3;have h4':n<9223372036854775808:=h4;refine⟨h2',h3',h4',?_⟩;unfold aS at h;by_cases h6:(Vl.get (l.drop k)).2.2=6;·rw[if_pos h6]at h;simp at h
  ·rw[if_neg h6]at h;simp only[Prod.mk.injEq]at h;obtain⟨e1,e2,e3⟩:=h;rcases hq:Vl.get (l.drop k)with⟨N,m,er⟩
   rw[hq]at e1 e2 e3;obtain rfl:N=n:=e1;obtain rfl:er=0:=e3;have e2':k+m=p:=e2;obtain⟨M,g1,g2,g3,g4,_⟩:=Vl.UU (l.drop k) 9 0 N m hq;have hNM:N=M:=(by rw[g1];simp[Vl.num]);rw[hNM,g4,←e2',List.take_add];simp
 ·cases h1
 ·cases h1
theorem Hh(l:List UInt8): ∀(rs:List (Int×Int)) (k:Nat) (acc:List (Int×Int)) (more:List UInt8),rs.all jZ=true→(∀r∈rs,Vh r)→l.drop k=jr rs++more→gE l rs.length k acc=(acc++rs,k+(jr rs).length,0)
 | [],k,acc,more,_,_,_=>by simp[gE,jr]
 | (a,b)::rs,k,acc,more,dp,hI,hd=>by
  rw[List.all_cons,Bool.and_eq_true]at dp;obtain⟨h1,h2⟩:=dp;have hi:Vh (a,b):=hI (a,b) ag;obtain⟨i1,i2,i3,i4⟩: -9223372036854775808≤a∧a≤9223372036854775807∧ -9223372036854775808≤b∧b≤9223372036854775807:=hi;have S_:iw a=true∧0≤b:=by simpa [jZ]using h1
  have ha5:5≤a:=by
   by_cases h:5≤a;·exact h
   ·have:=S_.1;simp[iw,h]at this
  obtain⟨m1,rfl⟩:=Int.eq_ofNat_of_zero_le (show 0≤a by omega);obtain⟨m2,rfl⟩:=Int.eq_ofNat_of_zero_le S_.2;have hrc:jr (((m1:Int),(m2:Int))::rs)=Vl.put 9 m1++(Vl.put 9 m2++jr rs):=by simp[jr]
  rw[hrc]at hd ⊢;have FC:=Ag (l:=l) (k:=k) (n:=m1) (more:=Vl.put 9 m2++jr rs++more) aa (by rw[hd];simp);have jz:l.drop (k+(Vl.put 9 m1).length)=Vl.put 9 m2++(jr rs++more):=by rw[←List.drop_drop,hd,List.append_assoc,List.drop_left,List.append_assoc]
  have qt:=Ag (l:=l) (n:=m2) aa jz;have vV:l.drop (k+(Vl.put 9 m1).length+(Vl.put 9 m2).length)=jr rs++more:=by rw[←List.drop_drop,jz,List.drop_left]
  rw[List.length_cons,pJ,FC,if_neg (fun h=>h rfl)];simp only[];rw[S_.1,if_neg ag,qt,if_neg (fun h=>h rfl)];simp only[];rw[Hh l rs _ _ more h2 (fun r hr=>hI r (by simp[hr])) vV];simp only[List.append_assoc,List.length_append,List.cons_append,List.nil_append,Prod.mk.injEq,true_and,and_true];omega
theorem Vj(l:List UInt8): ∀(z a:Nat) (more:List UInt8),l.drop a=List.replicate z 0++more→zr l z a=(a+z,0)
 | 0,a,_,_=>rfl
 | z+1,a,more,h=>by
  have aH: ¬l.length≤a:=by intro h2;rw[List.drop_eq_nil_of_le h2]at h;simp[List.replicate_succ]at h
  have hg:l.getD a 0=0:=by have:(l.drop a)[0]? =some 0:=(by rw[h];rfl);rw[List.getElem?_drop]at this;simp only[Nat.add_zero]at this;rw[List.getD_eq_getElem?_getD,this];rfl
  have hd:l.drop (a+1)=List.replicate z 0++more:=by have:l.drop (a+1)=(l.drop a).drop 1:=(by rw[List.drop_drop]);rw[this,h];rfl
  rw[zr,if_neg aH,if_neg (fun h=>h hg),Vj l z (a+1) more hd];congr 1;omega
theorem Zk(body behind:List UInt8):lr (di body++eL (di body)++behind) body.length=((di body).length+4,0):=by
 have hz:=Vj (di body++eL (di body)++behind) (aO body.length) body.length (eL (di body)++behind) (by
  simp only[di,List.append_assoc];rw[List.drop_left])
 have hl:(di body).length=body.length+aO body.length:=by simp[di]
 unfold lr;rw[hz,if_neg (fun h=>h rfl)];simp only[];rw[←hl];have h4:=bX (di body);unfold KX;rw[if_neg sm];have hp:part (di body++eL (di body)++behind) (di body).length 4=eL (di body):=by unfold part;rw[List.append_assoc,List.drop_left,←h4,List.take_left]
 have ht:(di body++eL (di body)++behind).take (di body).length=di body:=by rw[List.append_assoc,List.take_left]
 rw[hp,ht,if_neg ag]
theorem Vk(l:List (Int×Int))(behind:List UInt8)(hl:l.length≤1000000)(dp:l.all jZ=true)(hI: ∀r∈l,Vh r):tL (gi l++behind)=(l,(gi l).length,0):=by
 have hb:gi l++behind=0::(Vl.put 9 l.length++(jr l++(List.replicate (aO (ew l).length) 0++(eL (di (ew l))++behind)))):=by simp[gi,di,ew,jY]
 have hn:=Ag (l:=gi l++behind) (k:=1) (n:=l.length) aa (by rw[hb];rfl);have hd:(gi l++behind).drop (1+(Vl.put 9 l.length).length)=jr l++(List.replicate (aO (ew l).length) 0++(eL (di (ew l))++behind)):=by rw[hb,Nat.add_comm,List.drop_succ_cons,List.drop_left]
 have hr:=Hh (gi l++behind) l _ [] _ dp hI hd;have CR:gQ (gi l++behind) 1=(l,(ew l).length,0):=by unfold gQ;rw[hn,if_neg (fun h=>h rfl)];simp only[];rw[hr];simp only[List.nil_append,ew,jY,List.length_append,List.length_cons,Prod.mk.injEq,true_and,and_true];omega
 have he:lr (gi l++behind) (ew l).length=((di (ew l)).length+4,0):=Zk (ew l) behind;unfold tL;rw[if_neg (by rw[hb];simp),if_neg (by rw[hb];simp),CR,if_neg (fun h=>h rfl)];simp only[];rw[he,if_neg (fun h=>h rfl)];have h4:=bX (di (ew l));simp only[gi,List.length_append,h4]
end Go.Proofs.YtfcaoggfnkhfiaaGreatDoor
