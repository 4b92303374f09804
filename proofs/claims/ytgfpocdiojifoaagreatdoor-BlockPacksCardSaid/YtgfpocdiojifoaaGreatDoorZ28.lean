import Derived.Test.YtgfpocdiojifoaaGreatDoorZ18
import Derived.Deep.Slices
import Derived.Deep.Fields
import Derived.ChangeSame
import Derived.Lib.SmallJoins
import Derived.Test.YtgfpocdiojifoaaGreatDoorZ26
import Derived.Test.YtgfpocdiojifoaaGreatDoorZ27
import Derived.Deep.RegionHeld3
namespace Go.Proofs.YtgfpocdiojifoaaGreatDoor
set_option maxRecDepth 100000
set_option maxHeartbeats 8000000
open Go.RowKit Go.Proofs.Tryz
variable{l:List UInt8}{N R X b g i:Nat}{t:TypeId}{u x y:Value}{W W' w w':World}
structure Op where
 lc:Int
 lp:Int
 pb:Int
 nice:Int
 chunk:Int
 block:Int
 check:Int
 A:Option Addr
 l:List bA
 c:Nat
 dict:Nat
abbrev Op.ch(o:Op):Value:= .slice o.A o.l.length o.c
abbrev Op.v(o:Op):Value:=wV o.lc o.lp o.pb o.nice o.chunk o.block o.check o.ch o.dict
def Op.sJ(o:Op):Bool:=jE o.lc o.lp o.pb o.nice o.chunk o.dict&&jg o.l&&eD o.check
structure zr(w:World)(o:Op):Prop where
 CD:dX w o.A o.l
 lc:o.l.length≤o.c
 c:o.c≤9223372036854775807
 dict:o.dict<4294967296
 few:o.l.length≤20
theorem zr.below{o:Op}(h:zr w o)(hb:Below w.heap.size w w'):zr w' o:=⟨h.CD.below hb,h.lc,h.c,h.dict,h.few⟩
theorem gQ{o:Op}(h:W.heap[b]? =some (.cells (ip o.lc o.lp o.pb o.nice o.chunk o.block o.check o.ch o.dict).toArray 26 (0,0))):
  W.cell? ⟨b,0,none⟩=some (.int .i64 o.lc)∧W.cell? ⟨b,1,none⟩=some (.int .i64 o.lp)∧W.cell? ⟨b,2,none⟩=some (.int .i64 o.pb)∧W.cell? ⟨b,3,none⟩=some (.int .i64 o.nice)∧W.cell? ⟨b,4,none⟩=some (.int .i64 o.chunk)∧W.cell? ⟨b,5,none⟩=some (.int .i64 o.block)∧W.cell? ⟨b,6,none⟩=some (.int .i64 o.check)∧W.cell? ⟨b,7,none⟩=some o.ch∧W.cell? ⟨b,8,none⟩=some (.int .u32 (o.dict:Nat)):=by
 refine⟨?_,?_,?_,?_,?_,?_,?_,?_,?_⟩<;>(rw[cell_of_row W _ _ _ _ _ h];rfl)
theorem uv(n:Nat)(hn:n≤1000000000)(w:World):Calls prog 20 #[.int .i64 (n:Nat)] w fun e w'=>e= .returned (.int .i64 (bg n:Nat))∧w=w':=by have h:(4-(n:Int)%4)%4=((bg n:Nat):Int):=rj;have H:=hdd h;clear h;go_enter func20,ntmps20;go_wp2_with fail;go_ret;exact⟨by rw[←H.out];rfl,rfl⟩
theorem Jc(a:Int)(n:Nat)(hn:n≤1000000000)(w:World):Calls prog 68 #[.int .i64 a,.int .i64 (n:Nat)] w fun e w'=>e= .returned (.bool (decide (a<0)||a==(n:Int)))∧w=w':=by
 have hw:IntKind.i64.wrap (n:Int)=(n:Int):=IntWalk.i64_in _ aa;by_cases h:a<0;·go_enter func68,ntmps68;go_wp2_with fail;go_ret;exact⟨dS,rfl⟩
 ·go_enter func68,ntmps68;go_wp2_with fail;go_ret;exact⟨av,rfl⟩
theorem qL(o:Op)(w:World)(hO:zr w o):Calls prog 8 #[o.v] w (rM o.sJ w):=by
 have⟨W,hW⟩:=ex (w.alloc (.cells #[.int .i64 o.lc,.int .i64 o.lp,.int .i64 o.pb,.int .i64 o.nice,.int .i64 o.chunk,.int .i64 o.block,.int .i64 o.check,o.ch,.int .u32 (o.dict:Nat)] 26));obtain⟨aY,eO⟩:=ef (vs:=ip o.lc o.lp o.pb o.nice o.chunk o.block o.check o.ch o.dict) hW;have HC:=hdd (fun(W':World) (h:Below W.heap.size W W')=>gQ ((h.block _ (cr aY)).trans aY));obtain⟨k0,k1,k2,k3,k4,k5,k6,k7,k8⟩:=HC.out W (Below.refl _ _);have H1:=hdd (D3 o.lc o.lp o.pb o.nice o.chunk o.block o.check o.ch o.dict W);have H2:=hdd (fun(W':World) (h:Below W.heap.size W W')=>sj o.A o.l o.c W' ((hO.CD.below eO).below h) hO.few);have H3:=hdd (fun(W':World)=>yj o.check W');have HW:=hdd hW;have dV:=hdd eO;have HR:Hid (o.sJ=(jE o.lc o.lp o.pb o.nice o.chunk o.dict&&jg o.l&&eD o.check)):=hdd rfl;generalize jE o.lc o.lp o.pb o.nice o.chunk o.dict=b1 at*;generalize jg o.l=b2 at*;generalize eD o.check=b3 at*;generalize o.sJ=b at*;clear aY hW eO hO;cases b1 with
 | false=>
  go_enter func8,ntmps8;go_upto_region 1 with fail;rw[HW.out];go_wp2_with fail;refine H1.out.mono ?_;rintro e w1 ⟨rfl,aC⟩;have cu:=hdd aC;clear aC;go_wp2_with fail;go_ret;exact⟨by rw[HR.out];rfl,aO dV.out cu.out⟩
 | true=>
  cases b2 with
  | false=>
   go_enter func8,ntmps8;go_upto_region 1 with fail;rw[HW.out];go_wp2_with fail;refine H1.out.mono ?_;rintro e w1 ⟨rfl,aC⟩;have cu:=hdd aC;clear aC k0 k1 k2 k3 k4 k5 k6 k7 k8;obtain⟨k0,k1,k2,k3,k4,k5,k6,k7,k8⟩:=HC.out w1 cu.out;go_wp2_with fail;refine(H2.out w1 cu.out).mono ?_;rintro e w2 ⟨rfl,aE⟩;have dY:=hdd (aO cu.out aE);clear aE;go_wp2_with fail;go_ret;exact⟨by rw[HR.out];rfl,aO dV.out dY.out⟩
  | true=>
   go_enter func8,ntmps8;go_upto_region 1 with fail;rw[HW.out];go_wp2_with fail;refine H1.out.mono ?_;rintro e w1 ⟨rfl,aC⟩;have cu:=hdd aC;clear aC k0 k1 k2 k3 k4 k5 k6 k7 k8;obtain⟨k0,k1,k2,k3,k4,k5,k6,k7,k8⟩:=HC.out w1 cu.out;go_wp2_with fail;refine(H2.out w1 cu.out).mono ?_;rintro e w2 ⟨rfl,aE⟩;have dY:=hdd (aO cu.out aE);clear aE k0 k1 k2 k3 k4 k5 k6 k7 k8;obtain⟨k0,k1,k2,k3,k4,k5,k6,k7,k8⟩:=HC.out w2 dY.out;go_wp2_with fail;refine(H3.out w2).mono ?_;rintro e w3 ⟨rfl,aW⟩;have fc:=hdd (aO dY.out aW);clear aW;go_wp2_with fail;go_ret;exact⟨by rw[HR.out];rfl,aO dV.out fc.out⟩
section
open Go.ChangeShapes Go.WideShapes Go.ChangeAt Go.RowKit Go.Joins
theorem Ft:prog.cellsOf 84=2:=ak
theorem Fu(b o k:Nat):(⟨b,o,none⟩:Addr).add k=⟨b,o+k,none⟩:=by unfold Addr.add;split<;>simp_all
theorem Nr{H:Type}{enc:TypeId×Value→H}{W:World}{v:Value}{y:DataW H×List MemPlace}{n0:Nat}
  (hf:DataW.trod enc prog W 0 (fun _=>true) true n0 23 [v]=some y):
  ∃(A:Option Addr) (l:List bA) (c:Nat),v= .slice A l.length c∧l.length≤c∧c≤9223372036854775807∧dX W A l:=by
 rcases Go.Deep.open_slice underlying23 hf with⟨hcs,_⟩ | ⟨a,len,cap,m,n,D,Pl,hcs,_,hl,hm,KV,_,hi⟩
 ·injection hcs with hcs;subst hcs;exact⟨none,[],0,rfl,ae,aa,.inl rfl⟩
 ·injection hcs with hcs;subst hcs;simp only[if_true]at KV;unfold maxLen at hm;obtain⟨b,off,spot⟩:=a;have hsp:0<len→spot=none:=by intro vU;obtain⟨cs',hc,_⟩:=hi 0 aa;rw[Ft]at hc;obtain⟨_,pG,bx⟩:=World.cells?_some hc;have:=World.cell?_spot ((bx 0 aa).trans (List.getElem?_eq_getElem aa));simpa [Addr.add]using this
  have key: ∀i,i<len→spot=none∧b<W.heap.size∧ ∃f,Ao W b (off+i*2) f:=by
   intro i hil;obtain⟨cs',hc,ht⟩:=hi i aa;rw[Ft]at hc;obtain⟨_,pG,bx⟩:=World.cells?_some hc;obtain⟨ys,n',_,_,_,YU,hf⟩:=DataW.trod_struct underlying84 ht;have nd: ∀j,j<2→ys[j]?.isSome=true:=fun j hj=>(by rw[List.getElem?_eq_getElem (by rw[YU];exact hj)];rfl);obtain⟨z0,e0,w0⟩:=eS (j:=0) underlying3 aa (nd 0 aa) (hf 0 _ rfl);obtain⟨z1,e1,w1⟩:=eS (j:=1) underlying24 aa (nd 1 aa) (hf 1 _ rfl);have Ov:spot=none:=hsp aa;subst Ov;have Bp: ∀j,((⟨b,off,none⟩:Addr).add (i*2)).add j=⟨b,off+i*2+j,none⟩:=(by intro j;rw[Fu,Fu]);have h0:=(bx 0 aa).trans e0;have h1:=(bx 1 aa).trans e1;rw[Bp]at h0 h1;have hz:=Dn w0;refine⟨rfl,?_,⟨z0,(BitVec.ofNat 32 z1.toNat).toNat⟩,h0,?_,hz.1,hz.2,(BitVec.ofNat 32 z1.toNat).isLt⟩;·exact block_lt_of_cell h0
   ·rw[←JM w1];exact h1
  refine⟨some ⟨b,off,spot⟩,(List.range len).map (fun i=>if h:i<len then Classical.choose (key i h).2.2 else⟨0,0⟩),cap,ae,by simpa using hl,hm,?_⟩;rcases Nat.eq_zero_or_pos len with h0 | vU;·subst h0;exact .inl rfl
  ·obtain⟨rfl,hb,_⟩:=key 0 vU;refine .inr ⟨b,off,rfl,hb,fun i hil=> ?_⟩;have afL:i<len:=(by simpa using hil);have:=Classical.choose_spec (key i afL).2.2;rw[List.getElem_map,List.getElem_range,dif_pos afL];exact this
theorem Jd{H:Type}{enc:TypeId×Value→H}{W:World}{b0:Nat}{v:Value}{d:DataW H}{p:List MemPlace}
  (hval:Value.okWide prog W .any b0 26 v) (h:DataW.Trod enc prog W 0 (fun _=>true) true 26 v d p):
  ∃o:Op,v=o.v∧dX W o.A o.l∧(∀f∈o.l,f.ok)∧o.l.length≤o.c∧o.c≤9223372036854775807∧o.dict<4294967296:=by
 obtain⟨cs,rfl,dJ⟩:=okWide_struct underlying26 hval;rw[P0]at dJ;obtain⟨a,b,c,d',e,f,g,i,j,hl⟩:=adn (l:=cs.toList) (by simpa using dJ);obtain⟨fuel,hf⟩:=h;obtain⟨ys,n',_,_,_,YU,Wv⟩:=DataW.trod_struct underlying26 hf;have nd: ∀j,j<9→ys[j]?.isSome=true:=fun j hj=>by rw[List.getElem?_eq_getElem (by rw[YU];exact hj)];rfl
 have pG:(Value.agg cs).cells.toList.length=9:=by simpa [Value.cells]using dJ
 obtain⟨z0,e0,w0⟩:=eS (j:=0) underlying3 aa (nd 0 aa) (Wv 0 _ rfl);obtain⟨z1,e1,w1⟩:=eS (j:=1) underlying3 aa (nd 1 aa) (Wv 1 _ rfl);obtain⟨z2,e2,w2⟩:=eS (j:=2) underlying3 aa (nd 2 aa) (Wv 2 _ rfl);obtain⟨z3,e3,w3⟩:=eS (j:=3) underlying3 aa (nd 3 aa) (Wv 3 _ rfl);obtain⟨z4,e4,w4⟩:=eS (j:=4) underlying3 aa (nd 4 aa) (Wv 4 _ rfl);obtain⟨z5,e5,w5⟩:=eS (j:=5) underlying3 aa (nd 5 aa) (Wv 5 _ rfl);obtain⟨z6,e6,w6⟩:=eS (j:=6) underlying3 aa (nd 6 aa) (Wv 6 _ rfl);obtain⟨z8,e8,w8⟩:=eS (j:=8) underlying24 aa (nd 8 aa) (Wv 8 _ rfl);have hce:(Value.agg cs).cells.toList=[a,b,c,d',e,f,g,i,j]:=hl;obtain⟨y7,hy7⟩:=Option.isSome_iff_exists.1 (nd 7 aa);have h7:=Wv 7 _ rfl;rw[hy7,hce]at h7;obtain⟨A,l,cc,e7,ks,uz,hF⟩:=Nr (v:=i) h7;subst e7;rw[hce]at e0 e1 e2 e3 e4 e5 e6 e8;simp only[List.getElem?_cons_zero,List.getElem?_cons_succ,Option.some.injEq]at e0 e1 e2 e3 e4 e5 e6 e8;subst e0 e1 e2 e3 e4 e5 e6 e8;refine⟨⟨z0,z1,z2,z3,z4,z5,z6,A,l,cc,(BitVec.ofNat 32 z8.toNat).toNat⟩,?_,hF,?_,ks,uz,(BitVec.ofNat 32 z8.toNat).isLt⟩;·have e32:=JM w8;show Value.agg cs= .agg #[.int .i64 z0,.int .i64 z1,.int .i64 z2,.int .i64 z3,.int .i64 z4,.int .i64 z5,.int .i64 z6,.slice A l.length cc,.int .u32 ((BitVec.ofNat 32 z8.toNat).toNat:Nat)];rw[←e32];obtain⟨cl⟩:=cs;have:cl=_:=hl;subst this;rfl
 ·intro f hf;obtain⟨n,hn,rfl⟩:=List.getElem_of_mem hf;obtain⟨_,_,_,_,bx⟩:=hF.addr (Nat.lt_of_le_of_lt (Nat.zero_le _) hn);exact(bx n hn).ok
end
theorem FC(k:fG)(A:Option Addr)(c:Nat): ∀(l:List (Nat×Nat)) (z:eK×Bool),bG {k with A:=A,cD:=c} l z=bG k l z
 | [],_=>rfl
 | x::l,z=>by have h:=FC k A c l (aK k x.1 x.2 z.1 z.2).2;show((aK k x.1 x.2 z.1 z.2).1++(bG {k with A:=A,cD:=c} l (aK k x.1 x.2 z.1 z.2).2).1,(bG {k with A:=A,cD:=c} l (aK k x.1 x.2 z.1 z.2).2).2)=_;rw[h];rfl
theorem KL(k:fG)(A:Option Addr)(c:Nat):m8 {k with A:=A,cD:=c}=m8 k:=by unfold m8;exact congrArg (fun z:List UInt8×eK×Bool=>z.1++[0]) (FC k A c _ _)
def Op.k(o:Op)(D:List UInt8):fG:=⟨none,D,0,o.lc.toNat,o.lp.toNat,o.pb.toNat,o.nice,o.chunk,o.block,o.check,o.ch,o.dict,0⟩
def Op.packed(o:Op)(D:List UInt8):List UInt8:=m8 (o.k (da o.l D))
def Op.head(o:Op)(D:List UInt8):el:=⟨(o.packed D).length,D.length,o.l,aJ (a7 o.dict)⟩
def Op.oz(o:Op)(D:List UInt8):List UInt8:=eF (o.head D)++o.packed D
def Op.ax(o:Op)(D:List UInt8):List UInt8:=o.oz D++(List.replicate (bg (o.oz D).length) 0++jm o.check D)
def Op.rc(o:Op)(D:List UInt8):Nat×Nat:=((o.oz D).length+dj o.check,D.length)
abbrev FD(r:Nat×Nat):Value:= .agg #[.int .i64 (r.1:Nat),.int .i64 (r.2:Nat)]
theorem least(p:Nat→Prop) [DecidablePred p]: ∀n,p n→ ∃k,k≤n∧p k∧ ∀j,j<k→ ¬p j
 | 0,h=>⟨0,Nat.le_refl _,h,fun _ hj=>absurd hj (Nat.not_lt_zero _)⟩
 | n+1,h=>by
  by_cases hn: ∃j,j≤n∧p j;·obtain⟨j,hj,hp⟩:=hn;obtain⟨k,hk,h1,h2⟩:=least p j hp;exact⟨k,aa,h1,h2⟩
  ·exact⟨n+1,Nat.le_refl _,h,fun j hj hp=>hn ⟨j,aa,hp⟩⟩
theorem Jl(k:Nat)(h:k≤40):a7 (aJ k)=k:=ov _ _ h (Nat.le_refl _) fun j hj=>qH j k hj h
theorem po(d:Nat)(h:d≤67108864):d≤aJ (a7 d)∧aJ (a7 d)≤67108864:=by
 have e28:aJ 28=67108864:=an;obtain⟨k,hk,h1,h2⟩:=least (fun k=>d≤aJ k) 28 (by show d≤aJ 28;rw[e28];exact h);rw[ov d k aa h1 (fun j hj=>Nat.lt_of_not_le (h2 j hj))];refine⟨h1,?_⟩;rcases Nat.lt_or_ge k 28 with hl | hl;·have:=qH k 28 hl aa;omega
 ·have:k=28:=by omega
  subst this;rw[e28];exact Nat.le_refl _
structure Op.Ok(o:Op):Prop where
 lc:0≤o.lc∧o.lc≤4
 lp:0≤o.lp∧o.lp≤4
 pb:0≤o.pb∧o.pb≤4
 EL:o.lc+o.lp≤4
 nice:2≤o.nice∧o.nice≤273
 chunk:1≤o.chunk∧o.chunk≤65536
 dict:4096≤o.dict∧o.dict≤67108864
 may:jg o.l=true
 check:eD o.check=true
theorem Op.Ok.of{o:Op}(h:o.sJ=true):o.Ok:=by unfold Op.sJ jE mX at h;simp only[Bool.and_eq_true,decide_eq_true_iff]at h;obtain⟨⟨⟨p1,p2,p3,p4⟩,p5⟩,p6⟩:=h;exact⟨aa,aa,aa,aa,p2,p3,p4,p5,p6⟩
theorem sL(l:List bA)(h:jg l=true):l.all cW=true∧l.length≤3:=by unfold jg at h;rw[Bool.and_eq_true,decide_eq_true_iff]at h;exact⟨h.2,h.1⟩
theorem Op.Ok.pko{o:Op}(h:o.Ok)(D:List UInt8)(A:Option Addr)(c:Nat):PkO {o.k D with A:=A,cD:=c} o.v:=by
 have h1:=h.lc;have h2:=h.lp;have h3:=h.pb;have h4:=h.EL;refine⟨?_,?_,?_,?_,?_,h.nice,h.chunk,h.dict⟩;·show wV o.lc o.lp o.pb o.nice o.chunk o.block o.check o.ch o.dict=wV ((o.lc.toNat:Nat):Int) ((o.lp.toNat:Nat):Int) ((o.pb.toNat:Nat):Int) o.nice o.chunk o.block o.check o.ch o.dict;rw[Int.toNat_of_nonneg h1.1,Int.toNat_of_nonneg h2.1,Int.toNat_of_nonneg h3.1]
 ·show o.lc.toNat≤4;omega
 ·show o.lp.toNat≤4;omega
 ·show o.pb.toNat≤4;omega
 ·show o.lc.toNat+o.lp.toNat≤4;omega
theorem Op.Ok.aay{o:Op}(h:o.Ok):1≤o.chunk.toNat:=ar h.chunk
theorem Op.ko{o:Op}(h:o.Ok)(D:List UInt8):1≤(o.packed D).length∧(o.packed D).length≤4*D.length+1:=by have h1:=Je (k:=o.k (da o.l D)) h.aay;have h2:(o.k (da o.l D)).D.length=D.length:=di _ _;rw[h2]at h1;exact⟨by unfold Op.packed m8;rw[List.length_append];simp,h1⟩
theorem Op.fC{o:Op}(h:o.Ok)(D:List UInt8)(hD:D.length≤100000):(o.head D).ok∧gB (o.head D)=true:=by
 have hp:=o.ko h D;have hd:=po o.dict h.dict.2;refine⟨?_,?_⟩;·show -9223372036854775808≤((o.packed D).length:Int)∧((o.packed D).length:Int)≤9223372036854775807∧ -9223372036854775808≤(D.length:Int)∧(D.length:Int)≤9223372036854775807∧aJ (a7 o.dict)<4294967296;omega
 ·show(qJ ((o.packed D).length:Int) (D.length:Int)&&jg o.l&&sG (aJ (a7 o.dict)))=true;rw[h.may];unfold qJ sG;rw[Jl _ (lW _)];simp;omega
theorem Op.sM{o:Op}(h:o.Ok)(D:List UInt8)(hD:D.length≤100000)(hf: ∀f∈o.l,f.ok):(eF (o.head D)).length≤128∧(eF (o.head D)).length%4=0:=by
 obtain⟨h1,h2⟩:=o.fC h D hD;obtain⟨e1,e2,e3,_⟩:=kX (o.head D) h1 hf h2;have e4:=sK (o.head D) h1 hf h2;have e5:(km (bQ (o.head D))).length≤(bQ (o.head D)).length+3:=by unfold km bg;rw[List.length_append,List.length_replicate];omega
 rw[e1];omega
def UcR(L:List UInt8)(d:Nat)(r:List UInt8×Nat×Nat):Prop:= ∀(A:Option Addr) (c:Nat) (W:World),Bytes W A L→(∀a,A=some a→a.block<W.heap.size)→L.length≤c→c≤9223372036854775807→L.length≤1000000→Calls prog 66 #[.slice A L.length c,.int .i64 (d:Nat)] W (mQ W r)
def Jm(B:List UInt8)(mem:Nat)(r:List UInt8×Nat×Nat):Prop:=
 (∃h n er,gc B=(h,n,er)∧er≠0∧r=([],0,er))∨
 (∃h n,gc B=(h,n,0)∧h.d<4294967296∧mem<h.d∧r=([],0,9))∨
 (∃h n S p er,gc B=(h,n,0)∧(1≤h.d∧h.d<4294967296∧h.d≤mem∧n≤B.length)∧UcR (B.drop n) h.d (S,p,er)∧
  ((er≠0∧r=([],0,er))∨(er=0∧jg h.l=true∧h.p=p∧h.q=S.length∧S.length≤1000000∧p≤1000000000∧n≤1000000000∧r=(kS h.l S,n+p,0))))
theorem amQ{z:Value}(h:W.heap[b]? =some (.cells [x,y,z,u].toArray t (0,0))):W.cell? ⟨b,0,none⟩=some x∧W.cell? ⟨b,1,none⟩=some y∧W.cell? ⟨b,2,none⟩=some z∧W.cell? ⟨b,3,none⟩=some u:=
 ⟨oM,oM,oM,oM⟩
theorem mQ.S8{n:Nat}(hb:Below w.heap.size w w'):mQ w ([],0,n) (.returned (.tuple #[.slice none 0 0,.int .i64 0,.int .i64 (n:Nat)])) w':=⟨none,0,rfl,⟨Nat.le_refl _,aa⟩,.nil,hb⟩
theorem FE(A:Option Addr)(B:List UInt8)(c mem:Nat)(w:World)(r:List UInt8×Nat×Nat)(hr:Jm B mem r)(hB:Bytes w A B)(hA: ∀a,A=some a→a.block<w.heap.size)(hc:B.length≤c)(hm:c≤9223372036854775807)(hl:B.length≤1000000)(Oa:mem<18446744073709551616):
  Calls prog 33 #[.slice A B.length c,.int .u64 (mem:Nat)] w (mQ w r):=by
 have HG:=hdd (NC A B c w hB hc hm hl);have sQ:(B.length:Int)≤1000000:=aa;have th:(c:Int)≤9223372036854775807:=aa;have tY:(B.length:Int)≤(c:Int):=aa;have af9:(mem:Int)<18446744073709551616:=aa;have HB:=hdd (And.intro hB (And.intro hA (And.intro hc (And.intro hm hl))));clear hB hA hc hm hl Oa;rcases hr with⟨h,n,er,e1,e2,rfl⟩ | ⟨h,n,e1,hd,e2,rfl⟩ | ⟨h,n,S,p,er,e1,⟨d1,d2,d3,hn⟩,f1,hr⟩
 ·rw[e1]at HG;obtain⟨hp,hq,hL,d⟩:=h;obtain⟨ei,Oo⟩: ∃x:Int,(er:Int)=x:=⟨_,rfl⟩
  have dr:(ei==0)=false:=Ba;have HEI:=hdd Oo;clear e1 e2 Oo sQ th tY af9;go_enter func33,ntmps33;go_wp2_with fail;refine HG.out.mono ?_;rintro e w1 ⟨A1,c1,rfl,_,_,_,aC⟩;have cu:=hdd aC;clear aC;rw[HEI.out];go_wp2_with fail;go_ret3;rw[←HEI.out];exact mQ.S8 (cu.out.trans ((bF _ _).mono cu.out.size))
 ·rw[e1]at HG;obtain⟨hp,hq,hL,d⟩:=h;have Cm:IntKind.u64.wrap (d:Int)=(d:Int):=IntWalk.u64_in _ (by simp only at hd;omega);have XO:(mem:Int)<(d:Int):=by simp only at e2;omega
  clear e1 e2 hd;go_enter func33,ntmps33;go_wp2_with fail;refine HG.out.mono ?_;rintro e w1 ⟨A1,c1,rfl,_,_,_,aC⟩;have cu:=hdd aC;clear aC;go_wp2_with fail;go_ret3;exact mQ.S8 (cu.out.trans ((bF _ _).mono cu.out.size))
 ·rw[e1]at HG;obtain⟨hp,hq,hL,d⟩:=h;simp only at d1 d2 d3 f1 hr;have⟨z,hz⟩:=ex ((d:Int):Int);have Cm:IntKind.u64.wrap z=z:=IntWalk.u64_in _ aa;have hwi:IntKind.i64.wrap z=z:=IntWalk.i64_in _ aa;have Uv:z<4294967296:=aa;have nE:0≤z:=aa;obtain⟨me,Oa⟩: ∃z:Int,(mem:Int)=z:=⟨_,rfl⟩
  have XO:decide (me<z)=false:=decide_eq_false aa;rw[Oa];have HG2:Hid (Calls prog 65 #[.slice A B.length c] w fun e w'=> ∃A1 c1,e= .returned (.tuple #[.agg #[.int .i64 hp,.int .i64 hq,.slice A1 hL.length c1,.int .u32 z],.int .i64 (n:Nat),.int .i64 0])∧dX w' A1 hL∧hL.length≤c1∧c1≤9223372036854775807∧Below w.heap.size w w'):=hdd (by rw[←hz];exact HG.out);have HZ:=hdd (And.intro hz Oa);clear HG;have sO:(n:Int)≤(B.length:Int):=aa;have NS:(n:Int)≤(c:Int):=aa;have⟨m,hm⟩:=ex (B.length-n);obtain⟨c2,fS⟩: ∃m,c-n=m:=⟨_,rfl⟩
  have amR:(B.length:Int)-(n:Int)=(m:Int):=aa;have amS:(c:Int)-(n:Int)=(c2:Int):=ar HB.out.2.2.1;have HU:=hdd (fun(W:World) (hb:Below w.heap.size w W)=>(show Calls prog 66 #[.slice (if c=n then A else A.map fun x=>x.add n) m c2,.int .i64 (d:Nat)] W (mQ W (S,p,er))from by
   have hl:(B.drop n).length=m:=(by rw[List.length_drop];exact hm);have hB:=HB.out;have SW: ∀a,(if c=n then A else A.map fun x=>x.add n)=some a→a.block<W.heap.size:=by
    intro a ha;split at ha;·exact Nat.lt_of_lt_of_le (hB.2.1 a ha) hb.size
    ·cases hA:A with
     | none=>rw[hA]at ha;cases ha
     | some x=>
      rw[hA]at ha;have e:x.add n=a:=(by simpa using ha);have:a.block=x.block:=(by rw[←e];unfold Addr.add;split<;>rfl);rw[this];exact Nat.lt_of_lt_of_le (hB.2.1 x hA) hb.size
   have h:=f1 (if c=n then A else A.map fun x=>x.add n) c2 W ((hB.1.below hb).cutFrom hn hB.2.2.1) SW aa aa aa;rw[hl]at h;exact h))
  have HN:=hdd (And.intro hn (And.intro hm fS));clear e1 d1 d2 d3 f1 hn hm fS hz Oa;go_enter func33,ntmps33;go_wp2_with fail;refine HG2.out.mono ?_;rintro e w1 ⟨A1,c1,rfl,hF1,WI,fX,aC⟩;have cu:=hdd aC;have H1:=hdd (And.intro hF1 (And.intro WI fX));clear aC hF1 WI fX;go_upto_region 6 with fail;obtain⟨w2,kr⟩: ∃W,w1.alloc (.cells #[.int .i64 hp,.int .i64 hq,.slice A1 hL.length c1,.int .u32 z] 51)=W:=⟨_,rfl⟩
  obtain⟨iD,aE⟩:=ef (vs:=[.int .i64 hp,.int .i64 hq,.slice A1 hL.length c1,.int .u32 z]) kr;rw[kr];have P5:=hdd (fun(W:World) (h:Below w2.heap.size w2 W)=>amQ ((h.block _ (cr iD)).trans iD));have dY:=hdd (aO cu.out aE);have HAG:Hid (∀(n:Nat) (W:World),n≤1000000000→Calls prog 68 #[.int .i64 (n:Nat),.int .i64 (n:Nat)] W fun e w'=>e= .returned (.bool true)∧W=w'):=hdd (fun n W hn=>by
   have h:=Jc (n:Nat) n hn W;rw[show(decide ((n:Int)<0)||(n:Int)==(n:Int))=true by simp]at h;exact h)
  have HF2:=hdd (H1.out.1.below aE);have bE:=fl w2;obtain⟨A2,SW⟩: ∃x,(if c=n then A else A.map fun x=>x.add n)=x:=⟨_,rfl⟩
  rw[SW]at HU;rw[HZ.out.1]at HU;clear kr iD aE;refine wp_region_held_drew (S:=fun W=>Below w2.heap.size w2 W) ak bE (fun hS=> ?_);refine af 0 hS (h:=af 1 hS (h:= ?_));refine gV 2 (v:= .slice A2 m c2) ?amT hS ?_;case amT=>intro w hSw;go_simp;(try rw[SW]);exact⟨HN.out.2.1,HN.out.2.2⟩
  refine dR ?_;refine af 3 hS (h:=bq 4 P5.out hS (h:=af 5 hS (h:= ?_)));refine aG 6 (fun K hK=> ?_);go_simp;refine(HU.out _ (aO dY.out bE)).mono ?_;rintro e w3 ⟨A3,c3,rfl,lu,nR,aW⟩;have g3:Below w2.heap.size w2 w3:=bE.trans aW;have H3:=hdd (And.intro nR (And.intro lu g3));clear lu nR aW;go_wp2_with fail;refine hK.out _ _ g3 (fun _=> ?_);clear hK K;refine af 7 g3 (h:=af 8 g3 (h:=af 9 g3 (h:=af 10 g3 (h:=af 11 g3 (h:=af 12 g3 (h:=af 13 g3 (h:= ?_)))))));refine wpAnyH_done ak ?_ _;clear hS bE HU HG2;have fc:=hdd (aO dY.out g3);obtain⟨y0,y1,y2,_⟩:=P5.out w3 g3;have HG3:=hdd g3;clear g3;rcases hr with⟨dr,rfl⟩ | ⟨rfl,qx,rfl,rfl,hSl,rI,BM,rfl⟩
  ·obtain⟨ei,Oo⟩: ∃x:Int,(er:Int)=x:=⟨_,rfl⟩
   have amV:(ei==0)=false:=Ba;rw[Oo];have HEI:=hdd Oo;clear dr Oo amR amS sO NS sQ th tY af9 XO Uv nE Cm hwi y0 y1 y2 SW;go_wp2_with fail;go_ret3;rw[←HEI.out];exact mQ.S8 fc.out
  ·obtain⟨dv,h3⟩:=sL _ qx;have ve:=hdd (Ir A1 hL c1 w3 (HF2.out.below HG3.out) aa dv qx A3 S c3 H3.out.1 hSl);have⟨q,hq⟩:=ex (n+p);have wO:(n:Int)+(p:Int)=(q:Int):=aa;have YF:(q:Int)≤2000000000:=aa;have HQ:=hdd (And.intro hq (And.intro hSl rI));clear qx dv h3 hSl rI BM hq;go_wp2_with fail;refine ve.out.mono ?_;rintro e w4 ⟨v4,rfl,cH,bc⟩;obtain⟨A4,c4,rfl,kJ,jt,uH⟩:=cH.read;have H4:=hdd (And.intro uH (And.intro kJ (And.intro jt (aO fc.out bc))));have yD:(kS hL S).length=S.length:=sk _ _;obtain⟨y0,y1,_,_⟩:=P5.out w4 (aO HG3.out bc);have Tx:=hdd yD;rw[yD];clear cH bc kJ jt uH yD y2;go_wp2_with fail;refine(HAG.out p _ HQ.out.2.2).mono ?_;rintro e w5 ⟨rfl,rfl⟩;go_wp2_with fail;refine(HAG.out S.length _ (ar HQ.out.2.1)).mono ?_;rintro e w6 ⟨rfl,rfl⟩;go_wp2_with fail;go_ret3;exact⟨A4,c4,by simp only;rw[Tx.out,HQ.out.1];rfl,⟨H4.out.2.1,H4.out.2.2.1⟩,H4.out.1,H4.out.2.2.2⟩
def aaB(w:World)(L:List UInt8)(r:Nat×Nat)(e:Ending)(w':World):Prop:= ∃g c,e= .returned (.tuple #[.slice (some ⟨g,0,none⟩) L.length c,FD r,.int .i64 0])∧L.length≤c∧c≤9223372036854775807∧(w.heap.size≤g∧g<w'.heap.size)∧kV w' g L∧Below w.heap.size w w'
theorem FF{vs us:List Value}{s:TypeId}(h:(w.alloc (.cells vs.toArray t)).alloc (.cells us.toArray s)=W):
  W.heap[w.heap.size]? =some (.cells vs.toArray t (0,0))∧W.heap[w.heap.size+1]? =some (.cells us.toArray s (0,0))∧Below w.heap.size w W∧W.heap.size=w.heap.size+2:=by
 subst h;have hb:Below (w.alloc (.cells vs.toArray t)).heap.size (w.alloc (.cells vs.toArray t)) ((w.alloc (.cells vs.toArray t)).alloc (.cells us.toArray s)):=ap;refine⟨(hb.block _ ae).trans (heap_alloc_new w _),?_,(ap).alloc ae _,ae⟩;have:=heap_alloc_new (w.alloc (.cells vs.toArray t)) (.cells us.toArray s);simpa using this
theorem fD(h:W.heap[b]? =some (.cells [x,y].toArray t (0,0))):W.cell? ⟨b,0,none⟩=some x∧W.cell? ⟨b,1,none⟩=some y∧ ∀i,W.frozen? ⟨b,i,none⟩=false:=
 ⟨oM,oM,fun _=>frozen_of_row _ _ _ _ _ h⟩
def SS(R X N:Nat)(W:World):Prop:=R<W.heap.size∧W.cell? ⟨R,0,none⟩=some (.int .i64 (X:Nat))∧W.cell? ⟨R,1,none⟩=some (.int .i64 (N:Nat))
theorem SS.below(h:SS R X N W)(hb:Below W.heap.size W W'):SS R X N W':=⟨Nat.lt_of_lt_of_le h.1 hb.size,(hb.cell (p:=⟨R,0,none⟩) h.1).trans h.2.1,(hb.cell (p:=⟨R,1,none⟩) h.1).trans h.2.2⟩
theorem SS.set(h:SS R X N W)(hb:b≠R):SS R X N (W.setCell ⟨b,i,none⟩ u):=by have e:(W.setCell ⟨b,i,none⟩ u).heap[R]? =W.heap[R]? :=ag _ _ _ _ (fun e=>hb e.symm);exact⟨by simpa using h.1,(World.cell?_of_block (a:=⟨R,0,none⟩) e).trans h.2.1,(World.cell?_of_block (a:=⟨R,1,none⟩) e).trans h.2.2⟩
theorem Op.Jn(o:Op)(D:List UInt8):o.oz D++List.replicate (bg (o.oz D).length) 0++jm o.check D=o.ax D:=by unfold Op.ax;rw[List.append_assoc]
theorem Op.qO(o:Op)(D:List UInt8):(o.ax D).length=(o.oz D).length+bg (o.oz D).length+dj o.check:=by rw[←o.Jn,List.length_append,List.length_append,List.length_replicate,gM]
theorem kV.set{L:List UInt8}(h:kV w g L)(hb:b≠g):kV (w.setCell ⟨b,i,none⟩ u) g L:=fun j hj=>by have e:(w.setCell ⟨b,i,none⟩ u).heap[g]? =w.heap[g]? :=ag _ _ _ _ (fun e=>hb e.symm);obtain⟨h1,h2⟩:=h j hj;refine⟨(World.cell?_of_block (a:=⟨g,j,none⟩) e).trans h1,?_⟩;rw[←h2];unfold World.frozen?;simp only[e]
theorem yv(o:Op)(A:Option Addr)(D:List UInt8)(c:Nat)(w:World)(hf:o.sJ=true)(hO:zr w o)(On: ∀f∈o.l,f.ok)(hT:nN w)(hB:Bytes w A D)(hc:D.length≤c)(hm:c≤9223372036854775807)(hl:D.length≤100000):
  Calls prog 6 #[.slice A D.length c,o.v] w (aaB w (o.ax D) (o.rc D)):=by
 have aR:=Op.Ok.of hf;obtain⟨dv,h3⟩:=sL _ aR.may;have⟨W,hW⟩:=ex ((w.alloc (.cells #[.int .i64 o.lc,.int .i64 o.lp,.int .i64 o.pb,.int .i64 o.nice,.int .i64 o.chunk,.int .i64 o.block,.int .i64 o.check,o.ch,.int .u32 (o.dict:Nat)] 26)).alloc (.cells #[.int .i64 0,.int .i64 0] 29));obtain⟨aY,eT,eO,Oq⟩:=FF (vs:=ip o.lc o.lp o.pb o.nice o.chunk o.block o.check o.ch o.dict) (us:=[.int .i64 0,.int .i64 0]) hW;have HC:=hdd (fun(W':World) (h:Below W.heap.size W W')=>gQ (o:=o) ((h.block _ (cr aY)).trans aY));have uc:=hdd (fun(W':World) (h:Below W.heap.size W W')=>(h.block _ (cr eT)).trans eT);have HRC:=hdd (fun(W':World) (h:Below W.heap.size W W')=>fD ((h.block _ (cr eT)).trans eT));obtain⟨k0,k1,k2,k3,k4,k5,k6,k7,k8⟩:=HC.out W (Below.refl _ _);have vt:=hdd (qL o W (hO.below eO));have Lz:=hdd (fun(W':World) (h:Below W.heap.size W W')=>Iq o.A o.l o.c W' ((hO.CD.below eO).below h) hO.few dv aR.may A D c ((hB.below eO).below h) aa);have aaC:=hdd (fun(W':World) (h:Below W.heap.size W W')=>Cz o.check A D c W' ((hT.below eO).below h) ((hB.below eO).below h) hc hm aa);have Og:=hdd (fun(A1:Option Addr) (c1:Nat) (W':World) (hb:Bytes W' A1 (da o.l D)) (hA: ∀a,A1=some a→a.block<W'.heap.size) (fY:D.length≤c1)=>by
  have h:=Mg {o.k (da o.l D)with A:=A1,cD:=c1} o.v W' (aR.pko _ _ _) hb hA (by show(da o.l D).length≤c1;rw[di];exact fY) (by show(da o.l D).length≤100000;rw[di];exact hl);rw[KL]at h;exact(show Calls prog 14 #[.slice A1 (da o.l D).length c1,o.v] W' (xI W' (o.packed D))from h))
 have CO:=hdd (o.ko aR D);have HHD:Hid (∀W':World,Below W.heap.size W W'→Calls prog 15 #[.agg #[.int .i64 ((o.packed D).length:Nat),.int .i64 (D.length:Nat),.slice o.A o.l.length o.c,.int .u32 (aJ (a7 o.dict):Nat)]] W' (xI W' (eF (o.head D)))):=hdd (fun W' h=>by
  refine(show Calls prog 15 #[.agg #[.int .i64 ((o.packed D).length:Nat),.int .i64 (D.length:Nat),.slice o.A o.l.length o.c,.int .u32 (aJ (a7 o.dict):Nat)]] W' (AG W' (o.head D))from Nl (o.head D) (o.fC aR D hl).1 o.A o.c W' ((hO.CD.below eO).below h) On (by show o.l.length≤20;omega)).mono ?_;rintro e w' (⟨_,v,rfl,h1,h2⟩ | ⟨h,_⟩);·exact⟨v,rfl,h1,h2⟩
  ·rw[(o.fC aR D hl).2]at h;cases h)
 have TH:=hdd (o.sM aR D hl On);have Om:=hdd (fun(W':World)=>sC o.dict hO.dict W');have LX:Hid (∀W':World,Calls prog 16 #[.int .i64 (a7 o.dict:Nat)] W' fun e w'=>e= .returned (.int .u32 (aJ (a7 o.dict):Nat))∧W'=w'):=hdd (fun W'=>by
  have h:=Su (a7 o.dict:Nat) W';rw[if_neg aa,Int.toNat_natCast]at h;exact h)
 have HW:=hdd hW;have dV:=hdd eO;have HZ:=hdd Oq;have HD:=hdd hl;have hDi:(D.length:Int)≤100000:=aa;have ks:o.l.length≤3:=h3;rw[hf]at vt;clear aY eT hW eO Oq hO aR dv hT hB hf h3;go_enter func6,ntmps6;go_upto_region 1 with fail;rw[HW.out];clear HW;go_wp2_with fail;refine vt.out.mono ?_;rintro e w1 ⟨rfl,aC⟩;have cu:=hdd aC;clear aC k0 k1 k2 k3 k4 k5 k6 k7 k8;obtain⟨k0,k1,k2,k3,k4,k5,k6,k7,k8⟩:=HC.out w1 cu.out;go_wp2_with fail;refine(Lz.out w1 cu.out).mono ?_;rintro e w2 ⟨v2,rfl,j6,aE⟩;have dY:=hdd (aO cu.out aE);obtain⟨A2,c2,rfl,fS,eY,gX⟩:=j6.read;have SW: ∀a,A2=some a→a.block<w2.heap.size:=fun a ha=>(j6.aw a.block (by rw[ha];rfl)).2;have hP:=Og.out A2 c2 w2 gX SW (by rw[di]at fS;exact fS);have qe:(da o.l D).length=D.length:=di _ _;have HP:=hdd hP;clear hP aE j6 fS eY gX SW k0 k1 k2 k3 k4 k5 k6 k7 k8;obtain⟨k0,k1,k2,k3,k4,k5,k6,k7,k8⟩:=HC.out w2 dY.out;rw[qe];rw[qe]at HP;clear qe;go_wp2_with fail;refine HP.out.mono ?_;rintro e w3 ⟨v3,rfl,gW,aW⟩;have fc:=hdd (aO dY.out aW);obtain⟨A3,c3,rfl,lu,Oh,nR⟩:=gW.read;have H3:=hdd (And.intro nR (And.intro lu Oh));clear aW HP gW lu Oh nR k0 k1 k2 k3 k4 k5 k6 k7 k8;obtain⟨k0,k1,k2,k3,k4,k5,k6,k7,k8⟩:=HC.out w3 fc.out;have HQ:Hid (∀W':World,Below w3.heap.size w3 W'→W'.cell? ⟨w.heap.size,7,none⟩=some (.slice o.A o.l.length o.c)∧W'.cell? ⟨w.heap.size,8,none⟩=some (.int .u32 (o.dict:Nat))):=hdd (fun W' h=>by
  obtain⟨_,_,_,_,_,_,_,q7,q8⟩:=HC.out W' (aO fc.out h);exact⟨q7,q8⟩)
 have bE:=fl w3;obtain⟨PL,Tz⟩: ∃n,(o.packed D).length=n:=⟨_,rfl⟩
 have aaE:(PL:Int)≤400001:=by have:=CO.out;have:=HD.out;omega
 rw[Tz]at HHD ⊢;have WJ:=hdd Tz;clear Tz k0 k1 k2 k3 k4 k5 k6 k7 k8;go_upto_region 9 with fail;refine wp_region_held_drew (S:=fun W=>Below w3.heap.size w3 W) ak bE (fun hS=> ?_);refine af 0 hS (h:=af 1 hS (h:=af 2 hS (h:=af 3 hS (h:=af 4 hS (h:=bT 5 rfl (fun w hSw=>by have q:=(HQ.out w hSw).1;go_simp;all_goals(with_reducible rfl)) hS (h:=af 6 hS (h:=bT 7 rfl (fun w hSw=>by have q:=(HQ.out w hSw).2;go_simp;all_goals(with_reducible rfl)) hS (h:= ?_))))))));refine aG 8 (fun K hK=> ?_);go_simp;refine(Om.out _).mono ?_;rintro e x8 ⟨rfl,rfl⟩;go_wp2_with fail;refine hK.out _ _ bE (fun _=> ?_);clear hK K;refine aG 9 (fun K hK=> ?_);go_simp;refine(LX.out _).mono ?_;rintro e x9 ⟨rfl,rfl⟩;go_wp2_with fail;refine hK.out _ _ bE (fun _=> ?_);clear hK K;refine af 10 bE (h:= ?_);refine aG 11 (fun K hK=> ?_);go_simp;refine(HHD.out _ (aO fc.out bE)).mono ?_;rintro e x11 ⟨v4,rfl,cH,bc⟩;have g11:Below w3.heap.size w3 x11:=bE.trans bc;have H4:=hdd (And.intro (show Own w3.heap.size x11 v4 (eF (o.head D))from cH) g11);clear cH bc;go_wp2_with fail;refine hK.out _ _ g11 (fun _=> ?_);clear hK K;refine af 12 g11 (h:=af 13 g11 (h:=af 14 g11 (h:=af 15 g11 (h:=af 16 g11 (h:= ?_)))));refine wpAnyH_done ak ?_ _;clear hS bE g11 HQ HHD;have iz:=hdd (aO fc.out H4.out.2);go_upto_region 13 with(at_builtin;refine aj rfl (.tmp 58) (.tmp 59) rfl w3.heap.size x11 v4 (eF (o.head D)) rfl H4.out.1 A3 (o.packed D) c3 (by rw[WJ.out];rfl) (H3.out.1.below H4.out.2) (by have:=TH.out;have:=CO.out;have:=HD.out;omega) H4.out.2.size ?_;intro v5 w5 iZ iM;have H5:=hdd (And.intro iZ (am H4.out.2 iM H4.out.2.size (fun g e=>(H4.out.1.aw g e).1)));clear iZ iM)
 obtain⟨A5,c5,rfl,Dh,Ol,AD⟩:=H5.out.1.read;have sP:=hdd (aO fc.out H5.out.2);have H5b:=hdd (And.intro AD (And.intro Dh Ol));obtain⟨U,hU⟩: ∃n,(eF (o.head D)++o.packed D).length=n:=⟨_,rfl⟩
 have HU:=hdd (show(o.oz D).length=U from hU);have hUi:(U:Int)≤401000:=by have:=TH.out;have:=CO.out;have:=HD.out;rw[List.length_append]at hU;omega
 rw[hU];clear hU AD Dh Ol;obtain⟨k0,k1,k2,k3,k4,k5,k6,k7,k8⟩:=HC.out w5 sP.out;go_wp2_with fail;refine(aaC.out w5 sP.out).mono ?_;rintro e w6 ⟨A6,c6,rfl,hc6,YW,Mb,oV⟩;have uN:=hdd (aO sP.out oV);have H56:=hdd oV;have H6:=hdd (And.intro Mb (And.intro hc6 YW));have dJ:(jm o.check D).length=dj o.check:=gM _ _;have U9:dj o.check≤32:=by unfold dj;repeat (first | omega | split)
 rw[dJ];obtain⟨Z,hZ⟩: ∃n,dj o.check=n:=⟨_,rfl⟩
 rw[hZ]at dJ U9 ⊢;have Q2:=hdd (And.intro hZ dJ);obtain⟨X,hX⟩: ∃n,U+Z=n:=⟨_,rfl⟩
 have wO:(U:Int)+(Z:Int)=(X:Int):=aa;have hXi:(X:Int)≤402000:=aa;have HX:=hdd hX;clear hX;clear oV hc6 YW Mb dJ hZ k0 k1 k2 k3 k4 k5 k6 k7 k8;go_upto_region 15 with fail;obtain⟨w7,Um⟩: ∃W',w6.alloc (.cells #[.int .i64 (X:Nat),.int .i64 (D.length:Nat)] 29)=W':=⟨_,rfl⟩
 obtain⟨KM,F6⟩:=ef (vs:=[.int .i64 (X:Nat),.int .i64 (D.length:Nat)]) Um;rw[Um];have hS7:SS w6.heap.size X D.length w7:=⟨(cr KM),(fD KM).1,(fD KM).2.1⟩
 have zw:=hdd (aO uN.out F6);have amX:=hdd F6;have HUN:=hdd (show U≤1000000000 by omega);have yI:=hdd (show w.heap.size+1<W.heap.size by have:=HZ.out;omega);have Dc:=hdd (show w.heap.size+1≠w6.heap.size by have:=yI.out;have:=uN.out.size;omega);have bE:=fl w7;have Ku:=hdd hS7;obtain⟨z,hz⟩: ∃n,bg U=n:=⟨_,rfl⟩
 have Yt:=hdd (show z≤3 by rw[←hz];unfold bg;omega);have hzr:=fun w=>uv U HUN.out w;rw[hz]at hzr;have HZR:=hdd hzr;have HJ:=hdd (fun(g8:Nat) (W8 W9:World) (h8:Below w7.heap.size w7 W8) (ho:Own w7.heap.size W8 (.slice (some ⟨g8,0,none⟩) z z) (List.replicate z 0)) (h9:W8.alloc (.cells #[.slice A5 U c5,.slice (some ⟨g8,0,none⟩) z z,.slice A6 Z c6] 22)=W9)=>(show Calls prog 19 #[.slice (some ⟨W8.heap.size,0,none⟩) 3 3,.slice none 0 0] W9 (AH W9 (o.ax D))from by
  obtain⟨r9,b9⟩:=ef (vs:=[.slice A5 U c5,.slice (some ⟨g8,0,none⟩) z z,.slice A6 Z c6]) h9;have h79:Below w7.heap.size w7 W9:=aO h8 b9;have h69:=aO amX.out h79;have h59:=aO H56.out h69;have hl:=o.Jn D;have fF:(o.ax D).length=U+z+Z:=by rw[←hl,List.length_append,List.length_append,List.length_replicate,HU.out,hz,Q2.out.2]
  refine afJ (l0:=o.oz D) (l1:=List.replicate z 0) (l2:=jm o.check D) (c0:=c5) (c1:=z) (c2:=c6) W9 (H5b.out.1.below h59) ((kW ho).below b9) (H6.out.1.below h69) ?_ ?_ ?_ (o.ax D) (by rw[←hl,HU.out,hz]) (by rw[fF];have:=Yt.out;omega) (by rw[fF];have:=TH.out;have:=CO.out;have:=HU.out;unfold Op.oz at this;rw[List.length_append]at this;omega);·rw[HU.out,cell_of_row W9 _ _ _ _ _ r9];rfl
  ·rw[List.length_replicate,cell_of_row W9 _ _ _ _ _ r9];rfl
  ·rw[Q2.out.2,cell_of_row W9 _ _ _ _ _ r9];rfl))
 have Xo:Hid ((o.ax D).length=(o.ax D).length):=hdd rfl;clear KM Um F6 hz hzr hS7 hUi hXi wO U9 aaE hDi;refine wp_region_held_drew (S:=SS w6.heap.size X D.length) ak (Ku.out.below bE) (fun hS=> ?_);refine af 0 hS (h:=af 1 hS (h:=af 2 hS (h:=af 5 hS (h:=bT 8 rfl (fun w hw=>by obtain⟨_,ha,hb⟩:=hw;go_simp;all_goals(with_reducible rfl)) hS (h:= ?_)))));refine aG 3 (fun K hK=> ?_);go_simp;refine(HZR.out _).mono ?_;rintro e x3 ⟨rfl,rfl⟩;go_wp2_with fail;refine hK.out _ _ (Ku.out.below bE) (fun _=> ?_);clear hK K;refine aG 4 (fun K hK=> ?_);refine gm rfl (.tmp 76) (.tmp 76) rfl w7.heap.size z w7.drew rfl rfl (ar Yt.out) (Nat.le_refl _) ?_;intro w8 sa L6;have g8:Below w7.heap.size w7 w8:=bE.trans (am (Below.refl _ _) L6 (Nat.le_refl _) (fun g e=>jX));have H8:=hdd (And.intro sa g8);clear sa L6;refine dR ?_;refine hK.out _ _ (Ku.out.below g8) (fun _=> ?_);clear hK K;refine aG 6 (fun K hK=> ?_);go_simp;obtain⟨w9,K9⟩: ∃W',w8.alloc (.cells #[.slice A5 U c5,.slice (some ⟨w7.heap.size,0,none⟩) z z,.slice A6 Z c6] 22)=W':=⟨_,rfl⟩
 rw[K9];have HJ9:=hdd (HJ.out _ _ _ H8.out.2 H8.out.1 K9);have g9:Below w7.heap.size w7 w9:=g8.trans ((ef (vs:=[.slice A5 U c5,.slice (some ⟨w7.heap.size,0,none⟩) z z,.slice A6 Z c6]) K9).2.mono g8.size);clear K9;refine hK.out _ _ (Ku.out.below g9) (fun _=> ?_);clear hK K;refine aG 7 (fun K hK=> ?_);go_simp;refine HJ9.out.mono ?_;rintro e Re ⟨g,cap,rfl,y1,y2,y3,y4,y5,y6⟩;have g10:Below w7.heap.size w7 Re:=aO g9 y6;have Tp:=hdd (And.intro y1 (And.intro y2 (And.intro (Nat.le_trans g9.size y3) (And.intro y4 y5))));have zl:=aO zw.out g10;have n8:=hdd zl;have WK:=hdd (Ku.out.below g10);obtain⟨x0,x1,xf⟩:=HRC.out Re zl;have xf0:=xf 0;have xf1:=xf 1;clear y1 y2 y3 y4 y5 y6 zl xf;go_wp2_with fail;refine hK.out _ _ WK.out (fun _=> ?_);clear hK K;refine af 9 WK.out (h:= ?_);refine aG 10 (fun K hK=> ?_);go_simp;refine hK.out _ _ ((WK.out.set Dc.out).set Dc.out) (fun _=> ?_);clear hK K;refine af 11 ((WK.out.set Dc.out).set Dc.out) (h:= ?_);refine wpAnyH_done ak ?_ _;clear x0 x1 xf0 xf1 hS bE g8 g9 g10;obtain⟨e0,e1,_⟩:=fD (heap_set (heap_set (uc.out Re n8.out) 0 (.int .i64 (X:Nat))) 1 (.int .i64 (D.length:Nat)));have HRV:=hdd (show FD (o.rc D)= .agg #[.int .i64 (X:Nat),.int .i64 (D.length:Nat)] by rw[←HX.out,←HU.out,←Q2.out.1];rfl);have WX:w.heap.size+1≠g:=JJ;have HG:=hdd (show w.heap.size≤g∧g<((Re.setCell ⟨w.heap.size+1,0,none⟩ (.int .i64 (X:Nat))).setCell ⟨w.heap.size+1,1,none⟩ (.int .i64 (D.length:Nat))).heap.size from⟨JJ,by simpa using Tp.out.2.2.2.1⟩);have CU:=hdd ((Tp.out.2.2.2.2.set (i:=0) (u:= .int .i64 (X:Nat)) WX).set (i:=1) (u:= .int .i64 (D.length:Nat)) WX);have HBF:=hdd (Below.setCell (p:=⟨w.heap.size+1,1,none⟩) (Below.setCell (p:=⟨w.heap.size+1,0,none⟩) (aO dV.out n8.out) ae (.int .i64 (X:Nat))) ae (.int .i64 (D.length:Nat)));clear WX;go_wp2_with fail;exact bodyPost_ret (v:= .tuple #[.slice (some ⟨g,0,none⟩) (o.ax D).length cap,.agg #[.int .i64 (X:Nat),.int .i64 (D.length:Nat)],.int .i64 0]) (by simp[results,results6,go_sem,e0,e1]) rfl ⟨g,cap,by rw[HRV.out],Tp.out.1,Tp.out.2.1,HG.out,CU.out,HBF.out⟩
def S9(w:World)(a k n:Nat)(L:List UInt8)(e:Ending)(w':World):Prop:= ∃A' c',e= .returned (.slice A' n c')∧(n≤c'∧c'≤9223372036854775807)∧w'=w.setCell ⟨a,0,none⟩ (.int .i64 ((k+n:Nat):Int))∧Bytes w' A' L
theorem Jo(a b:Nat)(A:Option Addr)(B:List UInt8)(c k n:Nat)(w:World)(ha:w.heap[a]? =some (.cells #[.int .i64 (k:Nat)] 3 (0,0)))(hb:w.cell? ⟨b,0,none⟩=some (.slice A B.length c))(dr:b≠a)(hB:Bytes w A B)(hA: ∀x,A=some x→x.block<a)(hkn:k+n≤B.length)(hc:B.length≤c)(hm:c≤9223372036854775807)(hl:B.length≤1000000):
  Calls prog 34 #[.int .i64 (n:Nat),.pointer (some ⟨a,0,none⟩),.pointer (some ⟨b,0,none⟩)] w (S9 w a k n ((B.drop k).take n)):=by
 have h0:w.cell? ⟨a,0,none⟩=some (.int .i64 (k:Nat)):=by rw[cell_of_row w _ _ _ _ _ ha];rfl
 have hf:=frozen_of_row w a 0 _ _ ha;have⟨q,hq⟩:=ex (k+n);have wO:(k:Int)+(n:Int)=(q:Int):=aa;have avJ:(q:Int)-(n:Int)=(k:Int):=aa;have hkq:(k:Int)≤(q:Int):=aa;have hqc:(q:Int)≤(c:Int):=aa;have hqi:(q:Int)≤1000000:=aa;have tY:(c:Int)≤9223372036854775807:=aa;have HT:Hid (Bytes (w.setCell ⟨a,0,none⟩ (.int .i64 (q:Int))) (if c=k then A else A.map fun x=>x.add k) ((B.drop k).take n)):=hdd (by
  have fF:Below a w (w.setCell ⟨a,0,none⟩ (.int .i64 (q:Int))):=Below.setCell (p:=⟨a,0,none⟩) (Below.refl _ _) (Nat.le_refl _) _;exact((hB.low fF hA).cutFrom aa hc).take n)
 have HN:=hdd (show n≤c-k∧c-k≤9223372036854775807 by omega);have HQ:=hdd hq;have HKN:=hdd (show q-k=n by omega);clear ha hB hA hkn hc hm hl hq;go_enter func34,ntmps34;go_wp2_with fail;case inl=>go_ret;have hT:=HT.out;rw[if_pos h]at hT;exact⟨A,0,by rw[←HKN.out];rfl,ar HN.out,by rw[HQ.out],hT⟩
 case inr=>go_ret;have hT:=HT.out;rw[if_neg h]at hT;exact⟨_,c-k,by rw[←HKN.out];rfl,HN.out,by rw[HQ.out],hT⟩
def NI(B:List UInt8)(check:Int)(mem:Nat)(r:List UInt8×Nat×(Nat×Nat)×Nat):Prop:=
 (∃er,Jm B mem ([],0,er)∧er≠0∧r=([],0,(0,0),er))∨
 (∃D u,Jm B mem (D,u,0)∧u≤1000000000∧D.length≤1000000∧((B.length<u+bg u+dj check∧u≤B.length∧r=([],0,(0,0),2))∨
  (u+bg u+dj check≤B.length∧(B.drop u).take (bg u)=List.replicate (bg u) 0∧(B.drop (u+bg u)).take (dj check)=jm check D∧r=(D,u+bg u+dj check,(u+dj check,D.length),0))))
theorem Bytes.Ta{A:Option Addr}{x y:Int}(h:Bytes W A l)(hr:W.heap[R]? =some (.cells [Value.int .i64 x,Value.int .i64 y].toArray t (0,0)))(i:Nat)(v:Value):Bytes (W.setCell ⟨R,i,none⟩ v) A l:=by
 rcases h with h | ⟨b,off,rfl,h2,h3⟩
 ·exact .inl h
 ·by_cases h0:l.length=0;·exact .inl (List.eq_nil_of_length_eq_zero h0)
  ·have hb:b≠R:=by
    rintro rfl;have h4:=h3 0 aa;rw[cell_of_row W _ _ _ _ _ hr]at h4;match off,h4 with
    | 0,h4=>simp at h4
    | 1,h4=>simp at h4
    | n+2,h4=>simp at h4
   exact .inr ⟨b,off,rfl,by simpa using h2,fun k hk=>(World.cell?_of_block (a:=⟨b,_,none⟩) (ag _ _ _ _ hb)).trans (h3 k hk)⟩
def tO(w:World)(r:List UInt8×Nat×(Nat×Nat)×Nat)(e:Ending)(w':World):Prop:=
 ∃A c,e= .returned (.tuple #[.slice A r.1.length c,.int .i64 (r.2.1:Nat),FD r.2.2.1,.int .i64 (r.2.2.2:Nat)])∧(r.1.length≤c∧c≤9223372036854775807)∧Bytes w' A r.1∧Below w.heap.size w w'
def NX(a:Nat)(w2:World)(k:Nat)(W:World):Prop:=W.heap[a]? =some (.cells #[.int .i64 (k:Nat)] 3 (0,0))∧Below a w2 W
theorem NX.below{a k:Nat}{w2:World}(h:NX a w2 k W)(hb:Below W.heap.size W W'):NX a w2 k W':=
 have hl:=Nat.le_of_lt (cr h.1)
 ⟨(hb.block _ (cr h.1)).trans h.1,h.2.trans (hb.mono hl)⟩
def aaI(a:Nat)(w2 W:World)(k n:Nat)(L:List UInt8)(e:Ending)(w':World):Prop:= ∃A' c',e= .returned (.slice A' n c')∧(n≤c'∧c'≤9223372036854775807)∧NX a w2 (k+n) w'∧Bytes w' A' L∧ ∀g l,g≠a→Bytes W (some ⟨g,0,none⟩) l→Bytes w' (some ⟨g,0,none⟩) l
theorem Bytes.WL(h:Bytes W (some ⟨g,0,none⟩) l)(hs:W.heap.size≤W'.heap.size)(he:W'.heap[g]? =W.heap[g]?):Bytes W' (some ⟨g,0,none⟩) l:=by
 rcases h with h | ⟨b,off,e,h2,h3⟩
 ·exact .inl h
 ·injection e with e;injection e with e1 e2;subst e1;subst e2;exact .inr ⟨_,_,rfl,Nat.lt_of_lt_of_le h2 hs,fun k hk=>(World.cell?_of_block (a:=⟨_,_,none⟩) he).trans (h3 k hk)⟩
theorem tO.err{er:Nat}(hb:Below w.heap.size w w'):tO w ([],0,(0,0),er) (.returned (.tuple #[.slice none 0 0,.int .i64 0,.agg #[.int .i64 0,.int .i64 0],.int .i64 (er:Nat)])) w':=⟨none,0,rfl,⟨Nat.le_refl _,aa⟩,.nil,hb⟩
theorem qP(A B:Option Addr)(l m:List UInt8)(c d n:Nat)(w:World)(h1:Bytes w A l)(h2:Bytes w B m)(hl:l.length=n)(hm:m.length=n)(he:l=m):Calls prog 36 #[.slice A n c,.slice B n d] w fun e w'=>e= .returned (.bool true)∧w=w':=by have h:=tN A B l m c d w h1 h2;rw[hl,hm,he,beq_self_eq_true]at h;exact h
theorem Jp(A:Option Addr)(B:List UInt8)(c:Nat)(check:Int)(mem:Nat)(w:World)(r:List UInt8×Nat×(Nat×Nat)×Nat)(hr:NI B check mem r)(tQ:eD check=true)(hT:nN w)(hB:Bytes w A B)(hA: ∀a,A=some a→a.block<w.heap.size)(hc:B.length≤c)(hm:c≤9223372036854775807)(hl:B.length≤1000000)(Oa:mem<18446744073709551616):
  Calls prog 11 #[.slice A B.length c,.int .i64 check,.int .u64 (mem:Nat)] w (tO w r):=by
 have⟨W,hW⟩:=ex ((w.alloc (.cells #[.slice A B.length c] 22)).alloc (.cells #[.int .i64 0,.int .i64 0] 29));obtain⟨aY,eT,eO,Oq⟩:=FF (vs:=[.slice A B.length c]) (us:=[.int .i64 0,.int .i64 0]) hW;have uc:=hdd (fun(W':World) (h:Below W.heap.size W W')=>(h.block _ (cr eT)).trans eT);have F5:Hid (∀W':World,Below W.heap.size W W'→W'.cell? ⟨w.heap.size,0,none⟩=some (.slice A B.length c)):=hdd (fun W' h=>by
  have h2:=(h.block _ (cr aY)).trans aY;rw[cell_of_row W' _ _ _ _ _ h2];rfl)
 have vt:=hdd (yj check W);have KN:=hdd (fun(W':World) (h:Below W.heap.size W W') (q:List UInt8×Nat×Nat) (hq:Jm B mem q)=>FE A B c mem W' q hq ((hB.below eO).below h) (fun a ha=>Nat.lt_of_lt_of_le (hA a ha) (Nat.le_trans eO.size h.size)) hc hm hl Oa);have HTA:=hdd (fun(W':World) (h:Below W.heap.size W W')=>(hT.below eO).below h);have HW:=hdd hW;have dV:=hdd eO;have HZ:=hdd Oq;have HB:=hdd (And.intro hB (And.intro hA (And.intro hc (And.intro hm hl))));have hrz:=uc.out W (Below.refl _ _);rw[tQ]at vt;have hx:=F5.out W (Below.refl _ _);clear aY eT hW eO Oq hB hA hc hm hl Oa tQ hT hrz;rcases hr with⟨er,h1,dr,rfl⟩ | ⟨D,u,h1,hu,hD,hr⟩
 ·have HP:=hdd (fun W' h=>KN.out W' h _ h1);obtain⟨ei,Oo⟩: ∃x:Int,(er:Int)=x:=⟨_,rfl⟩
  have amV:(ei==0)=false:=Ba;have HEI:=hdd Oo;clear h1 dr Oo KN;go_enter func11,ntmps11;go_upto_region 1 with fail;rw[HW.out];clear HW;go_wp2_with fail;refine vt.out.mono ?_;rintro e w1 ⟨rfl,aC⟩;have cu:=hdd aC;clear aC hx;have hx:=F5.out w1 cu.out;go_wp2_with fail;refine(HP.out w1 cu.out).mono ?_;rintro e w2 ⟨A2,c2,rfl,_,_,aE⟩;have dY:=hdd (aO cu.out aE);obtain⟨x0,x1,xf⟩:=fD (uc.out w2 dY.out);have xf0:=xf 0;have xf1:=xf 1;rw[HEI.out];clear aE xf hx;obtain⟨e0,e1,_⟩:=fD (heap_set (heap_set (uc.out w2 dY.out) 0 (.int .i64 0)) 1 (.int .i64 0));have Cf:=hdd (Below.setCell (p:=⟨w.heap.size+1,1,none⟩) (Below.setCell (p:=⟨w.heap.size+1,0,none⟩) (aO dV.out dY.out) ae (.int .i64 0)) ae (.int .i64 0));go_wp2_with fail;exact bodyPost_ret (v:= .tuple #[.slice none 0 0,.int .i64 0,.agg #[.int .i64 0,.int .i64 0],.int .i64 ei]) Bl rfl (by rw[←HEI.out];exact tO.err Cf.out)
 ·have HP:=hdd (fun W' h=>KN.out W' h _ h1);obtain⟨z,hz⟩: ∃n,bg u=n:=⟨_,rfl⟩
  obtain⟨y,hy⟩: ∃n,dj check=n:=⟨_,rfl⟩
  have hz3:z≤3:=by rw[←hz];unfold bg;omega
  have aga:y≤32:=by
   rw[←hy];unfold dj;split;·omega
   ·split;·omega
    ·split<;>omega
  rw[hz,hy]at hr;have HZE:=hdd (fun W=>uv u hu W);have HSI:=hdd (fun(W':World) (h:Below W.heap.size W W')=>Sm check W' (HTA.out W' h));rw[hz]at HZE;rw[hy]at HSI;have yH:=hdd (And.intro hu (And.intro hD (And.intro hz3 (And.intro aga hy))));have hui:(u:Int)≤1000000000:=aa;have ZK:(z:Int)≤3:=aa;have hyi:(y:Int)≤32:=aa;have hBi:(B.length:Int)≤1000000:=ar HB.out.2.2.2.2;clear h1 KN hu hD hz3 aga hz hy;go_enter func11,ntmps11;go_upto_region 1 with fail;rw[HW.out];clear HW;go_wp2_with fail;refine vt.out.mono ?_;rintro e w1 ⟨rfl,aC⟩;have cu:=hdd aC;clear aC hx;have hx:=F5.out w1 cu.out;go_wp2_with fail;refine(HP.out w1 cu.out).mono ?_;rintro e w2 ⟨A2,c2,rfl,⟨fS,eY⟩,gX,aE⟩;have dY:=hdd (aO cu.out aE);have H2:=hdd (And.intro gX (And.intro fS eY));clear aE hx fS eY gX HP vt;go_upto_region 8 with fail;obtain⟨w3,uD⟩: ∃W',w2.alloc (.cells #[.int .i64 (u:Nat)] 3)=W':=⟨_,rfl⟩
  obtain⟨iF,aW⟩:=ef (vs:=[.int .i64 (u:Nat)]) uD;rw[uD];obtain⟨a,ha⟩: ∃n,w2.heap.size=n:=⟨_,rfl⟩
  rw[ha]at iF aW ⊢;have HA:=hdd ha;have HN3:=hdd (show NX a w2 u w3 from⟨iF,aW⟩);have fc:=hdd (dY.out.trans (aW.mono (by rw[←ha];exact dY.out.size)));clear uD iF aW ha;go_wp2_with fail;refine(HZE.out _).mono ?_;rintro e x3 ⟨rfl,rfl⟩;go_wp2_with fail;refine(HSI.out w3 fc.out).mono ?_;rintro e w4 ⟨rfl,bc⟩;have Tr:=hdd (HN3.out.below bc);have iz:=hdd (aO fc.out bc);have hx:=F5.out w4 iz.out;have bx:w4.cell? ⟨a,0,none⟩=some (.int .i64 (u:Nat)):=by rw[cell_of_row w4 _ _ _ _ _ Tr.out.1];rfl
  clear bc;rcases hr with⟨aF,WW,rfl⟩ | ⟨hle,agb,wO,rfl⟩
  ·have tr:(B.length:Int)-(u:Int)<(z:Int)+(y:Int):=(by omega);have agc:(u:Int)≤(B.length:Int):=aa;obtain⟨x0,x1,xf⟩:=fD (uc.out w4 iz.out);have xf0:=xf 0;have xf1:=xf 1;obtain⟨e0,e1,_⟩:=fD (heap_set (heap_set (uc.out w4 iz.out) 0 (.int .i64 0)) 1 (.int .i64 0));have Cf:=hdd (Below.setCell (p:=⟨w.heap.size+1,1,none⟩) (Below.setCell (p:=⟨w.heap.size+1,0,none⟩) (aO dV.out iz.out) ae (.int .i64 0)) ae (.int .i64 0));clear aF WW xf;go_wp2_with fail;exact bodyPost_ret (v:= .tuple #[.slice none 0 0,.int .i64 0,.agg #[.int .i64 0,.int .i64 0],.int .i64 2]) Bl rfl (tO.err Cf.out)
  ·have am0:(z:Int)+(y:Int)≤(B.length:Int)-(u:Int):=(by omega);have agc:(u:Int)≤(B.length:Int):=aa;have N9:=hdd hle;have BE:=hdd agb;have HSU:=hdd wO;have jb:Hid (∀(k n:Nat) (W':World),NX a w2 k W'→k+n≤B.length→Calls prog 34 #[.int .i64 (n:Nat),.pointer (some ⟨a,0,none⟩),.pointer (some ⟨w.heap.size,0,none⟩)] W' (aaI a w2 W' k n ((B.drop k).take n))):=hdd (fun k n W' h hk=>by
    have aE:Below w2.heap.size w2 W':=(by rw[HA.out];exact h.2);have kt:=aO dY.out aE;have aF:w.heap.size<a:=(by rw[←HA.out];have h1:=dY.out.size;have h2:=HZ.out;omega);refine(Jo a w.heap.size A B c k n W' h.1 (F5.out W' kt) aa (HB.out.1.below (aO dV.out kt)) (fun x hx=>Nat.lt_trans (HB.out.2.1 x hx) aF) hk HB.out.2.2.1 HB.out.2.2.2.1 HB.out.2.2.2.2).mono ?_;rintro e w' ⟨A',c',e1,h1,rfl,h3⟩;exact⟨A',c',e1,h1,⟨heap_set (L:=[.int .i64 (k:Nat)]) h.1 0 (.int .i64 ((k+n:Nat):Int)),h.2.trans (Below.setCell (p:=⟨a,0,none⟩) (Below.refl _ _) (Nat.le_refl _) _)⟩,h3,fun g l hg hl=>hl.WL ae (ag _ _ _ _ hg)⟩)
   have HSM:=hdd (fun(W':World) (h:NX a w2 (u+z+y) W')=>(show Calls prog 18 #[.int .i64 check,.slice A2 D.length c2] W' (bS W' (jm check D))from by
    have aE:Below w2.heap.size w2 W':=(by rw[HA.out];exact h.2);exact Cz check A2 D c2 W' (HTA.out W' (aO dY.out aE)) (H2.out.1.below aE) H2.out.2.1 H2.out.2.2 (ar yH.out.2.1)))
   have HAL:=hdd (show a≤w4.heap.size from Nat.le_of_lt (cr Tr.out.1));clear hle agb wO;go_upto_region 11 with fail;clear am0 agc hx bx;go_cut [53]from 47 (fun s53 wx=>s53= .bool false∧NX a w2 (u+z) wx);case first=>
    refine wp_region_held_drew (S:=fun _=>True) ak trivial (fun hS=> ?_);refine af 0 hS (h:=af 1 hS (h:=af 3 hS (h:= ?_)));refine wpAnyH_ready (rs:=[2,4]) ak ae ?_;refine(AllReadyH.cons rfl (fun K hK=> ?_) (AllReadyH.cons rfl (fun K hK=> ?_) AllReadyH.nil));·skip;go_simp;refine(jb.out u z w4.drew (Tr.out.below (fl w4)) (ar N9.out)).mono ?_;rintro e x2 ⟨A5,c5,rfl,Dh,hn5,AD,_⟩;have H5:=hdd (And.intro hn5 AD);clear Dh hn5 AD;go_wp2_with fail;refine hK.out _ _ trivial (fun _=> ?_);clear hK K;refine aG 4 (fun K hK=> ?_);refine gm rfl (.tmp 50) (.tmp 50) rfl a z x2 rfl rfl (ar yH.out.2.2.1) (Nat.le_of_lt (cr H5.out.1.1)) ?_;intro x4 cH dK;have bc:Below x2.heap.size x2 x4:=am (Below.refl _ _) dK (Nat.le_refl _) (fun g e=>jX);have wZ:=hdd (qP A5 (some ⟨x2.heap.size,0,none⟩) _ _ c5 z z x4 (H5.out.2.below bc) (kW cH) (by rw[BE.out,List.length_replicate]) vc BE.out);have NR:=hdd (H5.out.1.below bc);clear cH dK bc;refine dR ?_;refine hK.out _ _ trivial (fun _=> ?_);clear hK K;refine aG 5 (fun K hK=> ?_);go_simp;refine wZ.out.mono ?_;rintro e x5 ⟨rfl,rfl⟩;go_wp2_with fail;refine hK.out _ _ trivial (fun _=> ?_);clear hK K;refine af 6 trivial (h:= ?_);refine wpAnyH_done ak ?_ _;go_wp2_with fail;go_meet;exact⟨rfl,NR.out⟩
    ·skip;refine gm rfl (.tmp 50) (.tmp 50) rfl a z w4.drew rfl rfl (ar yH.out.2.2.1) HAL.out ?_;intro x2 cH dK;have bc:Below w4.drew.heap.size w4.drew x2:=am (Below.refl _ _) dK (Nat.le_refl _) (fun g e=>jX);have HN5:=hdd ((Tr.out.below (fl w4)).below bc);have CX:=hdd cH;clear cH dK bc;refine dR ?_;refine hK.out _ _ trivial (fun _=> ?_);clear hK K;refine aG 2 (fun K hK=> ?_);go_simp;refine(jb.out u z x2 HN5.out (ar N9.out)).mono ?_;rintro e x4 ⟨A5,c5,rfl,Dh,hn5,AD,hkp⟩;have NR:=hdd hn5;have wZ:=hdd (qP A5 (some ⟨w4.drew.heap.size,0,none⟩) _ _ c5 z z x4 AD (hkp _ _ (Nat.ne_of_gt (cr Tr.out.1)) (kW CX.out)) (by rw[BE.out,List.length_replicate]) vc BE.out);clear Dh hn5 AD;go_wp2_with fail;refine hK.out _ _ trivial (fun _=> ?_);clear hK K;refine aG 5 (fun K hK=> ?_);go_simp;refine wZ.out.mono ?_;rintro e x5 ⟨rfl,rfl⟩;go_wp2_with fail;refine hK.out _ _ trivial (fun _=> ?_);clear hK K;refine af 6 trivial (h:= ?_);refine wpAnyH_done ak ?_ _;go_wp2_with fail;go_meet;exact⟨rfl,NR.out⟩
   case rest=>
   obtain⟨h53,iK⟩:=hcut;subst h53;have HN7:=hdd iK;clear iK;go_wp2_with fail;refine(jb.out (u+z) y wc HN7.out N9.out).mono ?_;rintro e w8 ⟨A8,c8,rfl,hc8,hn8,hB8,_⟩;have HN8:=hdd hn8;have pf:=hdd hB8;clear hc8 hn8 hB8;go_wp2_with fail;refine(HSM.out w8 HN8.out).mono ?_;rintro e w9 ⟨A9,c9,rfl,Ib,_,KO,vr⟩;have HN9:=hdd (HN8.out.below vr);have hy:=yH.out.2.2.2.2;have qe:(jm check D).length=y:=(by rw[gM];exact hy);rw[qe];have wZ:=hdd (qP A8 A9 _ _ c8 c9 y w9 (pf.out.below vr) KO (by rw[HSU.out];exact qe) qe HSU.out);clear vr KO Ib hy qe;go_wp2_with fail;refine wZ.out.mono ?_;rintro e Re ⟨rfl,rfl⟩;obtain⟨uy,huy⟩: ∃n,u+y=n:=⟨_,rfl⟩
   have wO:(u:Int)+(y:Int)=(uy:Int):=aa;have am1:(uy:Int)≤1000000100:=aa;have HUY:=hdd huy;obtain⟨t,ht⟩: ∃n,u+z+y=n:=⟨_,rfl⟩
   have CN:=hdd ht;have Tb:w9.cell? ⟨a,0,none⟩=some (.int .i64 (t:Nat)):=(by rw[←ht,cell_of_row w9 _ _ _ _ _ HN9.out.1];rfl);have aaJ:Below w2.heap.size w2 w9:=(by rw[HA.out];exact HN9.out.2);have uQ:=hdd (aO dY.out aaJ);obtain⟨x0,x1,xf⟩:=fD (uc.out w9 uQ.out);have xf0:=xf 0;have xf1:=xf 1;have Dc:Hid (∀(W':World) (i:Nat) (v:Value),(W'.setCell ⟨w.heap.size+1,i,none⟩ v).cell? ⟨a,0,none⟩=W'.cell? ⟨a,0,none⟩):=hdd (fun W' i v=>World.cell?_of_block (a:=⟨a,0,none⟩) (ag _ _ _ _ (by have h1:=HA.out;have h2:=dY.out.size;have h3:=HZ.out;show a≠w.heap.size+1;omega)));have HC9:=hdd Tb;have am3:=hdd aaJ;clear huy ht xf aaJ hui ZK hyi hBi;go_upto_region 15 with fail;clear wO am1 Tb;have wO:IntKind.i64.wrap ((u:Int)+(y:Int))=(uy:Int):=(by have h1:=HUY.out;have h2:=yH.out;rw[IntWalk.i64_in _ aa];omega);refine wp_region_held_drew (S:=fun W=>W.cell? ⟨a,0,none⟩=some (.int .i64 (t:Nat))) ak HC9.out (fun hS=> ?_);refine af 0 hS (h:=af 1 hS (h:=af 2 hS (h:=af 3 hS (h:=af 4 hS (h:=af 5 hS (h:=af 6 hS (h:=af 7 hS (h:=af 8 hS (h:=af 9 hS (h:= ?_))))))))));refine aG 10 (fun K hK=> ?_);go_simp;refine hK.out _ _ ((Dc.out _ _ _).trans ((Dc.out _ _ _).trans HC9.out)) (fun _=> ?_);clear hK K;refine af 11 ((Dc.out _ _ _).trans ((Dc.out _ _ _).trans HC9.out)) (h:= ?_);refine wpAnyH_done ak ?_ _;clear hS x0 x1 xf0 xf1;obtain⟨e0,e1,_⟩:=fD (heap_set (heap_set (uc.out w9 uQ.out) 0 (.int .i64 (uy:Nat))) 1 (.int .i64 (D.length:Nat)));have Cf:=hdd (Below.setCell (p:=⟨w.heap.size+1,1,none⟩) (Below.setCell (p:=⟨w.heap.size+1,0,none⟩) (aO dV.out uQ.out) ae (.int .i64 (uy:Nat))) ae (.int .i64 (D.length:Nat)));have HU2:=hdd (H2.out.1.below am3.out);go_wp2_with fail;refine bodyPost_ret (v:= .tuple #[.slice A2 D.length c2,.int .i64 (t:Nat),.agg #[.int .i64 (uy:Nat),.int .i64 (D.length:Nat)],.int .i64 0]) Bl rfl ⟨A2,c2,by rw[←HUY.out,←CN.out];rfl,⟨H2.out.2.1,H2.out.2.2⟩,?_,Cf.out.drew⟩;exact(Bytes.Ta (x:=(uy:Nat)) (y:=0) (Bytes.Ta (x:=0) (y:=0) HU2.out (uc.out w9 uQ.out) 0 _) (heap_set (uc.out w9 uQ.out) 0 (.int .i64 (uy:Nat))) 1 _).drew
theorem FG{o:Op}(h:o.Ok)(D:List UInt8)(hD:D.length≤100000)(hf: ∀f∈o.l,f.ok)(E:List UInt8):gc (eF (o.head D)++E)=(o.head D,(eF (o.head D)).length,0):=
 NH _ _ (o.fC h D hD).1 hf (o.fC h D hD).2
theorem Tc{o:Op}(h:o.Ok)(D:List UInt8)(hD:D.length≤100000)(hf: ∀f∈o.l,f.ok)(E:List UInt8)(mem:Nat)(hm:aJ (a7 o.dict)≤mem)(hu:UcR (o.packed D++E) (aJ (a7 o.dict)) (da o.l D,(o.packed D).length,0)):Jm (o.oz D++E) mem (D,(o.oz D).length,0):=by
 have hd:=po o.dict h.dict.2;have h4:=h.dict.1;have dv:=(sL _ h.may).1;have rI:=o.ko h D;have hhl:=o.sM h D hD hf;have hB:o.oz D++E=eF (o.head D)++(o.packed D++E):=by unfold Op.oz;rw[List.append_assoc]
 have qe:=di o.l D;refine .inr (.inr ⟨o.head D,(eF (o.head D)).length,da o.l D,(o.packed D).length,0,?_,?_,?_,.inr ⟨rfl,h.may,rfl,?_,?_,?_,?_,?_⟩⟩);·rw[hB];exact FG h D hD hf _
 ·rw[hB,List.length_append];show 1≤aJ (a7 o.dict)∧aJ (a7 o.dict)<4294967296∧aJ (a7 o.dict)≤mem∧_;omega
 ·rw[hB,List.drop_left];exact hu
 ·show((D.length:Nat):Int)=((da o.l D).length:Nat);rw[qe]
 ·rw[qe];omega
 ·omega
 ·omega
 ·show(D,(o.oz D).length,0)=(kS o.l (da o.l D),(eF (o.head D)).length+(o.packed D).length,0);rw[Fa _ _ dv];unfold Op.oz;rw[List.length_append]
theorem aaK{o:Op}(h:o.Ok)(D:List UInt8)(hD:D.length≤100000)(hf: ∀f∈o.l,f.ok)(E:List UInt8)(mem:Nat)(hm:mem<o.dict):Jm (eF (o.head D)++E) mem ([],0,9):=by have hd:=po o.dict h.dict.2;exact .inr (.inl ⟨o.head D,_,FG h D hD hf _,by show aJ (a7 o.dict)<4294967296;omega,by show mem<aJ (a7 o.dict);omega,rfl⟩)
theorem Op.WM{o:Op}(h:o.Ok)(D:List UInt8)(hD:D.length≤100000)(hf: ∀f∈o.l,f.ok):9≤(o.oz D).length∧(o.oz D).length≤500000:=by
 have h1:=o.ko h D;have h2:=o.sM h D hD hf;have h3:=(kX (o.head D) (o.fC h D hD).1 hf (o.fC h D hD).2)
 unfold Op.oz;rw[List.length_append];omega
theorem age{o:Op}(h:o.Ok)(D:List UInt8)(hD:D.length≤100000)(hf: ∀f∈o.l,f.ok)(E:List UInt8)(mem:Nat)(hrp: ∀E',Jm (o.oz D++E') mem (D,(o.oz D).length,0)):NI (o.ax D++E) o.check mem (D,(o.ax D).length,o.rc D,0):=by
 have hu:=o.WM h D hD hf;have hB:o.ax D++E=o.oz D++(List.replicate (bg (o.oz D).length) 0++(jm o.check D++E)):=by unfold Op.ax;simp only[List.append_assoc]
 have hs:=gM o.check D;refine .inr ⟨D,(o.oz D).length,by rw[hB];exact hrp _,aa,aa,.inr ⟨?_,?_,?_,?_⟩⟩;·rw[List.length_append,o.qO];omega
 ·rw[hB,List.drop_left,List.take_left' vc]
 ·rw[hB,←List.drop_drop,List.drop_left,List.drop_left' vc,List.take_left' hs]
 ·rw[o.qO];rfl
theorem aaL{o:Op}(h:o.Ok)(D:List UInt8)(hD:D.length≤100000)(hf: ∀f∈o.l,f.ok)(E:List UInt8)(mem:Nat)(hm:mem<o.dict):NI (o.ax D++E) o.check mem ([],0,(0,0),9):=by
 have hB:o.ax D++E=eF (o.head D)++(o.packed D++(List.replicate (bg (o.oz D).length) 0++(jm o.check D++E))):=by unfold Op.ax Op.oz;simp only[List.append_assoc]
 exact .inl ⟨9,by rw[hB];exact aaK h D hD hf _ mem hm,an,rfl⟩
def pO:Op:=⟨3,0,2,64,65536,65536,1,none,[],0,4096⟩
theorem vD:pO.sJ=true:=an
theorem CK(w:World):Calls prog 12 #[] w fun e w'=>e= .returned pO.v∧Below w.heap.size w w':=by go_enter func12,ntmps12;go_wp2_with fail;refine bodyPost_ret (v:=pO.v) (by simp[results,results12,go_sem,pO]) rfl ⟨rfl,?_⟩;exact ap
theorem agf(w:World):zr w pO:=⟨.inl rfl,an,an,an,an⟩
theorem FH: ∀f∈pO.l,f.ok:=fun f h=>by cases h
theorem NJ:pO.packed []=[0]:=rfl
theorem Td:(pO.oz []).length=13:=by have h1:=(kX (pO.head []) (pO.fC (Op.Ok.of vD) [] an).1 FH (pO.fC (Op.Ok.of vD) [] an).2).1;have h2:(km (bQ (pO.head []))).length=8:=jJ;unfold Op.oz;rw[List.length_append,h1,h2,NJ];rfl
theorem Yv:pO.rc []=(17,0):=by unfold Op.rc;rw[Td];rfl
theorem yw:(pO.ax []).length=20:=by rw[Op.qO,Td];rfl
theorem KP:aJ (a7 pO.dict)=4096:=jJ
theorem Jq(sI:NI (pO.ax []) pO.check 4096 ([],20,(17,0),0))(Te:NI (pO.ax []) pO.check 4095 ([],0,(0,0),9))(w:World)(hT:nN w):Calls prog 5 #[] w (Holds w):=by
 have hPK:=hdd (fun(W:World) (h:Below w.heap.size w W)=>yv pO none [] 0 W vD (agf W) FH (hT.below h) .nil an an an);have hRG:=hdd (fun(W:World) (g c mem:Nat) (r:List UInt8×Nat×(Nat×Nat)×Nat) (h:Below w.heap.size w W) (hB:Bytes W (some ⟨g,0,none⟩) (pO.ax [])) (hg:g<W.heap.size) (hc:20≤c) (hm:c≤9223372036854775807) (hr:NI (pO.ax []) pO.check mem r) (Oa:mem≤4096)=>(show Calls prog 11 #[.slice (some ⟨g,0,none⟩) 20 c,.int .i64 1,.int .u64 (mem:Nat)] W (tO W r)from by
  have h:=Jp (some ⟨g,0,none⟩) (pO.ax []) c pO.check mem W r hr an (hT.below h) hB (fun a e=>by injection e with e;rw[←e];exact hg) (by rw[yw];exact hc) hm (by rw[yw];decide) aa;rw[yw]at h;exact h))
 have HG:=hdd sI;have HM:=hdd Te;clear sI Te hT;go_enter func5,ntmps5;go_wp2_with fail;refine(CK w).mono ?_;rintro e w1 ⟨rfl,aC⟩;have cu:=hdd aC;have aaM:=hPK.out w1 aC;rw[Yv]at aaM;have LJ:=hdd aaM;clear aC aaM;go_wp2_with fail;refine LJ.out.mono ?_;rintro e w2 ⟨g,c,rfl,hc,hm,⟨_,hg⟩,hF,aE⟩;have dY:=hdd (aO cu.out aE);rw[yw]at hc ⊢;have H2:=hdd (And.intro hc (And.intro hm (And.intro hg (hF.bytes hg))));clear hc hm hg hF aE;go_upto_region 2 with fail;obtain⟨w3,uD⟩: ∃W',w2.alloc (.cells #[.int .i64 17,.int .i64 0] 29)=W':=⟨_,rfl⟩
 obtain⟨yC,aW⟩:=ef (vs:=[.int .i64 17,.int .i64 0]) uD;rw[uD];have H3:=hdd (And.intro yC aW);have fc:=hdd (aO dY.out aW);have iy:=hdd (hRG.out w3 g c 4096 _ fc.out (H2.out.2.2.2.below aW) (Nat.lt_of_lt_of_le H2.out.2.2.1 aW.size) H2.out.1 H2.out.2.1 HG.out (Nat.le_refl _));clear uD yC aW;go_wp2_with fail;refine iy.out.mono ?_;rintro e w4 ⟨A4,c4,rfl,_,_,bc⟩;have iz:=hdd (aO fc.out bc);have VC:=hdd bc;clear bc;go_upto_region 3 with fail;obtain⟨w5,FV⟩: ∃W',w4.alloc (.cells #[.int .i64 17,.int .i64 0] 29)=W':=⟨_,rfl⟩
 obtain⟨J5,fj⟩:=ef (vs:=[.int .i64 17,.int .i64 0]) FV;rw[FV];have H5:=hdd (And.intro J5 fj);have sP:=hdd (aO iz.out fj);have agh:=hdd (aO VC.out fj);have agi:=hdd (aO H3.out.2 agh.out);have iA:=hdd (hRG.out w5 g c 4095 _ sP.out (H2.out.2.2.2.below agi.out) (Nat.lt_of_lt_of_le H2.out.2.2.1 agi.out.size) H2.out.1 H2.out.2.1 HM.out an);clear FV J5 fj;go_wp2_with fail;refine iA.out.mono ?_;rintro e w6 ⟨A6,c6,rfl,_,_,oV⟩;have uN:=hdd (aO sP.out oV);have am4:=hdd oV;clear oV;go_upto_region 4 with fail;obtain⟨w7,Um⟩: ∃W',w6.alloc (.cells #[.int .i64 0,.int .i64 0] 29)=W':=⟨_,rfl⟩
 obtain⟨_,F6⟩:=ef (vs:=[.int .i64 0,.int .i64 0]) Um;rw[Um];have zw:=hdd (aO uN.out F6);have agj:=hdd (aO am4.out F6);have am5:=hdd (aO agh.out agj.out);obtain⟨x0,x1,_⟩:=fD ((am5.out.block _ (cr H3.out.1)).trans H3.out.1);obtain⟨y0,y1,_⟩:=fD ((agj.out.block _ (cr H5.out.1)).trans H5.out.1);clear Um F6;go_wp2_with fail;go_ret;exact⟨rfl,zw.out⟩
theorem WN(E:List UInt8):UcR (pO.packed []++E) (aJ (a7 pO.dict)) (da pO.l [],(pO.packed []).length,0):=fun A c W hB hA hc hm hl=>by rw[KP];exact Jr A (pO.packed []++E) c 4096 W hB hA hc hm aa an an (by rw[List.length_append];show 1≤1+_;omega) rfl
theorem CL(w:World)(hT:nN w):Calls prog 5 #[] w (Holds w):=by have aR:=Op.Ok.of vD;have sI:=age aR [] an FH [] 4096 fun E'=>Tc aR [] an FH E' 4096 (by rw[KP];exact Nat.le_refl _) (WN E');have Te:=aaL aR [] an FH [] 4095 an;rw[List.append_nil]at sI Te;rw[yw,Yv]at sI;exact Jq sI Te w hT
end Go.Proofs.YtgfpocdiojifoaaGreatDoor
