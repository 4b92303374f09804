import Derived.Test.YtfcaoggfnkhfiaaGreatDoorZ06
import Derived.Deep.Slices
import Derived.Deep.Fields
import Derived.ChangeSame
import Derived.Lib.SmallJoins
import Derived.Test.YtfcaoggfnkhfiaaGreatDoorZ12
import Derived.Deep.CutBlock
import Derived.Deep.DeepCutAuto
namespace Go.Proofs.YtfcaoggfnkhfiaaGreatDoor
set_option maxRecDepth 100000
set_option maxHeartbeats 8000000
open Go.RowKit Go.Proofs.Tryz
variable{had:Bool}{dict nice:Int}{Y:List Nat}{D:List UInt8}{p tt:Nat}{r:R4}{w:World}
abbrev iG(lc lp pb nice chunk block check:Int)(chain:Value)(dict:Nat):List Value:=[.int .i64 lc,.int .i64 lp,.int .i64 pb,.int .i64 nice,.int .i64 chunk,.int .i64 block,.int .i64 check,chain,.int .u32 (dict:Nat)]
abbrev Bh(lc lp pb nice chunk block check:Int)(chain:Value)(dict:Nat):Value:= .agg #[.int .i64 lc,.int .i64 lp,.int .i64 pb,.int .i64 nice,.int .i64 chunk,.int .i64 block,.int .i64 check,chain,.int .u32 (dict:Nat)]
def jU(lc lp pb nice chunk:Int)(dict:Nat):Bool:=jT lc lp pb&&decide ((2≤nice∧nice≤273)∧(1≤chunk∧chunk≤65536)∧4096≤dict∧dict≤67108864)
def Xv(n lo hi:Int):Bool:=decide (lo≤n∧n≤hi)
theorem yi(n lo hi:Int)(w:World):Calls prog 80 #[.int .i64 n,.int .i64 lo,.int .i64 hi] w fun e w'=>e= .returned (.bool (Xv n lo hi))∧w=w':=by
 by_cases h0:lo≤n;·have HS:Hid (Xv n lo hi=decide (n≤hi)):=ae (by unfold Xv;exact decide_eq_decide.2 aa);rw[HS.out];go_enter func80,ntmps80;go_wp2_with fail;go_ret;exact⟨rfl,rfl⟩
 ·have HS:Hid (Xv n lo hi=false):=ae (by unfold Xv;exact decide_eq_false aa);rw[HS.out];go_enter func80,ntmps80;go_wp2_with fail;go_ret;exact⟨rfl,rfl⟩
theorem gz{W:World}{vs:List Value}{t:TypeId}(h:w.alloc (.cells vs.toArray t)=W):W.heap[w.heap.size]? =some (.cells vs.toArray t (0,0))∧Below w.heap.size w W:=by subst h;exact⟨heap_alloc_new w _,ar⟩
def kU(b:Bool)(w:World)(e:Ending)(w':World):Prop:=e= .returned (.bool b)∧Below w.heap.size w w'
theorem FU(lc lp pb nice chunk block check:Int)(chain:Value)(dict:Nat)(w:World):
  Calls prog 53 #[Bh lc lp pb nice chunk block check chain dict] w (kU (jU lc lp pb nice chunk dict) w):=by
 have⟨R,hR⟩:=ex (jU lc lp pb nice chunk dict);rw[hR];have⟨W,hW⟩:=ex (w.alloc (.cells #[.int .i64 lc,.int .i64 lp,.int .i64 pb,.int .i64 nice,.int .i64 chunk,.int .i64 block,.int .i64 check,chain,.int .u32 (dict:Nat)] 26));obtain⟨aP,fw⟩:=gz (vs:=iG lc lp pb nice chunk block check chain dict) hW;have HC:Hid (∀W',Below W.heap.size W W'→W'.cell? ⟨w.heap.size,0,none⟩=some (.int .i64 lc)∧W'.cell? ⟨w.heap.size,1,none⟩=some (.int .i64 lp)∧W'.cell? ⟨w.heap.size,2,none⟩=some (.int .i64 pb)∧W'.cell? ⟨w.heap.size,3,none⟩=some (.int .i64 nice)∧W'.cell? ⟨w.heap.size,4,none⟩=some (.int .i64 chunk)∧W'.cell? ⟨w.heap.size,8,none⟩=some (.int .u32 (dict:Nat))):=ae (fun W' hb=>by
  have h:=(hb.block _ (cr aP)).trans aP;refine⟨?_,?_,?_,?_,?_,?_⟩<;>(rw[cell_of_row W' _ _ _ _ _ h];rfl))
 obtain⟨c0,c1,c2,_,_,_⟩:=HC.out W (Below.refl _ _);have HW:=ae hW;have dE:=ae fw;have HR:=ae hR;have HN:=ae (yi nice 2 273);have HK:=ae (yi chunk 1 65536);clear aP hW fw hR;cases hp:jT lc lp pb with
 | false=>
  have HM:=ae (FS lc lp pb W hp);have E6:Hid (R=false):=ae (by rw[←HR.out];unfold jU;rw[hp];rfl);clear hp;go_enter func53,ntmps53;go_upto_region 1 with fail;rw[HW.out];go_wp2_with fail;refine HM.out.mono ?_;rintro e w1 ⟨rfl,rfl⟩;go_wp2_with fail;go_ret;exact⟨ja,dE.out⟩
 | true=>
  have Dy:=of_decide_eq_true hp;obtain⟨lc,rfl⟩: ∃n:Nat,lc=n:=⟨lc.toNat,aa⟩
  obtain⟨lp,rfl⟩: ∃n:Nat,lp=n:=⟨lp.toNat,aa⟩
  obtain⟨pb,rfl⟩: ∃n:Nat,pb=n:=⟨pb.toNat,aa⟩
  have HM:=ae (qa lc lp pb W aa aa aa aa);have E6:Hid (R=decide ((2≤nice∧nice≤273)∧(1≤chunk∧chunk≤65536)∧4096≤dict∧dict≤67108864)):=ae (by rw[←HR.out];unfold jU;rw[hp];rfl);clear hp Dy;by_cases h1:2≤nice∧nice≤273;case neg=>have e1:Xv nice 2 273=false:=decide_eq_false h1;rw[e1]at HN;have RW:Hid (R=false):=ae (by rw[E6.out];exact decide_eq_false (fun h=>h1 h.1));clear h1 e1;go_enter func53,ntmps53;go_upto_region 1 with fail;rw[HW.out];go_wp2_with fail;refine HM.out.mono ?_;rintro e w1 ⟨C,L,rfl,_,az,_,_⟩;obtain⟨_,_,_,d3,d4,d8⟩:=HC.out w1 az;have a7:=ae az;clear az c0 c1 c2;go_wp2_with fail;refine(HN.out w1).mono ?_;rintro e w2 ⟨rfl,rfl⟩;go_wp2_with fail;go_ret;exact⟨by rw[RW.out];rfl,aM dE.out a7.out⟩
  case pos=>
   have e1:Xv nice 2 273=true:=decide_eq_true h1;rw[e1]at HN;by_cases h2:1≤chunk∧chunk≤65536;case neg=>have e2:Xv chunk 1 65536=false:=decide_eq_false h2;rw[e2]at HK;have RW:Hid (R=false):=ae (by rw[E6.out];exact decide_eq_false (fun h=>h2 h.2.1));clear h1 e1 h2 e2;go_enter func53,ntmps53;go_upto_region 1 with fail;rw[HW.out];go_wp2_with fail;refine HM.out.mono ?_;rintro e w1 ⟨C,L,rfl,_,az,_,_⟩;obtain⟨_,_,_,d3,d4,d8⟩:=HC.out w1 az;have a7:=ae az;clear az c0 c1 c2;go_wp2_with fail;refine(HN.out w1).mono ?_;rintro e w2 ⟨rfl,rfl⟩;go_wp2_with fail;refine(HK.out w1).mono ?_;rintro e w2 ⟨rfl,rfl⟩;go_wp2_with fail;go_ret;exact⟨by rw[RW.out];rfl,aM dE.out a7.out⟩
   case pos=>
    have e2:Xv chunk 1 65536=true:=decide_eq_true h2;rw[e2]at HK;have HRw:Hid (R=decide (4096≤dict∧dict≤67108864)):=ae (by rw[E6.out];exact decide_eq_decide.2 ⟨fun h=>h.2.2,fun h=>⟨h1,h2,h⟩⟩);clear h1 e1 h2 e2;by_cases h3:4096≤dict;case neg=>have RW:Hid (R=false):=ae (by rw[HRw.out];exact decide_eq_false (fun h=>h3 h.1));have e3: ¬(4096:Int)≤(dict:Int):=aa;go_enter func53,ntmps53;go_upto_region 1 with fail;rw[HW.out];go_wp2_with fail;refine HM.out.mono ?_;rintro e w1 ⟨C,L,rfl,_,az,_,_⟩;obtain⟨_,_,_,d3,d4,d8⟩:=HC.out w1 az;have a7:=ae az;clear az c0 c1 c2;go_wp2_with fail;refine(HN.out w1).mono ?_;rintro e w2 ⟨rfl,rfl⟩;go_wp2_with fail;refine(HK.out w1).mono ?_;rintro e w2 ⟨rfl,rfl⟩;go_wp2_with fail;go_ret;exact⟨by rw[RW.out];rfl,aM dE.out a7.out⟩
    case pos=>have e3:(4096:Int)≤(dict:Int):=aa;have⟨q,hq⟩:=ex (decide (dict≤67108864));have WN:decide ((dict:Int)≤67108864)=q:=(by rw[←hq];exact decide_eq_decide.2 aa);have RW:Hid (R=q):=ae (by rw[HRw.out,←hq];exact decide_eq_decide.2 aa);go_enter func53,ntmps53;go_upto_region 1 with fail;rw[HW.out];go_wp2_with fail;refine HM.out.mono ?_;rintro e w1 ⟨C,L,rfl,_,az,_,_⟩;obtain⟨_,_,_,d3,d4,d8⟩:=HC.out w1 az;have a7:=ae az;clear az c0 c1 c2;go_wp2_with fail;refine(HN.out w1).mono ?_;rintro e w2 ⟨rfl,rfl⟩;go_wp2_with fail;refine(HK.out w1).mono ?_;rintro e w2 ⟨rfl,rfl⟩;go_wp2_with fail;go_ret;exact⟨by rw[RW.out];simp,aM dE.out a7.out⟩
def uz(n:Nat):List UInt8:=[UInt8.ofNat (n/256),UInt8.ofNat n]
theorem ng(n:Nat)(hn:n≤281474976710656)(w:World):Calls prog 108 #[.int .i64 ((n+1:Nat):Int)] w (Jk w (uz n)):=by
 have h1:(((n+1:Nat):Int))-1=(n:Int):=aa;have h2:wrap64 (n:Int)=(n:Int):=fW aa aa;have pX:(n:Int)≤281474976710656:=aa;have HO:=ae (fun(v1 v2:Value) (e1:v1=B8 (UInt8.ofNat (n/256))) (e2:v2=B8 (UInt8.ofNat n))=>show Own w.heap.size (w.alloc (.cells #[v1,v2] 5)) (.slice (some ⟨w.heap.size,0,none⟩) 2 2) (uz n) by
  subst e1 e2;exact Own.lit w (uz n) (Nat.le_refl _) (by unfold uz;simp))
 have⟨k,hk⟩:=ex (((n+1:Nat):Int));rw[hk]at h1 ⊢;clear hk;go_enter func108,ntmps108;go_wp2_with fail;go_ret;refine⟨_,rfl,HO.out _ _ ?_ ?_,ar⟩;·simp only[B8,IntKind.wrap_u16,UInt8.toNat_ofNat'];congr 1;omega
 ·simp only[B8,IntKind.wrap_u16,UInt8.toNat_ofNat'];congr 1;omega
theorem Nj(lc lp pb:Nat)(nice chunk block check:Int)(chain:Value)(dict:Nat)(si:lc≤4)(ur:lp≤4)(wn:pb≤4)(w:World):
  Calls prog 109 #[Bh lc lp pb nice chunk block check chain dict] w fun e w'=>e= .returned (B8 (UInt8.ofNat (lc+9*(lp+5*pb))))∧Below w.heap.size w w':=by
 have⟨W,hW⟩:=ex (w.alloc (.cells #[.int .i64 (lc:Nat),.int .i64 (lp:Nat),.int .i64 (pb:Nat),.int .i64 nice,.int .i64 chunk,.int .i64 block,.int .i64 check,chain,.int .u32 (dict:Nat)] 26));obtain⟨aP,fw⟩:=gz (vs:=iG lc lp pb nice chunk block check chain dict) hW;have c0:W.cell? ⟨w.heap.size,0,none⟩=some (.int .i64 (lc:Nat)):=mX;have c1:W.cell? ⟨w.heap.size,1,none⟩=some (.int .i64 (lp:Nat)):=mX;have c2:W.cell? ⟨w.heap.size,2,none⟩=some (.int .i64 (pb:Nat)):=mX;have HW:=ae hW;have dE:=ae fw;have hi1:(lc:Int)≤4:=aa;have hi2:(lp:Int)≤4:=aa;have VN:(pb:Int)≤4:=aa;have HE:Hid (Value.int IntKind.u8 ((lc:Int)+9*((lp:Int)+5*(pb:Int)))=B8 (UInt8.ofNat (lc+9*(lp+5*pb)))):=ae (by
  simp only[B8,UInt8.toNat_ofNat'];congr 1;omega)
 clear aP hW fw;go_enter func109,ntmps109;go_upto_region 1 with fail;rw[HW.out];go_wp2_with fail;go_ret;exact⟨congrArg Ending.returned HE.out,dE.out⟩
section
open Go.ChangeShapes Go.WideShapes Go.ChangeAt Go.RowKit Go.Joins
theorem Nk{W:World}{b0:Nat}{t e:TypeId}{a:Addr}{len cap:Nat}(ht:prog.underlying t=some (.slice e))(h:Value.okWide prog W .any b0 t (.slice (some a) len cap)):a.block<W.heap.size:=by
 simp only[Value.okWide,ht,Cell.okWide,Cell.ok,World.has]at h;obtain⟨_,_,_,_,row,cells,hs,_⟩:=h;rcases Nat.lt_or_ge a.block W.heap.size with h | h;·exact h
 ·unfold World.shape? at hs;rw[Array.getElem?_eq_none h]at hs;cases hs
theorem vy{H:Type}{enc:TypeId×Value→H}{W:World}{b0:Nat}{v:Value}{d:DataW H}{p:List MemPlace}
  (hval:Value.okWide prog W .any b0 22 v) (h:DataW.Trod enc prog W 0 (fun _=>true) true 22 v d p):
  ∃(A:Option Addr) (l:List UInt8) (c:Nat),v= .slice A l.length c∧l.length≤c∧c≤9223372036854775807∧(Bytes W A l∧ ∀a,A=some a→a.block<W.heap.size):=by
 obtain⟨A,l,c,rfl,h1,h2,h3⟩:=IC hval h;refine⟨A,l,c,rfl,h1,h2,h3,fun a e=> ?_⟩;subst e;exact Nk underlying22 hval
theorem afh{l:List Value}(h:l.length=9): ∃a b c d e f g i j,l=[a,b,c,d,e,f,g,i,j]:=by
 match l,h with
 | [a,b,c,d,e,f,g,i,j],_=>exact⟨a,b,c,d,e,f,g,i,j,rfl⟩
theorem fx{H:Type}{enc:TypeId×Value→H}{W:World}{n:Nat}{t:TypeId}{k:IntKind}{cs:List Value}{j:Nat}{y:Option (DataW H×List MemPlace)}(hk:prog.underlying t=some (.int k))(hl:j<cs.length)
  (hy:y.isSome=true) (h:DataW.trod enc prog W 0 (fun _=>true) true n t ((cs.drop j).take 1)=y): ∃z,cs[j]? =some (.int k z)∧(Lit.int k z).wf=true:=by
 obtain⟨x,rfl⟩:=Option.isSome_iff_exists.1 hy;obtain⟨z,hz,_,hw⟩:=DataW.trod_int hk h;refine⟨z,?_,hw⟩;have e:(cs.drop j).take 1=[cs[j]]:=by rw[List.drop_eq_getElem_cons hl];rfl
 rw[e]at hz;injection hz with hz;rw[List.getElem?_eq_getElem hl,hz]
theorem RX:prog.cellsOf 26=9:=ai
end
abbrev fX:Type:=(Nat→Nat)×Rc.St
theorem not_false{b:Bool}(h:b=true): ¬b=false:=fun e=>Bool.noConfusion (h.symm.trans e)
theorem FW(g at_:Nat)(v:Int): ∀(n m:Nat) (x:fX),Md.cW (aj g) at_ v n m x=Md.cW (aj 0) at_ v n m x
 | 0,_,_=>rfl
 | n+1,m,x=>FW g at_ v n (2*m+((aj 0).au (at_+m) (Md.aQ v n) x).1.toNat) ((aj 0).au (at_+m) (Md.aQ v n) x).2
theorem DL(g at_ n:Nat)(v:Int)(x:fX):Md.tree (aj g) at_ n v x=Md.tree (aj 0) at_ n v x:=
 congrArg (fun y:Nat×fX=>(y.1-2^n,y.2)) (FW g at_ v n 1 x)
theorem LM(g at_:Nat)(v:Int): ∀(k i m a:Nat) (x:fX),Md.gq (aj g) at_ v k i m a x=Md.gq (aj 0) at_ v k i m a x
 | 0,_,_,_,_=>rfl
 | k+1,i,m,a,x=>LM g at_ v k (i+1) (2*m+((aj 0).au (at_+m) (Md.aQ v i) x).1.toNat) (a+((aj 0).au (at_+m) (Md.aQ v i) x).1.toNat*2^i) ((aj 0).au (at_+m) (Md.aQ v i) x).2
theorem Z6(g at_ n:Nat)(v:Int)(x:fX):Md.rev (aj g) at_ n v x=Md.rev (aj 0) at_ n v x:=LM g at_ v n 0 1 0 x
theorem RZ(g A p:Nat)(l:Int)(x:fX):Md.len (aj g) A p l x=Md.len (aj 0) A p l x:=by
 cases h1:((aj 0).au A (decide (8≤l-2)) x).1 with
 | false=>exact(show Md.len (aj g) A p l x=_ from if_pos h1).trans ((congrArg (fun y:Nat×fX=>(2+y.1,y.2)) (DL g (A+2+8*p) 3 (l-2) _)).trans (show Md.len (aj 0) A p l x=_ from if_pos h1).symm)
 | true=>
  cases h2:((aj 0).au (A+1) (decide (16≤l-2)) ((aj 0).au A (decide (8≤l-2)) x).2).1 with
  | false=>exact(show Md.len (aj g) A p l x=_ from(if_neg (not_false h1)).trans (if_pos h2)).trans ((congrArg (fun y:Nat×fX=>(10+y.1,y.2)) (DL g (A+130+8*p) 3 (l-2-8) _)).trans (show Md.len (aj 0) A p l x=_ from(if_neg (not_false h1)).trans (if_pos h2)).symm)
  | true=>exact(show Md.len (aj g) A p l x=_ from(if_neg (not_false h1)).trans (if_neg (not_false h2))).trans ((congrArg (fun y:Nat×fX=>(18+y.1,y.2)) (DL g (A+258) 8 (l-2-16) _)).trans (show Md.len (aj 0) A p l x=_ from(if_neg (not_false h1)).trans (if_neg (not_false h2))).symm)
def cH(io:Io)(d:Nat)(y:Nat×io.S):Nat×io.S:=
 if y.1<4 then(y.1+1,y.2)
 else if y.1<14 then((2+y.1%2)*2^(y.1/2-1)+(Md.rev io (1716+32*y.1) (y.1/2-1) (d:Nat) y.2).1+1,(Md.rev io (1716+32*y.1) (y.1/2-1) (d:Nat) y.2).2)
 else((2+y.1%2)*2^(y.1/2-1)+(io.plain y.2.2 (d/16%2^(y.1/2-1-4)) (y.1/2-1-4)).1%2^(y.1/2-1-4)*16+(Md.rev io 2164 4 (d:Nat) (y.2.1,(io.plain y.2.2 (d/16%2^(y.1/2-1-4)) (y.1/2-1-4)).2)).1+1,(Md.rev io 2164 4 (d:Nat) (y.2.1,(io.plain y.2.2 (d/16%2^(y.1/2-1-4)) (y.1/2-1-4)).2)).2)
theorem Jm(g d:Nat)(y:Nat×fX):cH (aj g) d y=cH (aj 0) d y:=by
 by_cases h1:y.1<4;·exact(show cH (aj g) d y=_ from if_pos h1).trans (show cH (aj 0) d y=_ from if_pos h1).symm
 ·by_cases h2:y.1<14;·exact(show cH (aj g) d y=_ from(if_neg h1).trans (if_pos h2)).trans ((congrArg (fun z:Nat×fX=>((2+y.1%2)*2^(y.1/2-1)+z.1+1,z.2)) (Z6 g (1716+32*y.1) (y.1/2-1) (d:Nat) y.2)).trans (show cH (aj 0) d y=_ from(if_neg h1).trans (if_pos h2)).symm)
  ·exact(show cH (aj g) d y=_ from(if_neg h1).trans (if_neg h2)).trans ((congrArg (fun z:Nat×fX=>((2+y.1%2)*2^(y.1/2-1)+((aj 0).plain y.2.2 (d/16%2^(y.1/2-1-4)) (y.1/2-1-4)).1%2^(y.1/2-1-4)*16+z.1+1,z.2)) (Z6 g 2164 4 (d:Nat) (y.2.1,((aj 0).plain y.2.2 (d/16%2^(y.1/2-1-4)) (y.1/2-1-4)).2))).trans (show cH (aj 0) d y=_ from(if_neg h1).trans (if_neg h2)).symm)
theorem qb(io:Io)(l:Nat)(dd:Int)(x:io.S):Md.bM io l dd x=cH io ((dd-1)%4294967296).toNat (Md.tree io (1460+64*min (l-2) 3) 6 (gr ((dd-1)%4294967296).toNat:Nat) x):=rfl
theorem aaY(g l:Nat)(d:Int)(x:fX):Md.bM (aj g) l d x=Md.bM (aj 0) l d x:=
 (qb (aj g) l d x).trans ((Jm g _ _).trans ((congrArg (fun y=>cH (aj 0) ((d-1)%4294967296).toNat y) (DL g _ 6 _ x)).trans (qb (aj 0) l d x).symm))
theorem LN(g T like:Nat)(v:Int): ∀(n m:Nat) (al:Bool) (x:fX),Md.gJ (aj g) T like v n m al x=Md.gJ (aj 0) T like v n m al x
 | 0,_,_,_=>rfl
 | n+1,_,_,_=>LN g T like v n _ _ _
theorem afi(g lc lp st:Nat)(a:Int)(H:List UInt8)(v:Int)(x:fX):Md.lit (aj g) lc lp st a H v x=Md.lit (aj 0) lc lp st a H v x:=
 congrArg (fun y:Nat×fX=>(UInt8.ofNat y.1,y.2)) (LN g _ _ v 8 1 _ x)
def dB(io:Io)(st p:Nat)(l:Int)(w:Nat×io.S):(Nat×Nat)×io.S:=
 if w.1=0 then
  if(io.au (240+16*st+p) (l !=1) w.2).1=false then((0,1),(io.au (240+16*st+p) (l !=1) w.2).2)
  else((0,(Md.len io 946 p l (io.au (240+16*st+p) (l !=1) w.2).2).1),(Md.len io 946 p l (io.au (240+16*st+p) (l !=1) w.2).2).2)
 else((w.1,(Md.len io 946 p l w.2).1),(Md.len io 946 p l w.2).2)
theorem Jn(g st p:Nat)(l:Int)(w:Nat×fX):dB (aj g) st p l w=dB (aj 0) st p l w:=by
 by_cases h1:w.1=0
 ·cases h2:((aj 0).au (240+16*st+p) (l !=1) w.2).1 with
  | false=>exact(show dB (aj g) st p l w=_ from(if_pos h1).trans (if_pos h2)).trans (show dB (aj 0) st p l w=_ from(if_pos h1).trans (if_pos h2)).symm
  | true=>exact(show dB (aj g) st p l w=_ from(if_pos h1).trans (if_neg (not_false h2))).trans ((congrArg (fun z:Nat×fX=>((0,z.1),z.2)) (RZ g 946 p l ((aj 0).au (240+16*st+p) (l !=1) w.2).2)).trans (show dB (aj 0) st p l w=_ from(if_pos h1).trans (if_neg (not_false h2))).symm)
 ·exact(show dB (aj g) st p l w=_ from if_neg h1).trans ((congrArg (fun z:Nat×fX=>((w.1,z.1),z.2)) (RZ g 946 p l w.2)).trans (show dB (aj 0) st p l w=_ from if_neg h1).symm)
theorem aaZ(g st p:Nat)(l q:Int)(x:fX):Md.kP (aj g) st p l q x=Md.kP (aj 0) st p l q x:=Jn g st p l (Md.which (aj 0) st q x)
theorem afj(g lc lp pb st:Nat)(r:R4)(H:List UInt8)(k:Int)(b:UInt8)(l d q:Int)(x:fX):Md.sym (aj g) lc lp pb st r H k b l d q x=Md.sym (aj 0) lc lp pb st r H k b l d q x:=by
 cases h1:((aj 0).au (16*st+H.length%2^pb) (k !=0) x).1 with
 | false=>exact(show Md.sym (aj g) lc lp pb st r H k b l d q x=_ from if_pos h1).trans ((congrArg (fun z:UInt8×fX=>((⟨0,z.1,0,0,0⟩:Sy),bW st,r,z.2)) (afi g lc lp st r.1 H (b.toNat:Nat) ((aj 0).au (16*st+H.length%2^pb) (k !=0) x).2)).trans (show Md.sym (aj 0) lc lp pb st r H k b l d q x=_ from if_pos h1).symm)
 | true=>
  cases h2:((aj 0).au (192+st) (k !=1) ((aj 0).au (16*st+H.length%2^pb) (k !=0) x).2).1 with
  | false=>
   refine(show Md.sym (aj g) lc lp pb st r H k b l d q x=_ from(if_neg (not_false h1)).trans (if_pos h2)).trans (Eq.trans ?_ (show Md.sym (aj 0) lc lp pb st r H k b l d q x=_ from(if_neg (not_false h1)).trans (if_pos h2)).symm);have e1:=RZ g 432 (H.length%2^pb) l ((aj 0).au (192+st) (k !=1) ((aj 0).au (16*st+H.length%2^pb) (k !=0) x).2).2;have e2:=fun(n:Nat×fX)=>aaY g n.1 d n.2;exact(congrArg (fun n:Nat×fX=>((⟨1,0,n.1,(Md.bM (aj g) n.1 d n.2).1,0⟩:Sy),(if st<7 then 7 else 10),aY r 3 ((Md.bM (aj g) n.1 d n.2).1:Nat),(Md.bM (aj g) n.1 d n.2).2)) e1).trans (congrArg (fun z:Nat×fX=>((⟨1,0,(Md.len (aj 0) 432 (H.length%2^pb) l ((aj 0).au (192+st) (k !=1) ((aj 0).au (16*st+H.length%2^pb) (k !=0) x).2).2).1,z.1,0⟩:Sy),(if st<7 then 7 else 10),aY r 3 (z.1:Nat),z.2)) (e2 _))
  | true=>
   refine(show Md.sym (aj g) lc lp pb st r H k b l d q x=_ from(if_neg (not_false h1)).trans (if_neg (not_false h2))).trans (Eq.trans ?_ (show Md.sym (aj 0) lc lp pb st r H k b l d q x=_ from(if_neg (not_false h1)).trans (if_neg (not_false h2))).symm);exact congrArg (fun z:(Nat×Nat)×fX=>((⟨2,0,z.1.2,0,z.1.1⟩:Sy),(if st<7 then(if z.1.2=1 then 9 else 8)else 11),aY r z.1.1 (r4 r.1 r.2.1 r.2.2.1 r.2.2.2 z.1.1),z.2)) (aaZ g st (H.length%2^pb) l q ((aj 0).au (192+st) (k !=1) ((aj 0).au (16*st+H.length%2^pb) (k !=0) x).2).2)
theorem pi(hp:p<tt)(ht:tt≤D.length)(hD:D.length≤100000)(qO:1≤dict)(hn:nice≤273):abf D dict p r (im D dict nice tt p r):=by
 unfold im iH;have⟨X,hX⟩:=ex ((tt:Int)-(p:Int):Int);rw[hX];obtain⟨⟨rn,VX⟩,hr⟩: ∃z,eY D dict (p:Int) X r.1 r.2.1 r.2.2.1 r.2.2.2=z:=⟨_,rfl⟩
 obtain⟨⟨mn,mk⟩,hm⟩: ∃z,nY D dict nice (p:Int) X=z:=⟨_,rfl⟩
 rw[hr,hm];simp only;split
 ·rename_i h1;have aH:VX<4:=by have:=rD (g:=fun i=>eo D dict (p:Int) (r4 r.1 r.2.1 r.2.2.1 r.2.2.2 i) X) 4 ak;unfold eY at hr;rw[hr]at this;exact this
  have dm:eo D dict (p:Int) (r4 r.1 r.2.1 r.2.2.1 r.2.2.2 VX) X=rn:=by
   have:=rE (g:=fun i=>eo D dict (p:Int) (r4 r.1 r.2.1 r.2.2.1 r.2.2.2 i) X) 4;unfold eY at hr;rw[hr]at this;rcases this with e | e;·simp only at e;omega
   ·exact e
  obtain⟨k,hk,hc,hkd,hl,fJ⟩:=ph dm aa;have L1:=afN r VX;rw[hk]at L1;have Lq:=hc.back;have hdz:iF r ((2:Nat):Int) ((0:Nat):Int) (VX:Nat)=(k:Int):=L1;refine⟨Nat.le_refl 2,by show VX≤3;omega,?_,by rw[hdz];exact hkd,rfl,⟨k,hdz,fun _=>⟨hc.one,Lq⟩,?_⟩,?_,hl⟩;·show iW r (p:Int) 2 (rn:Nat) 0 (VX:Nat)=true;unfold iW;rw[L1];simp;omega
  ·show jV (D.take p) 2 0 rn k=D.take (p+max rn 1);rw[show max rn 1=rn by omega];exact lJ rn hc
  ·show p+max rn 1≤D.length;have:=hc.fits;omega
 ·split
  ·rename_i h1 h2;obtain⟨g2,g3,hc,hkd,_⟩:=vI hm aa;have Lq:=hc.back;have cC:=hc.one;refine⟨(by decide:1≤2),Nat.zero_le 3,?_,hkd,rfl,⟨mk,rfl,fun _=>⟨hc.one,Lq⟩,?_⟩,?_,by show mn≤273;omega⟩;·show iW r (p:Int) 1 (mn:Nat) (mk:Nat) 0=true;unfold iW;simp;omega
   ·show jV (D.take p) 1 0 mn mk=D.take (p+max mn 1);rw[show max mn 1=mn by omega];exact lJ mn hc
   ·show p+max mn 1≤D.length;have:=hc.fits;omega
  ·split
   ·rename_i h1 h2 h3;have⟨l,hl⟩:=ex (eo D dict (p:Int) r.1 X);rw[hl]at h3;obtain⟨k,hk,hc,hkd,_,_⟩:=ph hl aa;have Sq:Cut D p 1 k:=⟨hc.one,hc.back,am hc.fits,fun i hi=>hc.same i aa⟩
    have Lq:=hc.back;have hdz:iF r ((2:Nat):Int) ((0:Nat):Int) ((0:Nat):Int)=(k:Int):=hk;have L1:LJ r 0=(k:Int):=hk;refine⟨Nat.le_refl 2,Nat.zero_le 3,?_,by rw[hdz];exact hkd,rfl,⟨k,hdz,fun _=>⟨hc.one,Lq⟩,?_⟩,?_,by show 1≤273;decide⟩;·show iW r (p:Int) 2 1 0 0=true;unfold iW;rw[L1];simp;omega
    ·show jV (D.take p) 2 0 1 k=D.take (p+max 1 1);exact lJ 1 Sq
    ·show p+max 1 1≤D.length;omega
   ·refine⟨Nat.zero_le 2,Nat.zero_le 3,rfl,by show(0:Int)≤dict;omega,rfl,⟨0,rfl,fun h=>absurd rfl h,?_⟩,?_,Nat.zero_le _⟩;·show D.take p++[D.getD p 0]=D.take (p+max 0 1);rw[show max 0 1=1 from rfl,List.take_add_one,dj (Nat.lt_of_lt_of_le hp ht),List.getElem?_eq_getElem (Nat.lt_of_lt_of_le hp ht)];rfl
    ·show p+max 0 1≤D.length;omega
theorem L3(hp:p<tt):p+max (im D dict nice tt p r).l 1≤tt:=by
 unfold im iH;have⟨X,hX⟩:=ex ((tt:Int)-(p:Int):Int);rw[hX];obtain⟨⟨rn,VX⟩,hr⟩: ∃z,eY D dict (p:Int) X r.1 r.2.1 r.2.2.1 r.2.2.2=z:=⟨_,rfl⟩
 obtain⟨⟨mn,mk⟩,hm⟩: ∃z,nY D dict nice (p:Int) X=z:=⟨_,rfl⟩
 rw[hr,hm];simp only;split
 ·rename_i h1;have dm:eo D dict (p:Int) (r4 r.1 r.2.1 r.2.2.1 r.2.2.2 VX) X=rn:=by
   have:=rE (g:=fun i=>eo D dict (p:Int) (r4 r.1 r.2.1 r.2.2.1 r.2.2.2 i) X) 4;unfold eY at hr;rw[hr]at this;rcases this with e | e;·simp only at e;omega
   ·exact e
  obtain⟨k,hk,hc,hkd,hl,fJ⟩:=ph dm aa;show p+max rn 1≤tt;omega
 ·split;·rename_i h1 h2;obtain⟨g2,g3,hc,hkd,fJ⟩:=vI hm aa;show p+max mn 1≤tt;omega
  ·split;·show p+max 1 1≤tt;omega
   ·show p+max 0 1≤tt;omega
section
structure gG where
 A:Option Addr
 D:List UInt8
 cD:Nat
 lc:Nat
 lp:Nat
 pb:Nat
 nice:Int
 chunk:Int
 block:Int
 check:Int
 chain:Value
 dict:Nat
 F:Nat
abbrev U'(k:gG)(cv:Value)(had:Bool):List Value:=
 [.slice k.A k.D.length k.cD,.int .i64 (k.lc:Nat),.int .i64 (k.lp:Nat),.int .i64 (k.pb:Nat),.int .i64 k.nice,.int .i64 k.chunk,.int .i64 k.block,.int .i64 k.check,k.chain,.int .u32 (k.dict:Nat),PF k.F,cv,.bool had]
def fm(w:World)(p:Nat)(k:gG)(cv:Value)(had:Bool):Prop:=w.heap[p]? =some (.cells (U' k cv had).toArray 103 (0,0))
section
variable{w w':World}{p:Nat}{k:gG}{cv:Value}{had:Bool}
theorem fm.lt(h:fm w p k cv had):p<w.heap.size:=(cr h)
theorem fm.aA(h:fm w p k cv had)(hk:w'.heap[p]? =w.heap[p]?):fm w' p k cv had:=hk.trans h
theorem fm.below(h:fm w p k cv had)(hb:Below w.heap.size w w'):fm w' p k cv had:=h.aA (hb.block _ h.lt)
theorem fm.frozen(h:fm w p k cv had)(i:Nat):w.frozen? ⟨p,i,none⟩=false:=frozen_of_row _ _ _ _ _ h
theorem fm.data(h:fm w p k cv had):w.cell? ⟨p,0,none⟩=some (.slice k.A k.D.length k.cD):=rj
theorem fm.lc(h:fm w p k cv had):w.cell? ⟨p,1,none⟩=some (.int .i64 (k.lc:Nat)):=rj
theorem fm.lp(h:fm w p k cv had):w.cell? ⟨p,2,none⟩=some (.int .i64 (k.lp:Nat)):=rj
theorem fm.pb(h:fm w p k cv had):w.cell? ⟨p,3,none⟩=some (.int .i64 (k.pb:Nat)):=rj
theorem fm.find(h:fm w p k cv had):w.cell? ⟨p,10,none⟩=some (PF k.F):=rj
theorem fm.VZ(h:fm w p k cv had):w.cell? ⟨p,11,none⟩=some cv:=rj
theorem fm.afT(h:fm w p k cv had):w.cell? ⟨p,12,none⟩=some (.bool had):=rj
theorem fm.opts(h:fm w p k cv had):w.cell? ⟨p,4,none⟩=some (.int .i64 k.nice)∧w.cell? ⟨p,5,none⟩=some (.int .i64 k.chunk)∧w.cell? ⟨p,6,none⟩=some (.int .i64 k.block)∧w.cell? ⟨p,7,none⟩=some (.int .i64 k.check)∧w.cell? ⟨p,8,none⟩=some k.chain∧w.cell? ⟨p,9,none⟩=some (.int .u32 (k.dict:Nat)):=by refine⟨?_,?_,?_,?_,?_,?_⟩<;>(rw[cell_of_row w _ _ _ _ _ h];rfl)
theorem fm.SC(h:fm w p k cv had)(cv':Value):fm (w.setCell ⟨p,11,none⟩ cv') p k cv' had:=heap_set h 11 cv'
theorem fm.abj(h:fm w p k cv had)(b:Bool):fm (w.setCell ⟨p,12,none⟩ (.bool b)) p k cv b:=heap_set h 12 (.bool b)
end
abbrev eZ:Type:=Option (Nat×R4×(Nat→Nat))
def rF:Nat×R4×(Nat→Nat):=(0,(1,1,1,1),fun _=>1024)
structure NG(w:World)(k:gG)(C L:Nat)(s:Nat×R4×(Nat→Nat)):Prop where
 mod:bB w C L k.lc k.lp k.pb s.1 s.2.1 s.2.2
 st:s.1<12
 NH:dI s.2.1
def n5(w:World)(k:gG)(cv:Value)(Y:List Nat):eZ→Prop
 | none=>cv= .pointer none∧Y=[]
 | some s=> ∃C L,cv=PF C∧Y=[C,L]∧NG w k C L s
theorem NG.aA{w w':World}{k:gG}{C L:Nat}{s:Nat×R4×(Nat→Nat)}(h:NG w k C L s)(hC:w'.heap[C]? =w.heap[C]?)(hL:w'.heap[L]? =w.heap[L]?):NG w' k C L s:=⟨h.mod.aA hC hL,h.st,h.NH⟩
theorem n5.lt{w:World}{k:gG}{cv:Value}{Y:List Nat}{s:eZ}(h:n5 w k cv Y s): ∀i∈Y,i<w.heap.size:=by
 cases s with
 | none=>obtain⟨_,rfl⟩:=h;intro i hi;cases hi
 | some s=>
  obtain⟨C,L,_,rfl,hc⟩:=h;intro i hi;simp only[List.mem_cons,List.not_mem_nil,or_false]at hi;rcases hi with rfl | rfl;·exact hc.mod.Au
  ·exact hc.mod.xS
theorem n5.aA{w w':World}{k:gG}{cv:Value}{Y:List Nat}{s:eZ}(h:n5 w k cv Y s)(hk: ∀i∈Y,w'.heap[i]? =w.heap[i]?):n5 w' k cv Y s:=by
 cases s with
 | none=>exact h
 | some s=>
  obtain⟨C,L,e,rfl,hc⟩:=h;exact⟨C,L,e,rfl,hc.aA (hk C ag) (hk L ag)⟩
theorem n5.below{w w':World}{k:gG}{cv:Value}{Y:List Nat}{s:eZ}(h:n5 w k cv Y s)(hb:Below w.heap.size w w'):n5 w' k cv Y s:=h.aA fun i hi=>hb.block i (h.lt i hi)
theorem n5.apart{w:World}{k:gG}{cv:Value}{Y:List Nat}{s:eZ}(h:n5 w k cv Y s){j:Nat}{cs:Array Value}{t:TypeId}{x:Nat×Nat}(hj:w.heap[j]? =some (.cells cs t x))(h1:t≠171)(h2:t≠317):j ∉ Y:=by
 cases s with
 | none=>obtain⟨_,rfl⟩:=h;intro hi;cases hi
 | some s=>
  obtain⟨C,L,_,rfl,hc⟩:=h;intro hi;simp only[List.mem_cons,List.not_mem_nil,or_false]at hi;rcases hi with rfl | rfl;·obtain⟨T,hT,_⟩:=hc.mod.box;rw[hj]at hT;injection hT with hT;injection hT with _ e _;exact h1 e
  ·obtain⟨T,hT,_⟩:=hc.mod.lits;rw[hj]at hT;injection hT with hT;injection hT with _ e _;exact h2 e
structure Pk(w:World)(p:Nat)(k:gG)(s:eZ)(had:Bool)(Y:List Nat):Prop where
 ex: ∃cv,fm w p k cv had∧n5 w k cv Y s
theorem Pk.lt{w:World}{p:Nat}{k:gG}{s:eZ}{had:Bool}{Y:List Nat}(h:Pk w p k s had Y):p<w.heap.size:=by obtain⟨cv,h1,_⟩:=h.ex;exact h1.lt
theorem Pk.ltY{w:World}{p:Nat}{k:gG}{s:eZ}{had:Bool}{Y:List Nat}(h:Pk w p k s had Y): ∀i∈Y,i<w.heap.size:=by obtain⟨cv,_,h2⟩:=h.ex;exact h2.lt
theorem Pk.below{w w':World}{p:Nat}{k:gG}{s:eZ}{had:Bool}{Y:List Nat}(h:Pk w p k s had Y)(hb:Below w.heap.size w w'):Pk w' p k s had Y:=by obtain⟨cv,h1,h2⟩:=h.ex;exact⟨cv,h1.below hb,h2.below hb⟩
theorem Pk.aA{w w':World}{p:Nat}{k:gG}{s:eZ}{had:Bool}{Y:List Nat}(h:Pk w p k s had Y)(hk: ∀i∈p::Y,w'.heap[i]? =w.heap[i]?):Pk w' p k s had Y:=by obtain⟨cv,h1,h2⟩:=h.ex;exact⟨cv,h1.aA (hk p ag),h2.aA fun i hi=>hk i (by simp[hi])⟩
theorem Pk.own{base:Nat}{w:World}{p:Nat}{k:gG}{s:eZ}{had:Bool}{Y:List Nat}(h:Pk w p k s had Y){v:Value}{l:List UInt8}(ho:Own base w v l): ∀g,v.ownBlock=some g→g ∉ p::Y:=by
 obtain⟨cv,h1,h2⟩:=h.ex;intro g hg;rcases ho with⟨_,⟨rfl,_⟩ | ⟨g',dX,cur,rfl,_,h4,_⟩⟩
 ·cases hg
 ·have e:g'=g:=by simpa [Value.ownBlock]using hg
  subst e;intro hi;rcases List.mem_cons.1 hi with rfl | hi;·unfold fm at h1;rw[h4]at h1;injection h1 with h1;injection h1 with _ e _;revert e;decide
  ·exact h2.apart h4 ak ak hi
def jO(lc lp pb:Nat)(D:List UInt8):List Sy→Nat→Nat×R4×fX→Nat×R4×fX
 | [],_,z=>z
 | s::l,p,z=>jO lc lp pb D l (p+max s.l 1) ((Md.sym (aj 0) lc lp pb z.1 z.2.1 (D.take p) (s.k:Nat) s.b (s.l:Nat) (s.d:Nat) (s.r:Nat) z.2.2).2)
def sS(k:gG)(a b:Nat)(r:R4):List Sy:=(aV k.D (k.dict:Nat) k.nice b (b-a) a r).1
def bx(k:gG)(a b:Nat)(s:Nat×R4×(Nat→Nat)):List UInt8×(Nat×R4×(Nat→Nat)):=
 let z:=jO k.lc k.lp k.pb k.D (sS k a b s.2.1) a (s.1,s.2.1,(s.2.2,ML))
 (Rc.be (5+z.2.2.2.k) z.2.2.2.v,(z.1,z.2.1,z.2.2.1))
end
def ro(a:Nat)(had:Bool)(s:eZ):UInt8:=if a=0 then 224 else if had=false then 192 else if s.isNone=true then 160 else 128
theorem Gd{k:gG}{s:eZ}(h:Pk w p k s had Y)(a:Nat):
  Calls prog 106 #[PF p,.int .i64 (a:Nat)] w fun e w'=>e= .returned (B8 (ro a had s))∧w=w':=by
 obtain⟨cv,hP,hC⟩:=h.ex;have c11:=hP.VZ;have c12:=hP.afT;clear h hP;by_cases ha:a=0;·subst ha;have HV:Hid (B8 (ro 0 had s)= .int .u8 224):=ae rfl;go_enter func106,ntmps106;go_wp2_with fail;go_ret;exact⟨congrArg Ending.returned HV.out.symm,rfl⟩
 ·have h0:((a:Int)==0)=false:=by rw[beq_eq_false_iff_ne];omega
  cases had with
  | false=>
   have HV:Hid (B8 (ro a false s)= .int .u8 192):=ae (by unfold ro;rw[if_neg ha];rfl);clear ha;go_enter func106,ntmps106;go_wp2_with fail;go_ret;exact⟨congrArg Ending.returned HV.out.symm,rfl⟩
  | true=>
   cases s with
   | none=>
    obtain⟨rfl,_⟩:=hC;have HV:Hid (B8 (ro a true none)= .int .u8 160):=ae (by unfold ro;rw[if_neg ha];rfl);clear ha;go_enter func106,ntmps106;go_wp2_with fail;go_ret;exact⟨congrArg Ending.returned HV.out.symm,rfl⟩
   | some s=>
    obtain⟨C,L,rfl,_,_⟩:=hC;have HV:Hid (B8 (ro a true (some s))= .int .u8 128):=ae (by unfold ro;rw[if_neg ha];rfl);clear ha;go_enter func106,ntmps106;go_wp2_with fail;go_ret;exact⟨congrArg Ending.returned HV.out.symm,rfl⟩
def dU(D:List UInt8)(a b:Nat):List UInt8:=((if a=0 then 1 else 2)::uz (b-a-1))++(D.drop a).take (b-a)
def Cm(w:World)(p:Nat)(k:gG)(had:Bool)(l:List UInt8)(e:Ending)(w':World):Prop:= ∃v,e= .returned v∧Own w.heap.size w' v l∧Pk w' p k none had []∧aw [p] w w'
theorem NI{k:gG}{s:eZ}(h:Pk w p k s had Y){bD oD:Nat}(hA:k.A=some ⟨bD,oD,none⟩)(hB:Bytes w k.A k.D)(hpD:bD≠p)(hc:k.D.length≤k.cD)(hl:k.D.length≤100000)(a b:Nat)(sU:a<b)(hb:b≤k.D.length):
  Calls prog 110 #[PF p,.int .i64 (a:Nat),.int .i64 (b:Nat)] w (Cm w p k had (dU k.D a b)):=by
 obtain⟨cv,hP,_⟩:=h.ex;have aH:=hP.lt;have D0:=hP.SC (.pointer none);have c11:=hP.VZ;have f11:=hP.frozen 11;have⟨W1,fv⟩:=ex (w.setCell ⟨p,11,none⟩ (.pointer none));have jc:aw [p] w W1:=by rw[←fv];exact(aw.refl _ _).setCell (.inl ag) _
 have js:W1.heap.size=w.heap.size:=by rw[←fv];simp[World.setCell]
 rw[fv]at D0;have eW:Bytes W1 k.A k.D:=hB.only jc (fun a ha=>by rw[hA]at ha;injection ha with ha;subst ha;simpa using hpD);have⟨D,hD⟩:=ex (k.D);have BN:=D0.data;rw[hD]at hc hl hb eW BN ⊢;rw[hA]at BN eW;obtain⟨cD,hcD⟩: ∃c,k.cD=c:=⟨_,rfl⟩
 rw[hcD]at hc BN;have⟨x,hx⟩:=ex ((if a=0 then 1 else 2):UInt8);have⟨R,hR⟩:=ex (dU D a b);have bQ:([x]++uz (b-a-1))++(D.drop a).take (b-a)=R:=by rw[←hR];unfold dU;rw[hx];rfl
 rw[hR];have⟨T,hT⟩:=ex ((D.drop a).take (b-a));rw[hT]at bQ;have mh:T.length=b-a:=by rw[←hT,List.length_take,List.length_drop];omega
 have hai:(a:Int)<(b:Int):=aa;have hbi:(b:Int)≤(D.length:Int):=aa;have qw:(D.length:Int)≤100000:=aa;have pW:(D.length:Int)≤(cD:Int):=aa;have xc:(b:Int)-(a:Int)=((b-a-1+1:Nat):Int):=aa;have⟨W2,mc⟩:=ex (W1.alloc (.cells #[B8 x] 5));have el:Own W1.heap.size W2 (.slice (some ⟨W1.heap.size,0,none⟩) 1 1) [x]:=by rw[←mc];exact Own.lit W1 [x] (Nat.le_refl _) ag
 have aD:Below W1.heap.size W1 W2:=C0;have HT:=ae (ng (b-a-1) aa W2);have⟨T2,m7⟩:=ex (uz (b-a-1));have afW:T2.length=2:=by rw[←m7];rfl
 rw[m7]at HT bQ;have qD:=ae afW;clear m7 afW;rw[←xc]at HT;have oQ:=ae fv;have Ay:=ae mc;have BS:=ae el;have dW:=ae aD;have kg:=ae jc;have sk:=ae js;have gl:=ae bQ;have Vy:=ae (And.intro hT mh);have Bm:=ae D0;have ou:=ae eW;have HL:=ae (And.intro sU (And.intro hb (And.intro hl hc)));have HCD:=ae BN;have Id:=ae xc;have LI:=ae (And.intro hA (And.intro hD hcD));have At:=ae aH;clear h hP D0 fv mc el aD jc js eW hB hA hD hcD hc hl hb sU bQ BN xc aH hpD hR hT mh;have fL:(a=0∧x=1)∨(a≠0∧x=2):=by
  by_cases e:a=0;·left;rw[if_pos e]at hx;exact⟨e,hx.symm⟩
  ·right;rw[if_neg e]at hx;exact⟨e,hx.symm⟩
 clear hx;have HX:Hid (∀(e:Ending) (w':World),∀v4 w4 v5,Own W1.heap.size w4 v4 ([x]++T2)→Below W1.heap.size W1 w4→Own W1.heap.size w' v5 (([x]++T2)++T)→w4.grownBy w' v4.ownBlock→e= .returned v5→Cm w p k had R e w'):=ae (by
  rintro e w' v4 w4 v5 cY bm lZ je rfl;have eu:Below W1.heap.size W1 w':=ao bm je bm.size (fun g e=>(cY.ax g e).1);rw[gl.out]at lZ;refine⟨v5,rfl,by rw[←sk.out];exact lZ,⟨_,Bm.out.below eu,rfl,rfl⟩,?_⟩;exact kg.out.trans (aw.aF eu) (fun i hi=> .inl hi))
 have Bn:=HX.out;clear HX;have HX:=ae Bn;clear Bn;have iN:=ae (show Bytes W1 (some ⟨bD,oD+a,none⟩) T from by rw[←Vy.out.1];exact(ou.out.drop a).take _);rcases fL with⟨ha,rfl⟩ | ⟨ha,rfl⟩
 ·have h0:((a:Int)==0)=true:=by rw[beq_iff_eq];omega
  clear ha;go_enter func110,ntmps110;go_upto_region 2 with fail;rw[oQ.out];clear c11 f11;go_wp2_with fail;rw[show W1.alloc (Obj.cells #[Value.int .u8 1] 5)=W2 from Ay.out];refine HT.out.mono ?_;rintro e w3 ⟨v3,rfl,fE,bA⟩;obtain⟨A3,c3,rfl,_,_,ln⟩:=fE.read;have gF:=ae (aM dW.out bA);have SD:=ae (BS.out.below bA);have SE:=ae ln;clear fE bA ln;go_upto_region 6 with(at_builtin;refine ap ?_ (.tmp 15) (.tmp 19) ?_ W1.heap.size w3 (.slice (some ⟨W1.heap.size,0,none⟩) 1 1) [1] ?_ SD.out A3 T2 c3 ?_ SE.out (by rw[qD.out];decide) gF.out.size ?_;rfl;rfl;rfl;rfl;intro v4 w4 cY et;have Ba:=ae cY;have iV:=ae (ao gF.out et gF.out.size (fun g e=>(SD.out.ax g e).1));have BN:=((Bm.out.below iV.out).data);rw[LI.out.1,LI.out.2.1,LI.out.2.2]at BN;clear cY et)
  go_wp2_with (at_builtin;refine ap ?_ (.tmp 21) (.tmp 28) ?_ W1.heap.size w4 v4 ([1]++T2) ?_ Ba.out (some ⟨bD,oD+a,none⟩) T (cD-a) ?_ (iN.out.below iV.out) Qw iV.out.size ?_;rfl;rfl;rfl;rw[Vy.out.2];rfl;intro v5 w5 lZ je;have rA:=ae (HX.out _ _ v4 w4 v5 Ba.out iV.out lZ je rfl);clear lZ je)
  go_ret;exact rA.out
 ·have h0:((a:Int)==0)=false:=by rw[beq_eq_false_iff_ne];omega
  clear ha;go_enter func110,ntmps110;go_upto_region 2 with fail;rw[oQ.out];clear c11 f11;go_wp2_with fail;rw[show W1.alloc (Obj.cells #[Value.int .u8 2] 5)=W2 from Ay.out];refine HT.out.mono ?_;rintro e w3 ⟨v3,rfl,fE,bA⟩;obtain⟨A3,c3,rfl,_,_,ln⟩:=fE.read;have gF:=ae (aM dW.out bA);have SD:=ae (BS.out.below bA);have SE:=ae ln;clear fE bA ln;go_upto_region 6 with(at_builtin;refine ap ?_ (.tmp 15) (.tmp 19) ?_ W1.heap.size w3 (.slice (some ⟨W1.heap.size,0,none⟩) 1 1) [2] ?_ SD.out A3 T2 c3 ?_ SE.out (by rw[qD.out];decide) gF.out.size ?_;rfl;rfl;rfl;rfl;intro v4 w4 cY et;have Ba:=ae cY;have iV:=ae (ao gF.out et gF.out.size (fun g e=>(SD.out.ax g e).1));have BN:=((Bm.out.below iV.out).data);rw[LI.out.1,LI.out.2.1,LI.out.2.2]at BN;clear cY et)
  go_wp2_with (at_builtin;refine ap ?_ (.tmp 21) (.tmp 28) ?_ W1.heap.size w4 v4 ([2]++T2) ?_ Ba.out (some ⟨bD,oD+a,none⟩) T (cD-a) ?_ (iN.out.below iV.out) Qw iV.out.size ?_;rfl;rfl;rfl;rw[Vy.out.2];rfl;intro v5 w5 lZ je;have rA:=ae (HX.out _ _ v4 w4 v5 Ba.out iV.out lZ je rfl);clear lZ je)
  go_ret;exact rA.out
end Go.Proofs.YtfcaoggfnkhfiaaGreatDoor
