import Derived.Test.YtgfpocdiojifoaaGreatDoorZ14
import Derived.Deep.Slices
import Derived.Deep.Fields
import Derived.ChangeSame
import Derived.Lib.SmallJoins
import Derived.Test.YtgfpocdiojifoaaGreatDoorZ11
import Derived.Deep.CutBlock
import Derived.Deep.DeepCutAuto
namespace Go.Proofs.YtgfpocdiojifoaaGreatDoor
set_option maxRecDepth 100000
set_option maxHeartbeats 8000000
open Go.RowKit Go.Proofs.Tryz
variable{had:Bool}{dict nice:Int}{Y:List Nat}{D:List UInt8}{p tt:Nat}{r:R4}{w:World}
abbrev ip(lc lp pb nice chunk block check:Int)(chain:Value)(dict:Nat):List Value:=[.int .i64 lc,.int .i64 lp,.int .i64 pb,.int .i64 nice,.int .i64 chunk,.int .i64 block,.int .i64 check,chain,.int .u32 (dict:Nat)]
abbrev wV(lc lp pb nice chunk block check:Int)(chain:Value)(dict:Nat):Value:= .agg #[.int .i64 lc,.int .i64 lp,.int .i64 pb,.int .i64 nice,.int .i64 chunk,.int .i64 block,.int .i64 check,chain,.int .u32 (dict:Nat)]
def jE(lc lp pb nice chunk:Int)(dict:Nat):Bool:=mX lc lp pb&&decide ((2≤nice∧nice≤273)∧(1≤chunk∧chunk≤65536)∧4096≤dict∧dict≤67108864)
def UT(n lo hi:Int):Bool:=decide (lo≤n∧n≤hi)
theorem wW(n lo hi:Int)(w:World):Calls prog 51 #[.int .i64 n,.int .i64 lo,.int .i64 hi] w fun e w'=>e= .returned (.bool (UT n lo hi))∧w=w':=by
 by_cases h0:lo≤n;·have HS:Hid (UT n lo hi=decide (n≤hi)):=hdd (by unfold UT;exact decide_eq_decide.2 aa);rw[HS.out];go_enter func51,ntmps51;go_wp2_with fail;go_ret;exact⟨rfl,rfl⟩
 ·have HS:Hid (UT n lo hi=false):=hdd (by unfold UT;exact decide_eq_false aa);rw[HS.out];go_enter func51,ntmps51;go_wp2_with fail;go_ret;exact⟨rfl,rfl⟩
theorem ef{W:World}{vs:List Value}{t:TypeId}(h:w.alloc (.cells vs.toArray t)=W):W.heap[w.heap.size]? =some (.cells vs.toArray t (0,0))∧Below w.heap.size w W:=by subst h;exact⟨heap_alloc_new w _,ap⟩
def rM(b:Bool)(w:World)(e:Ending)(w':World):Prop:=e= .returned (.bool b)∧Below w.heap.size w w'
theorem D3(lc lp pb nice chunk block check:Int)(chain:Value)(dict:Nat)(w:World):
  Calls prog 24 #[wV lc lp pb nice chunk block check chain dict] w (rM (jE lc lp pb nice chunk dict) w):=by
 have⟨R,hR⟩:=ex (jE lc lp pb nice chunk dict);rw[hR];have⟨W,hW⟩:=ex (w.alloc (.cells #[.int .i64 lc,.int .i64 lp,.int .i64 pb,.int .i64 nice,.int .i64 chunk,.int .i64 block,.int .i64 check,chain,.int .u32 (dict:Nat)] 26));obtain⟨aY,eO⟩:=ef (vs:=ip lc lp pb nice chunk block check chain dict) hW;have HC:Hid (∀W',Below W.heap.size W W'→W'.cell? ⟨w.heap.size,0,none⟩=some (.int .i64 lc)∧W'.cell? ⟨w.heap.size,1,none⟩=some (.int .i64 lp)∧W'.cell? ⟨w.heap.size,2,none⟩=some (.int .i64 pb)∧W'.cell? ⟨w.heap.size,3,none⟩=some (.int .i64 nice)∧W'.cell? ⟨w.heap.size,4,none⟩=some (.int .i64 chunk)∧W'.cell? ⟨w.heap.size,8,none⟩=some (.int .u32 (dict:Nat))):=hdd (fun W' hb=>by
  have h:=(hb.block _ (cr aY)).trans aY;refine⟨?_,?_,?_,?_,?_,?_⟩<;>(rw[cell_of_row W' _ _ _ _ _ h];rfl))
 obtain⟨c0,c1,c2,_,_,_⟩:=HC.out W (Below.refl _ _);have HW:=hdd hW;have dV:=hdd eO;have HR:=hdd hR;have HN:=hdd (wW nice 2 273);have HK:=hdd (wW chunk 1 65536);clear aY hW eO hR;cases hp:mX lc lp pb with
 | false=>
  have HM:=hdd (PU lc lp pb W hp);have Dl:Hid (R=false):=hdd (by rw[←HR.out];unfold jE;rw[hp];rfl);clear hp;go_enter func24,ntmps24;go_upto_region 1 with fail;rw[HW.out];go_wp2_with fail;refine HM.out.mono ?_;rintro e w1 ⟨rfl,rfl⟩;go_wp2_with fail;go_ret;exact⟨iL,dV.out⟩
 | true=>
  have wC:=of_decide_eq_true hp;obtain⟨lc,rfl⟩: ∃n:Nat,lc=n:=⟨lc.toNat,aa⟩
  obtain⟨lp,rfl⟩: ∃n:Nat,lp=n:=⟨lp.toNat,aa⟩
  obtain⟨pb,rfl⟩: ∃n:Nat,pb=n:=⟨pb.toNat,aa⟩
  have HM:=hdd (zQ lc lp pb W aa aa aa aa);have Dl:Hid (R=decide ((2≤nice∧nice≤273)∧(1≤chunk∧chunk≤65536)∧4096≤dict∧dict≤67108864)):=hdd (by rw[←HR.out];unfold jE;rw[hp];rfl);clear hp wC;by_cases h1:2≤nice∧nice≤273;case neg=>have e1:UT nice 2 273=false:=decide_eq_false h1;rw[e1]at HN;have PZ:Hid (R=false):=hdd (by rw[Dl.out];exact decide_eq_false (fun h=>h1 h.1));clear h1 e1;go_enter func24,ntmps24;go_upto_region 1 with fail;rw[HW.out];go_wp2_with fail;refine HM.out.mono ?_;rintro e w1 ⟨C,L,rfl,_,aC,_,_⟩;obtain⟨_,_,_,d3,d4,d8⟩:=HC.out w1 aC;have cu:=hdd aC;clear aC c0 c1 c2;go_wp2_with fail;refine(HN.out w1).mono ?_;rintro e w2 ⟨rfl,rfl⟩;go_wp2_with fail;go_ret;exact⟨by rw[PZ.out];rfl,aO dV.out cu.out⟩
  case pos=>
   have e1:UT nice 2 273=true:=decide_eq_true h1;rw[e1]at HN;by_cases h2:1≤chunk∧chunk≤65536;case neg=>have e2:UT chunk 1 65536=false:=decide_eq_false h2;rw[e2]at HK;have PZ:Hid (R=false):=hdd (by rw[Dl.out];exact decide_eq_false (fun h=>h2 h.2.1));clear h1 e1 h2 e2;go_enter func24,ntmps24;go_upto_region 1 with fail;rw[HW.out];go_wp2_with fail;refine HM.out.mono ?_;rintro e w1 ⟨C,L,rfl,_,aC,_,_⟩;obtain⟨_,_,_,d3,d4,d8⟩:=HC.out w1 aC;have cu:=hdd aC;clear aC c0 c1 c2;go_wp2_with fail;refine(HN.out w1).mono ?_;rintro e w2 ⟨rfl,rfl⟩;go_wp2_with fail;refine(HK.out w1).mono ?_;rintro e w2 ⟨rfl,rfl⟩;go_wp2_with fail;go_ret;exact⟨by rw[PZ.out];rfl,aO dV.out cu.out⟩
   case pos=>
    have e2:UT chunk 1 65536=true:=decide_eq_true h2;rw[e2]at HK;have HRw:Hid (R=decide (4096≤dict∧dict≤67108864)):=hdd (by rw[Dl.out];exact decide_eq_decide.2 ⟨fun h=>h.2.2,fun h=>⟨h1,h2,h⟩⟩);clear h1 e1 h2 e2;by_cases h3:4096≤dict;case neg=>have PZ:Hid (R=false):=hdd (by rw[HRw.out];exact decide_eq_false (fun h=>h3 h.1));have e3: ¬(4096:Int)≤(dict:Int):=aa;go_enter func24,ntmps24;go_upto_region 1 with fail;rw[HW.out];go_wp2_with fail;refine HM.out.mono ?_;rintro e w1 ⟨C,L,rfl,_,aC,_,_⟩;obtain⟨_,_,_,d3,d4,d8⟩:=HC.out w1 aC;have cu:=hdd aC;clear aC c0 c1 c2;go_wp2_with fail;refine(HN.out w1).mono ?_;rintro e w2 ⟨rfl,rfl⟩;go_wp2_with fail;refine(HK.out w1).mono ?_;rintro e w2 ⟨rfl,rfl⟩;go_wp2_with fail;go_ret;exact⟨by rw[PZ.out];rfl,aO dV.out cu.out⟩
    case pos=>have e3:(4096:Int)≤(dict:Int):=aa;have⟨q,hq⟩:=ex (decide (dict≤67108864));have mq:decide ((dict:Int)≤67108864)=q:=(by rw[←hq];exact decide_eq_decide.2 aa);have PZ:Hid (R=q):=hdd (by rw[HRw.out,←hq];exact decide_eq_decide.2 aa);go_enter func24,ntmps24;go_upto_region 1 with fail;rw[HW.out];go_wp2_with fail;refine HM.out.mono ?_;rintro e w1 ⟨C,L,rfl,_,aC,_,_⟩;obtain⟨_,_,_,d3,d4,d8⟩:=HC.out w1 aC;have cu:=hdd aC;clear aC c0 c1 c2;go_wp2_with fail;refine(HN.out w1).mono ?_;rintro e w2 ⟨rfl,rfl⟩;go_wp2_with fail;refine(HK.out w1).mono ?_;rintro e w2 ⟨rfl,rfl⟩;go_wp2_with fail;go_ret;exact⟨by rw[PZ.out];simp,aO dV.out cu.out⟩
def nt(n:Nat):List UInt8:=[UInt8.ofNat (n/256),UInt8.ofNat n]
theorem mx(n:Nat)(hn:n≤281474976710656)(w:World):Calls prog 77 #[.int .i64 ((n+1:Nat):Int)] w (li w (nt n)):=by
 have h1:(((n+1:Nat):Int))-1=(n:Int):=aa;have h2:wrap64 (n:Int)=(n:Int):=eN aa aa;have sO:(n:Int)≤281474976710656:=aa;have HO:=hdd (fun(v1 v2:Value) (e1:v1=B8 (UInt8.ofNat (n/256))) (e2:v2=B8 (UInt8.ofNat n))=>show Own w.heap.size (w.alloc (.cells #[v1,v2] 5)) (.slice (some ⟨w.heap.size,0,none⟩) 2 2) (nt n) by
  subst e1 e2;exact Own.lit w (nt n) (Nat.le_refl _) (by unfold nt;simp))
 have⟨k,hk⟩:=ex (((n+1:Nat):Int));rw[hk]at h1 ⊢;clear hk;go_enter func77,ntmps77;go_wp2_with fail;go_ret;refine⟨_,rfl,HO.out _ _ ?_ ?_,ap⟩;·simp only[B8,IntKind.wrap_u16,UInt8.toNat_ofNat'];congr 1;omega
 ·simp only[B8,IntKind.wrap_u16,UInt8.toNat_ofNat'];congr 1;omega
theorem Ln(lc lp pb:Nat)(nice chunk block check:Int)(chain:Value)(dict:Nat)(ks:lc≤4)(wz:lp≤4)(yU:pb≤4)(w:World):
  Calls prog 78 #[wV lc lp pb nice chunk block check chain dict] w fun e w'=>e= .returned (B8 (UInt8.ofNat (lc+9*(lp+5*pb))))∧Below w.heap.size w w':=by
 have⟨W,hW⟩:=ex (w.alloc (.cells #[.int .i64 (lc:Nat),.int .i64 (lp:Nat),.int .i64 (pb:Nat),.int .i64 nice,.int .i64 chunk,.int .i64 block,.int .i64 check,chain,.int .u32 (dict:Nat)] 26));obtain⟨aY,eO⟩:=ef (vs:=ip lc lp pb nice chunk block check chain dict) hW;have c0:W.cell? ⟨w.heap.size,0,none⟩=some (.int .i64 (lc:Nat)):=mf;have c1:W.cell? ⟨w.heap.size,1,none⟩=some (.int .i64 (lp:Nat)):=mf;have c2:W.cell? ⟨w.heap.size,2,none⟩=some (.int .i64 (pb:Nat)):=mf;have HW:=hdd hW;have dV:=hdd eO;have hi1:(lc:Int)≤4:=aa;have hi2:(lp:Int)≤4:=aa;have UU:(pb:Int)≤4:=aa;have HE:Hid (Value.int IntKind.u8 ((lc:Int)+9*((lp:Int)+5*(pb:Int)))=B8 (UInt8.ofNat (lc+9*(lp+5*pb)))):=hdd (by
  simp only[B8,UInt8.toNat_ofNat'];congr 1;omega)
 clear aY hW eO;go_enter func78,ntmps78;go_upto_region 1 with fail;rw[HW.out];go_wp2_with fail;go_ret;exact⟨congrArg Ending.returned HE.out,dV.out⟩
section
open Go.ChangeShapes Go.WideShapes Go.ChangeAt Go.RowKit Go.Joins
theorem Lo{W:World}{b0:Nat}{t e:TypeId}{a:Addr}{len cap:Nat}(ht:prog.underlying t=some (.slice e))(h:Value.okWide prog W .any b0 t (.slice (some a) len cap)):a.block<W.heap.size:=by
 simp only[Value.okWide,ht,Cell.okWide,Cell.ok,World.has]at h;obtain⟨_,_,_,_,row,cells,hs,_⟩:=h;rcases Nat.lt_or_ge a.block W.heap.size with h | h;·exact h
 ·unfold World.shape? at hs;rw[Array.getElem?_eq_none h]at hs;cases hs
theorem D4{H:Type}{enc:TypeId×Value→H}{W:World}{b0:Nat}{v:Value}{d:DataW H}{p:List MemPlace}
  (hval:Value.okWide prog W .any b0 22 v) (h:DataW.Trod enc prog W 0 (fun _=>true) true 22 v d p):
  ∃(A:Option Addr) (l:List UInt8) (c:Nat),v= .slice A l.length c∧l.length≤c∧c≤9223372036854775807∧(Bytes W A l∧ ∀a,A=some a→a.block<W.heap.size):=by
 obtain⟨A,l,c,rfl,h1,h2,h3⟩:=Gp hval h;refine⟨A,l,c,rfl,h1,h2,h3,fun a e=> ?_⟩;subst e;exact Lo underlying22 hval
theorem adn{l:List Value}(h:l.length=9): ∃a b c d e f g i j,l=[a,b,c,d,e,f,g,i,j]:=by
 match l,h with
 | [a,b,c,d,e,f,g,i,j],_=>exact⟨a,b,c,d,e,f,g,i,j,rfl⟩
theorem eS{H:Type}{enc:TypeId×Value→H}{W:World}{n:Nat}{t:TypeId}{k:IntKind}{cs:List Value}{j:Nat}{y:Option (DataW H×List MemPlace)}(hk:prog.underlying t=some (.int k))(hl:j<cs.length)
  (hy:y.isSome=true) (h:DataW.trod enc prog W 0 (fun _=>true) true n t ((cs.drop j).take 1)=y): ∃z,cs[j]? =some (.int k z)∧(Lit.int k z).wf=true:=by
 obtain⟨x,rfl⟩:=Option.isSome_iff_exists.1 hy;obtain⟨z,hz,_,hw⟩:=DataW.trod_int hk h;refine⟨z,?_,hw⟩;have e:(cs.drop j).take 1=[cs[j]]:=by rw[List.drop_eq_getElem_cons hl];rfl
 rw[e]at hz;injection hz with hz;rw[List.getElem?_eq_getElem hl,hz]
theorem P0:prog.cellsOf 26=9:=ak
end
abbrev fu:Type:=(Nat→Nat)×Rc.St
theorem not_false{b:Bool}(h:b=true): ¬b=false:=fun e=>Bool.noConfusion (h.symm.trans e)
theorem D6(g at_:Nat)(v:Int): ∀(n m:Nat) (x:fu),Md.cM (ah g) at_ v n m x=Md.cM (ah 0) at_ v n m x
 | 0,_,_=>rfl
 | n+1,m,x=>D6 g at_ v n (2*m+((ah 0).au (at_+m) (Md.aL v n) x).1.toNat) ((ah 0).au (at_+m) (Md.aL v n) x).2
theorem BK(g at_ n:Nat)(v:Int)(x:fu):Md.tree (ah g) at_ n v x=Md.tree (ah 0) at_ n v x:=
 congrArg (fun y:Nat×fu=>(y.1-2^n,y.2)) (D6 g at_ v n 1 x)
theorem Kb(g at_:Nat)(v:Int): ∀(k i m a:Nat) (x:fu),Md.jc (ah g) at_ v k i m a x=Md.jc (ah 0) at_ v k i m a x
 | 0,_,_,_,_=>rfl
 | k+1,i,m,a,x=>Kb g at_ v k (i+1) (2*m+((ah 0).au (at_+m) (Md.aL v i) x).1.toNat) (a+((ah 0).au (at_+m) (Md.aL v i) x).1.toNat*2^i) ((ah 0).au (at_+m) (Md.aL v i) x).2
theorem Xu(g at_ n:Nat)(v:Int)(x:fu):Md.rev (ah g) at_ n v x=Md.rev (ah 0) at_ n v x:=Kb g at_ v n 0 1 0 x
theorem P4(g A p:Nat)(l:Int)(x:fu):Md.len (ah g) A p l x=Md.len (ah 0) A p l x:=by
 cases h1:((ah 0).au A (decide (8≤l-2)) x).1 with
 | false=>exact(show Md.len (ah g) A p l x=_ from if_pos h1).trans ((congrArg (fun y:Nat×fu=>(2+y.1,y.2)) (BK g (A+2+8*p) 3 (l-2) _)).trans (show Md.len (ah 0) A p l x=_ from if_pos h1).symm)
 | true=>
  cases h2:((ah 0).au (A+1) (decide (16≤l-2)) ((ah 0).au A (decide (8≤l-2)) x).2).1 with
  | false=>exact(show Md.len (ah g) A p l x=_ from(if_neg (not_false h1)).trans (if_pos h2)).trans ((congrArg (fun y:Nat×fu=>(10+y.1,y.2)) (BK g (A+130+8*p) 3 (l-2-8) _)).trans (show Md.len (ah 0) A p l x=_ from(if_neg (not_false h1)).trans (if_pos h2)).symm)
  | true=>exact(show Md.len (ah g) A p l x=_ from(if_neg (not_false h1)).trans (if_neg (not_false h2))).trans ((congrArg (fun y:Nat×fu=>(18+y.1,y.2)) (BK g (A+258) 8 (l-2-16) _)).trans (show Md.len (ah 0) A p l x=_ from(if_neg (not_false h1)).trans (if_neg (not_false h2))).symm)
def f6(io:Io)(d:Nat)(y:Nat×io.S):Nat×io.S:=
 if y.1<4 then(y.1+1,y.2)
 else if y.1<14 then((2+y.1%2)*2^(y.1/2-1)+(Md.rev io (1716+32*y.1) (y.1/2-1) (d:Nat) y.2).1+1,(Md.rev io (1716+32*y.1) (y.1/2-1) (d:Nat) y.2).2)
 else((2+y.1%2)*2^(y.1/2-1)+(io.plain y.2.2 (d/16%2^(y.1/2-1-4)) (y.1/2-1-4)).1%2^(y.1/2-1-4)*16+(Md.rev io 2164 4 (d:Nat) (y.2.1,(io.plain y.2.2 (d/16%2^(y.1/2-1-4)) (y.1/2-1-4)).2)).1+1,(Md.rev io 2164 4 (d:Nat) (y.2.1,(io.plain y.2.2 (d/16%2^(y.1/2-1-4)) (y.1/2-1-4)).2)).2)
theorem G0(g d:Nat)(y:Nat×fu):f6 (ah g) d y=f6 (ah 0) d y:=by
 by_cases h1:y.1<4;·exact(show f6 (ah g) d y=_ from if_pos h1).trans (show f6 (ah 0) d y=_ from if_pos h1).symm
 ·by_cases h2:y.1<14;·exact(show f6 (ah g) d y=_ from(if_neg h1).trans (if_pos h2)).trans ((congrArg (fun z:Nat×fu=>((2+y.1%2)*2^(y.1/2-1)+z.1+1,z.2)) (Xu g (1716+32*y.1) (y.1/2-1) (d:Nat) y.2)).trans (show f6 (ah 0) d y=_ from(if_neg h1).trans (if_pos h2)).symm)
  ·exact(show f6 (ah g) d y=_ from(if_neg h1).trans (if_neg h2)).trans ((congrArg (fun z:Nat×fu=>((2+y.1%2)*2^(y.1/2-1)+((ah 0).plain y.2.2 (d/16%2^(y.1/2-1-4)) (y.1/2-1-4)).1%2^(y.1/2-1-4)*16+z.1+1,z.2)) (Xu g 2164 4 (d:Nat) (y.2.1,((ah 0).plain y.2.2 (d/16%2^(y.1/2-1-4)) (y.1/2-1-4)).2))).trans (show f6 (ah 0) d y=_ from(if_neg h1).trans (if_neg h2)).symm)
theorem zR(io:Io)(l:Nat)(dd:Int)(x:io.S):Md.de io l dd x=f6 io ((dd-1)%4294967296).toNat (Md.tree io (1460+64*min (l-2) 3) 6 (ec ((dd-1)%4294967296).toNat:Nat) x):=rfl
theorem ZA(g l:Nat)(d:Int)(x:fu):Md.de (ah g) l d x=Md.de (ah 0) l d x:=
 (zR (ah g) l d x).trans ((G0 g _ _).trans ((congrArg (fun y=>f6 (ah 0) ((d-1)%4294967296).toNat y) (BK g _ 6 _ x)).trans (zR (ah 0) l d x).symm))
theorem Kd(g T like:Nat)(v:Int): ∀(n m:Nat) (al:Bool) (x:fu),Md.f5 (ah g) T like v n m al x=Md.f5 (ah 0) T like v n m al x
 | 0,_,_,_=>rfl
 | n+1,_,_,_=>Kd g T like v n _ _ _
theorem adp(g lc lp st:Nat)(a:Int)(H:List UInt8)(v:Int)(x:fu):Md.lit (ah g) lc lp st a H v x=Md.lit (ah 0) lc lp st a H v x:=
 congrArg (fun y:Nat×fu=>(UInt8.ofNat y.1,y.2)) (Kd g _ _ v 8 1 _ x)
def je(io:Io)(st p:Nat)(l:Int)(w:Nat×io.S):(Nat×Nat)×io.S:=
 if w.1=0 then
  if(io.au (240+16*st+p) (l !=1) w.2).1=false then((0,1),(io.au (240+16*st+p) (l !=1) w.2).2)
  else((0,(Md.len io 946 p l (io.au (240+16*st+p) (l !=1) w.2).2).1),(Md.len io 946 p l (io.au (240+16*st+p) (l !=1) w.2).2).2)
 else((w.1,(Md.len io 946 p l w.2).1),(Md.len io 946 p l w.2).2)
theorem G1(g st p:Nat)(l:Int)(w:Nat×fu):je (ah g) st p l w=je (ah 0) st p l w:=by
 by_cases h1:w.1=0
 ·cases h2:((ah 0).au (240+16*st+p) (l !=1) w.2).1 with
  | false=>exact(show je (ah g) st p l w=_ from(if_pos h1).trans (if_pos h2)).trans (show je (ah 0) st p l w=_ from(if_pos h1).trans (if_pos h2)).symm
  | true=>exact(show je (ah g) st p l w=_ from(if_pos h1).trans (if_neg (not_false h2))).trans ((congrArg (fun z:Nat×fu=>((0,z.1),z.2)) (P4 g 946 p l ((ah 0).au (240+16*st+p) (l !=1) w.2).2)).trans (show je (ah 0) st p l w=_ from(if_pos h1).trans (if_neg (not_false h2))).symm)
 ·exact(show je (ah g) st p l w=_ from if_neg h1).trans ((congrArg (fun z:Nat×fu=>((w.1,z.1),z.2)) (P4 g 946 p l w.2)).trans (show je (ah 0) st p l w=_ from if_neg h1).symm)
theorem ZB(g st p:Nat)(l q:Int)(x:fu):Md.uF (ah g) st p l q x=Md.uF (ah 0) st p l q x:=G1 g st p l (Md.which (ah 0) st q x)
theorem adq(g lc lp pb st:Nat)(r:R4)(H:List UInt8)(k:Int)(b:UInt8)(l d q:Int)(x:fu):Md.sym (ah g) lc lp pb st r H k b l d q x=Md.sym (ah 0) lc lp pb st r H k b l d q x:=by
 cases h1:((ah 0).au (16*st+H.length%2^pb) (k !=0) x).1 with
 | false=>exact(show Md.sym (ah g) lc lp pb st r H k b l d q x=_ from if_pos h1).trans ((congrArg (fun z:UInt8×fu=>((⟨0,z.1,0,0,0⟩:Sy),ed st,r,z.2)) (adp g lc lp st r.1 H (b.toNat:Nat) ((ah 0).au (16*st+H.length%2^pb) (k !=0) x).2)).trans (show Md.sym (ah 0) lc lp pb st r H k b l d q x=_ from if_pos h1).symm)
 | true=>
  cases h2:((ah 0).au (192+st) (k !=1) ((ah 0).au (16*st+H.length%2^pb) (k !=0) x).2).1 with
  | false=>
   refine(show Md.sym (ah g) lc lp pb st r H k b l d q x=_ from(if_neg (not_false h1)).trans (if_pos h2)).trans (Eq.trans ?_ (show Md.sym (ah 0) lc lp pb st r H k b l d q x=_ from(if_neg (not_false h1)).trans (if_pos h2)).symm);have e1:=P4 g 432 (H.length%2^pb) l ((ah 0).au (192+st) (k !=1) ((ah 0).au (16*st+H.length%2^pb) (k !=0) x).2).2;have e2:=fun(n:Nat×fu)=>ZA g n.1 d n.2;exact(congrArg (fun n:Nat×fu=>((⟨1,0,n.1,(Md.de (ah g) n.1 d n.2).1,0⟩:Sy),(if st<7 then 7 else 10),fp r 3 ((Md.de (ah g) n.1 d n.2).1:Nat),(Md.de (ah g) n.1 d n.2).2)) e1).trans (congrArg (fun z:Nat×fu=>((⟨1,0,(Md.len (ah 0) 432 (H.length%2^pb) l ((ah 0).au (192+st) (k !=1) ((ah 0).au (16*st+H.length%2^pb) (k !=0) x).2).2).1,z.1,0⟩:Sy),(if st<7 then 7 else 10),fp r 3 (z.1:Nat),z.2)) (e2 _))
  | true=>
   refine(show Md.sym (ah g) lc lp pb st r H k b l d q x=_ from(if_neg (not_false h1)).trans (if_neg (not_false h2))).trans (Eq.trans ?_ (show Md.sym (ah 0) lc lp pb st r H k b l d q x=_ from(if_neg (not_false h1)).trans (if_neg (not_false h2))).symm);exact congrArg (fun z:(Nat×Nat)×fu=>((⟨2,0,z.1.2,0,z.1.1⟩:Sy),(if st<7 then(if z.1.2=1 then 9 else 8)else 11),fp r z.1.1 (r4 r.1 r.2.1 r.2.2.1 r.2.2.2 z.1.1),z.2)) (ZB g st (H.length%2^pb) l q ((ah 0).au (192+st) (k !=1) ((ah 0).au (16*st+H.length%2^pb) (k !=0) x).2).2)
theorem kb(hp:p<tt)(ht:tt≤D.length)(hD:D.length≤100000)(xl:1≤dict)(hn:nice≤273):Qz D dict p r (fe D dict nice tt p r):=by
 unfold fe gj;have⟨X,hX⟩:=ex ((tt:Int)-(p:Int):Int);rw[hX];obtain⟨⟨rn,TE⟩,hr⟩: ∃z,dI D dict (p:Int) X r.1 r.2.1 r.2.2.1 r.2.2.2=z:=⟨_,rfl⟩
 obtain⟨⟨mn,mk⟩,hm⟩: ∃z,kN D dict nice (p:Int) X=z:=⟨_,rfl⟩
 rw[hr,hm];simp only;split
 ·rename_i h1;have aF:TE<4:=by have:=qm (g:=fun i=>df D dict (p:Int) (r4 r.1 r.2.1 r.2.2.1 r.2.2.2 i) X) 4 an;unfold dI at hr;rw[hr]at this;exact this
  have bx:df D dict (p:Int) (r4 r.1 r.2.1 r.2.2.1 r.2.2.2 TE) X=rn:=by
   have:=qn (g:=fun i=>df D dict (p:Int) (r4 r.1 r.2.1 r.2.2.1 r.2.2.2 i) X) 4;unfold dI at hr;rw[hr]at this;rcases this with e | e;·simp only at e;omega
   ·exact e
  obtain⟨k,hk,hc,ZX,hl,eY⟩:=nW bx aa;have Ve:=adV r TE;rw[hk]at Ve;have XJ:=hc.back;have hdz:kL r ((2:Nat):Int) ((0:Nat):Int) (TE:Nat)=(k:Int):=Ve;refine⟨Nat.le_refl 2,by show TE≤3;omega,?_,by rw[hdz];exact ZX,rfl,⟨k,hdz,fun _=>⟨hc.one,XJ⟩,?_⟩,?_,hl⟩;·show iI r (p:Int) 2 (rn:Nat) 0 (TE:Nat)=true;unfold iI;rw[Ve];simp;omega
  ·show mY (D.take p) 2 0 rn k=D.take (p+max rn 1);rw[show max rn 1=rn by omega];exact kO rn hc
  ·show p+max rn 1≤D.length;have:=hc.fits;omega
 ·split
  ·rename_i h1 h2;obtain⟨g2,g3,hc,ZX,_⟩:=ug hm aa;have XJ:=hc.back;have fY:=hc.one;refine⟨(by decide:1≤2),Nat.zero_le 3,?_,ZX,rfl,⟨mk,rfl,fun _=>⟨hc.one,XJ⟩,?_⟩,?_,by show mn≤273;omega⟩;·show iI r (p:Int) 1 (mn:Nat) (mk:Nat) 0=true;unfold iI;simp;omega
   ·show mY (D.take p) 1 0 mn mk=D.take (p+max mn 1);rw[show max mn 1=mn by omega];exact kO mn hc
   ·show p+max mn 1≤D.length;have:=hc.fits;omega
  ·split
   ·rename_i h1 h2 h3;have⟨l,hl⟩:=ex (df D dict (p:Int) r.1 X);rw[hl]at h3;obtain⟨k,hk,hc,ZX,_,_⟩:=nW hl aa;have ZU:Cut D p 1 k:=⟨hc.one,hc.back,ar hc.fits,fun i hi=>hc.same i aa⟩
    have XJ:=hc.back;have hdz:kL r ((2:Nat):Int) ((0:Nat):Int) ((0:Nat):Int)=(k:Int):=hk;have Ve:Li r 0=(k:Int):=hk;refine⟨Nat.le_refl 2,Nat.zero_le 3,?_,by rw[hdz];exact ZX,rfl,⟨k,hdz,fun _=>⟨hc.one,XJ⟩,?_⟩,?_,by show 1≤273;decide⟩;·show iI r (p:Int) 2 1 0 0=true;unfold iI;rw[Ve];simp;omega
    ·show mY (D.take p) 2 0 1 k=D.take (p+max 1 1);exact kO 1 ZU
    ·show p+max 1 1≤D.length;omega
   ·refine⟨Nat.zero_le 2,Nat.zero_le 3,rfl,by show(0:Int)≤dict;omega,rfl,⟨0,rfl,fun h=>absurd rfl h,?_⟩,?_,Nat.zero_le _⟩;·show D.take p++[D.getD p 0]=D.take (p+max 0 1);rw[show max 0 1=1 from rfl,List.take_add_one,cY (Nat.lt_of_lt_of_le hp ht),List.getElem?_eq_getElem (Nat.lt_of_lt_of_le hp ht)];rfl
    ·show p+max 0 1≤D.length;omega
theorem BW(hp:p<tt):p+max (fe D dict nice tt p r).l 1≤tt:=by
 unfold fe gj;have⟨X,hX⟩:=ex ((tt:Int)-(p:Int):Int);rw[hX];obtain⟨⟨rn,TE⟩,hr⟩: ∃z,dI D dict (p:Int) X r.1 r.2.1 r.2.2.1 r.2.2.2=z:=⟨_,rfl⟩
 obtain⟨⟨mn,mk⟩,hm⟩: ∃z,kN D dict nice (p:Int) X=z:=⟨_,rfl⟩
 rw[hr,hm];simp only;split
 ·rename_i h1;have bx:df D dict (p:Int) (r4 r.1 r.2.1 r.2.2.1 r.2.2.2 TE) X=rn:=by
   have:=qn (g:=fun i=>df D dict (p:Int) (r4 r.1 r.2.1 r.2.2.1 r.2.2.2 i) X) 4;unfold dI at hr;rw[hr]at this;rcases this with e | e;·simp only at e;omega
   ·exact e
  obtain⟨k,hk,hc,ZX,hl,eY⟩:=nW bx aa;show p+max rn 1≤tt;omega
 ·split;·rename_i h1 h2;obtain⟨g2,g3,hc,ZX,eY⟩:=ug hm aa;show p+max mn 1≤tt;omega
  ·split;·show p+max 1 1≤tt;omega
   ·show p+max 0 1≤tt;omega
section
structure fG where
 A:Option Addr
 D:List UInt8
 cD:Nat
 lc:Nat
 lp:Nat
 pb:Nat
 nice:Int
 chunk:Int
 block:Int
 check:Int
 chain:Value
 dict:Nat
 F:Nat
abbrev XL(k:fG)(cv:Value)(had:Bool):List Value:=
 [.slice k.A k.D.length k.cD,.int .i64 (k.lc:Nat),.int .i64 (k.lp:Nat),.int .i64 (k.pb:Nat),.int .i64 k.nice,.int .i64 k.chunk,.int .i64 k.block,.int .i64 k.check,k.chain,.int .u32 (k.dict:Nat),PF k.F,cv,.bool had]
def eJ(w:World)(p:Nat)(k:fG)(cv:Value)(had:Bool):Prop:=w.heap[p]? =some (.cells (XL k cv had).toArray 75 (0,0))
section
variable{w w':World}{p:Nat}{k:fG}{cv:Value}{had:Bool}
theorem eJ.lt(h:eJ w p k cv had):p<w.heap.size:=(cr h)
theorem eJ.aI(h:eJ w p k cv had)(hk:w'.heap[p]? =w.heap[p]?):eJ w' p k cv had:=hk.trans h
theorem eJ.below(h:eJ w p k cv had)(hb:Below w.heap.size w w'):eJ w' p k cv had:=h.aI (hb.block _ h.lt)
theorem eJ.frozen(h:eJ w p k cv had)(i:Nat):w.frozen? ⟨p,i,none⟩=false:=frozen_of_row _ _ _ _ _ h
theorem eJ.data(h:eJ w p k cv had):w.cell? ⟨p,0,none⟩=some (.slice k.A k.D.length k.cD):=qb
theorem eJ.lc(h:eJ w p k cv had):w.cell? ⟨p,1,none⟩=some (.int .i64 (k.lc:Nat)):=qb
theorem eJ.lp(h:eJ w p k cv had):w.cell? ⟨p,2,none⟩=some (.int .i64 (k.lp:Nat)):=qb
theorem eJ.pb(h:eJ w p k cv had):w.cell? ⟨p,3,none⟩=some (.int .i64 (k.pb:Nat)):=qb
theorem eJ.find(h:eJ w p k cv had):w.cell? ⟨p,10,none⟩=some (PF k.F):=qb
theorem eJ.F4(h:eJ w p k cv had):w.cell? ⟨p,11,none⟩=some cv:=qb
theorem eJ.ad2(h:eJ w p k cv had):w.cell? ⟨p,12,none⟩=some (.bool had):=qb
theorem eJ.opts(h:eJ w p k cv had):w.cell? ⟨p,4,none⟩=some (.int .i64 k.nice)∧w.cell? ⟨p,5,none⟩=some (.int .i64 k.chunk)∧w.cell? ⟨p,6,none⟩=some (.int .i64 k.block)∧w.cell? ⟨p,7,none⟩=some (.int .i64 k.check)∧w.cell? ⟨p,8,none⟩=some k.chain∧w.cell? ⟨p,9,none⟩=some (.int .u32 (k.dict:Nat)):=by refine⟨?_,?_,?_,?_,?_,?_⟩<;>(rw[cell_of_row w _ _ _ _ _ h];rfl)
theorem eJ.QC(h:eJ w p k cv had)(uO:Value):eJ (w.setCell ⟨p,11,none⟩ uO) p k uO had:=heap_set h 11 uO
theorem eJ.Z3(h:eJ w p k cv had)(b:Bool):eJ (w.setCell ⟨p,12,none⟩ (.bool b)) p k cv b:=heap_set h 12 (.bool b)
end
abbrev eK:Type:=Option (Nat×R4×(Nat→Nat))
def BY:Nat×R4×(Nat→Nat):=(0,(1,1,1,1),fun _=>1024)
structure LH(w:World)(k:fG)(C L:Nat)(s:Nat×R4×(Nat→Nat)):Prop where
 mod:bV w C L k.lc k.lp k.pb s.1 s.2.1 s.2.2
 st:s.1<12
 qo:dL s.2.1
def m7(w:World)(k:fG)(cv:Value)(Y:List Nat):eK→Prop
 | none=>cv= .pointer none∧Y=[]
 | some s=> ∃C L,cv=PF C∧Y=[C,L]∧LH w k C L s
theorem LH.aI{w w':World}{k:fG}{C L:Nat}{s:Nat×R4×(Nat→Nat)}(h:LH w k C L s)(hC:w'.heap[C]? =w.heap[C]?)(hL:w'.heap[L]? =w.heap[L]?):LH w' k C L s:=⟨h.mod.aI hC hL,h.st,h.qo⟩
theorem m7.lt{w:World}{k:fG}{cv:Value}{Y:List Nat}{s:eK}(h:m7 w k cv Y s): ∀i∈Y,i<w.heap.size:=by
 cases s with
 | none=>obtain⟨_,rfl⟩:=h;intro i hi;cases hi
 | some s=>
  obtain⟨C,L,_,rfl,hc⟩:=h;intro i hi;simp only[List.mem_cons,List.not_mem_nil,or_false]at hi;rcases hi with rfl | rfl;·exact hc.mod.CS
  ·exact hc.mod.Br
theorem m7.aI{w w':World}{k:fG}{cv:Value}{Y:List Nat}{s:eK}(h:m7 w k cv Y s)(hk: ∀i∈Y,w'.heap[i]? =w.heap[i]?):m7 w' k cv Y s:=by
 cases s with
 | none=>exact h
 | some s=>
  obtain⟨C,L,e,rfl,hc⟩:=h;exact⟨C,L,e,rfl,hc.aI (hk C ae) (hk L ae)⟩
theorem m7.below{w w':World}{k:fG}{cv:Value}{Y:List Nat}{s:eK}(h:m7 w k cv Y s)(hb:Below w.heap.size w w'):m7 w' k cv Y s:=h.aI fun i hi=>hb.block i (h.lt i hi)
theorem m7.apart{w:World}{k:fG}{cv:Value}{Y:List Nat}{s:eK}(h:m7 w k cv Y s){j:Nat}{cs:Array Value}{t:TypeId}{x:Nat×Nat}(hj:w.heap[j]? =some (.cells cs t x))(h1:t≠146)(h2:t≠291):j ∉ Y:=by
 cases s with
 | none=>obtain⟨_,rfl⟩:=h;intro hi;cases hi
 | some s=>
  obtain⟨C,L,_,rfl,hc⟩:=h;intro hi;simp only[List.mem_cons,List.not_mem_nil,or_false]at hi;rcases hi with rfl | rfl;·obtain⟨T,hT,_⟩:=hc.mod.box;rw[hj]at hT;injection hT with hT;injection hT with _ e _;exact h1 e
  ·obtain⟨T,hT,_⟩:=hc.mod.lits;rw[hj]at hT;injection hT with hT;injection hT with _ e _;exact h2 e
structure Pk(w:World)(p:Nat)(k:fG)(s:eK)(had:Bool)(Y:List Nat):Prop where
 ex: ∃cv,eJ w p k cv had∧m7 w k cv Y s
theorem Pk.lt{w:World}{p:Nat}{k:fG}{s:eK}{had:Bool}{Y:List Nat}(h:Pk w p k s had Y):p<w.heap.size:=by obtain⟨cv,h1,_⟩:=h.ex;exact h1.lt
theorem Pk.ltY{w:World}{p:Nat}{k:fG}{s:eK}{had:Bool}{Y:List Nat}(h:Pk w p k s had Y): ∀i∈Y,i<w.heap.size:=by obtain⟨cv,_,h2⟩:=h.ex;exact h2.lt
theorem Pk.below{w w':World}{p:Nat}{k:fG}{s:eK}{had:Bool}{Y:List Nat}(h:Pk w p k s had Y)(hb:Below w.heap.size w w'):Pk w' p k s had Y:=by obtain⟨cv,h1,h2⟩:=h.ex;exact⟨cv,h1.below hb,h2.below hb⟩
theorem Pk.aI{w w':World}{p:Nat}{k:fG}{s:eK}{had:Bool}{Y:List Nat}(h:Pk w p k s had Y)(hk: ∀i∈p::Y,w'.heap[i]? =w.heap[i]?):Pk w' p k s had Y:=by obtain⟨cv,h1,h2⟩:=h.ex;exact⟨cv,h1.aI (hk p ae),h2.aI fun i hi=>hk i (by simp[hi])⟩
theorem Pk.own{base:Nat}{w:World}{p:Nat}{k:fG}{s:eK}{had:Bool}{Y:List Nat}(h:Pk w p k s had Y){v:Value}{l:List UInt8}(ho:Own base w v l): ∀g,v.ownBlock=some g→g ∉ p::Y:=by
 obtain⟨cv,h1,h2⟩:=h.ex;intro g hg;rcases ho with⟨_,⟨rfl,_⟩ | ⟨g',bw,cur,rfl,_,h4,_⟩⟩
 ·cases hg
 ·have e:g'=g:=by simpa [Value.ownBlock]using hg
  subst e;intro hi;rcases List.mem_cons.1 hi with rfl | hi;·unfold eJ at h1;rw[h4]at h1;injection h1 with h1;injection h1 with _ e _;revert e;decide
  ·exact h2.apart h4 an an hi
def eX(lc lp pb:Nat)(D:List UInt8):List Sy→Nat→Nat×R4×fu→Nat×R4×fu
 | [],_,z=>z
 | s::l,p,z=>eX lc lp pb D l (p+max s.l 1) ((Md.sym (ah 0) lc lp pb z.1 z.2.1 (D.take p) (s.k:Nat) s.b (s.l:Nat) (s.d:Nat) (s.r:Nat) z.2.2).2)
def nX(k:fG)(a b:Nat)(r:R4):List Sy:=(ba k.D (k.dict:Nat) k.nice b (b-a) a r).1
def it(k:fG)(a b:Nat)(s:Nat×R4×(Nat→Nat)):List UInt8×(Nat×R4×(Nat→Nat)):=
 let z:=eX k.lc k.lp k.pb k.D (nX k a b s.2.1) a (s.1,s.2.1,(s.2.2,zy))
 (Rc.be (5+z.2.2.2.k) z.2.2.2.v,(z.1,z.2.1,z.2.2.1))
end
def rW(a:Nat)(had:Bool)(s:eK):UInt8:=if a=0 then 224 else if had=false then 192 else if s.isNone=true then 160 else 128
theorem Ew{k:fG}{s:eK}(h:Pk w p k s had Y)(a:Nat):
  Calls prog 75 #[PF p,.int .i64 (a:Nat)] w fun e w'=>e= .returned (B8 (rW a had s))∧w=w':=by
 obtain⟨cv,hP,hC⟩:=h.ex;have c11:=hP.F4;have c12:=hP.ad2;clear h hP;by_cases ha:a=0;·subst ha;have HV:Hid (B8 (rW 0 had s)= .int .u8 224):=hdd rfl;go_enter func75,ntmps75;go_wp2_with fail;go_ret;exact⟨congrArg Ending.returned HV.out.symm,rfl⟩
 ·have h0:((a:Int)==0)=false:=by rw[beq_eq_false_iff_ne];omega
  cases had with
  | false=>
   have HV:Hid (B8 (rW a false s)= .int .u8 192):=hdd (by unfold rW;rw[if_neg ha];rfl);clear ha;go_enter func75,ntmps75;go_wp2_with fail;go_ret;exact⟨congrArg Ending.returned HV.out.symm,rfl⟩
  | true=>
   cases s with
   | none=>
    obtain⟨rfl,_⟩:=hC;have HV:Hid (B8 (rW a true none)= .int .u8 160):=hdd (by unfold rW;rw[if_neg ha];rfl);clear ha;go_enter func75,ntmps75;go_wp2_with fail;go_ret;exact⟨congrArg Ending.returned HV.out.symm,rfl⟩
   | some s=>
    obtain⟨C,L,rfl,_,_⟩:=hC;have HV:Hid (B8 (rW a true (some s))= .int .u8 128):=hdd (by unfold rW;rw[if_neg ha];rfl);clear ha;go_enter func75,ntmps75;go_wp2_with fail;go_ret;exact⟨congrArg Ending.returned HV.out.symm,rfl⟩
def d6(D:List UInt8)(a b:Nat):List UInt8:=((if a=0 then 1 else 2)::nt (b-a-1))++(D.drop a).take (b-a)
def z7(w:World)(p:Nat)(k:fG)(had:Bool)(l:List UInt8)(e:Ending)(w':World):Prop:= ∃v,e= .returned v∧Own w.heap.size w' v l∧Pk w' p k none had []∧az [p] w w'
theorem LI{k:fG}{s:eK}(h:Pk w p k s had Y){bD oD:Nat}(hA:k.A=some ⟨bD,oD,none⟩)(hB:Bytes w k.A k.D)(hpD:bD≠p)(hc:k.D.length≤k.cD)(hl:k.D.length≤100000)(a b:Nat)(Aa:a<b)(hb:b≤k.D.length):
  Calls prog 79 #[PF p,.int .i64 (a:Nat),.int .i64 (b:Nat)] w (z7 w p k had (d6 k.D a b)):=by
 obtain⟨cv,hP,_⟩:=h.ex;have aF:=hP.lt;have uh:=hP.QC (.pointer none);have c11:=hP.F4;have f11:=hP.frozen 11;have⟨W1,dE⟩:=ex (w.setCell ⟨p,11,none⟩ (.pointer none));have ff:az [p] w W1:=by rw[←dE];exact(az.refl _ _).setCell (.inl ae) _
 have kG:W1.heap.size=w.heap.size:=by rw[←dE];simp[World.setCell]
 rw[dE]at uh;have iH:Bytes W1 k.A k.D:=hB.only ff (fun a ha=>by rw[hA]at ha;injection ha with ha;subst ha;simpa using hpD);have⟨D,hD⟩:=ex (k.D);have zj:=uh.data;rw[hD]at hc hl hb iH zj ⊢;rw[hA]at zj iH;obtain⟨cD,hcD⟩: ∃c,k.cD=c:=⟨_,rfl⟩
 rw[hcD]at hc zj;have⟨x,hx⟩:=ex ((if a=0 then 1 else 2):UInt8);have⟨R,hR⟩:=ex (d6 D a b);have bJ:([x]++nt (b-a-1))++(D.drop a).take (b-a)=R:=by rw[←hR];unfold d6;rw[hx];rfl
 rw[hR];have⟨T,hT⟩:=ex ((D.drop a).take (b-a));rw[hT]at bJ;have mi:T.length=b-a:=by rw[←hT,List.length_take,List.length_drop];omega
 have Dg:(a:Int)<(b:Int):=aa;have nw:(b:Int)≤(D.length:Int):=aa;have sQ:(D.length:Int)≤100000:=aa;have tY:(D.length:Int)≤(cD:Int):=aa;have pU:(b:Int)-(a:Int)=((b-a-1+1:Nat):Int):=aa;have⟨W2,jT⟩:=ex (W1.alloc (.cells #[B8 x] 5));have j6:Own W1.heap.size W2 (.slice (some ⟨W1.heap.size,0,none⟩) 1 1) [x]:=by rw[←jT];exact Own.lit W1 [x] (Nat.le_refl _) ae
 have aE:Below W1.heap.size W1 W2:=vK;have HT:=hdd (mx (b-a-1) aa W2);have⟨T2,rx⟩:=ex (nt (b-a-1));have ad4:T2.length=2:=by rw[←rx];rfl
 rw[rx]at HT bJ;have kZ:=hdd ad4;clear rx ad4;rw[←pU]at HT;have vj:=hdd dE;have vk:=hdd jT;have vi:=hdd j6;have dY:=hdd aE;have mj:=hdd ff;have nu:=hdd kG;have iE:=hdd bJ;have CN:=hdd (And.intro hT mi);have LJ:=hdd uh;have iG:=hdd iH;have HL:=hdd (And.intro Aa (And.intro hb (And.intro hl hc)));have ZZ:=hdd zj;have pp:=hdd pU;have N6:=hdd (And.intro hA (And.intro hD hcD));have CO:=hdd aF;clear h hP uh dE jT j6 aE ff kG iH hB hA hD hcD hc hl hb Aa bJ zj pU aF hpD hR hT mi;have jo:(a=0∧x=1)∨(a≠0∧x=2):=by
  by_cases e:a=0;·left;rw[if_pos e]at hx;exact⟨e,hx.symm⟩
  ·right;rw[if_neg e]at hx;exact⟨e,hx.symm⟩
 clear hx;have HX:Hid (∀(e:Ending) (w':World),∀v4 w4 v5,Own W1.heap.size w4 v4 ([x]++T2)→Below W1.heap.size W1 w4→Own W1.heap.size w' v5 (([x]++T2)++T)→w4.grownBy w' v4.ownBlock→e= .returned v5→z7 w p k had R e w'):=hdd (by
  rintro e w' v4 w4 v5 cH bc iZ iM rfl;have fj:Below W1.heap.size W1 w':=am bc iM bc.size (fun g e=>(cH.aw g e).1);rw[iE.out]at iZ;refine⟨v5,rfl,by rw[←nu.out];exact iZ,⟨_,LJ.out.below fj,rfl,rfl⟩,?_⟩;exact mj.out.trans (az.br fj) (fun i hi=> .inl hi))
 have gy:=HX.out;clear HX;have HX:=hdd gy;clear gy;have jS:=hdd (show Bytes W1 (some ⟨bD,oD+a,none⟩) T from by rw[←CN.out.1];exact(iG.out.drop a).take _);rcases jo with⟨ha,rfl⟩ | ⟨ha,rfl⟩
 ·have h0:((a:Int)==0)=true:=by rw[beq_iff_eq];omega
  clear ha;go_enter func79,ntmps79;go_upto_region 2 with fail;rw[vj.out];clear c11 f11;go_wp2_with fail;rw[show W1.alloc (Obj.cells #[Value.int .u8 1] 5)=W2 from vk.out];refine HT.out.mono ?_;rintro e w3 ⟨v3,rfl,gW,aW⟩;obtain⟨A3,c3,rfl,_,_,nR⟩:=gW.read;have fc:=hdd (aO dY.out aW);have QD:=hdd (vi.out.below aW);have QE:=hdd nR;clear gW aW nR;go_upto_region 6 with(at_builtin;refine aj ?_ (.tmp 15) (.tmp 19) ?_ W1.heap.size w3 (.slice (some ⟨W1.heap.size,0,none⟩) 1 1) [1] ?_ QD.out A3 T2 c3 ?_ QE.out (by rw[kZ.out];decide) fc.out.size ?_;rfl;rfl;rfl;rfl;intro v4 w4 cH dK;have CX:=hdd cH;have iz:=hdd (am fc.out dK fc.out.size (fun g e=>(QD.out.aw g e).1));have zj:=((LJ.out.below iz.out).data);rw[N6.out.1,N6.out.2.1,N6.out.2.2]at zj;clear cH dK)
  go_wp2_with (at_builtin;refine aj ?_ (.tmp 21) (.tmp 28) ?_ W1.heap.size w4 v4 ([1]++T2) ?_ CX.out (some ⟨bD,oD+a,none⟩) T (cD-a) ?_ (jS.out.below iz.out) Ot iz.out.size ?_;rfl;rfl;rfl;rw[CN.out.2];rfl;intro v5 w5 iZ iM;have fi:=hdd (HX.out _ _ v4 w4 v5 CX.out iz.out iZ iM rfl);clear iZ iM)
  go_ret;exact fi.out
 ·have h0:((a:Int)==0)=false:=by rw[beq_eq_false_iff_ne];omega
  clear ha;go_enter func79,ntmps79;go_upto_region 2 with fail;rw[vj.out];clear c11 f11;go_wp2_with fail;rw[show W1.alloc (Obj.cells #[Value.int .u8 2] 5)=W2 from vk.out];refine HT.out.mono ?_;rintro e w3 ⟨v3,rfl,gW,aW⟩;obtain⟨A3,c3,rfl,_,_,nR⟩:=gW.read;have fc:=hdd (aO dY.out aW);have QD:=hdd (vi.out.below aW);have QE:=hdd nR;clear gW aW nR;go_upto_region 6 with(at_builtin;refine aj ?_ (.tmp 15) (.tmp 19) ?_ W1.heap.size w3 (.slice (some ⟨W1.heap.size,0,none⟩) 1 1) [2] ?_ QD.out A3 T2 c3 ?_ QE.out (by rw[kZ.out];decide) fc.out.size ?_;rfl;rfl;rfl;rfl;intro v4 w4 cH dK;have CX:=hdd cH;have iz:=hdd (am fc.out dK fc.out.size (fun g e=>(QD.out.aw g e).1));have zj:=((LJ.out.below iz.out).data);rw[N6.out.1,N6.out.2.1,N6.out.2.2]at zj;clear cH dK)
  go_wp2_with (at_builtin;refine aj ?_ (.tmp 21) (.tmp 28) ?_ W1.heap.size w4 v4 ([2]++T2) ?_ CX.out (some ⟨bD,oD+a,none⟩) T (cD-a) ?_ (jS.out.below iz.out) Ot iz.out.size ?_;rfl;rfl;rfl;rw[CN.out.2];rfl;intro v5 w5 iZ iM;have fi:=hdd (HX.out _ _ v4 w4 v5 CX.out iz.out iZ iM rfl);clear iZ iM)
  go_ret;exact fi.out
end Go.Proofs.YtgfpocdiojifoaaGreatDoor
