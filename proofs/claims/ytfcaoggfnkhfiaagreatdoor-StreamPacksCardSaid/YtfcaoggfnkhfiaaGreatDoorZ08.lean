import Derived.Test.YtfcaoggfnkhfiaaGreatDoorZ04
import Derived.Deep.Slices
import Derived.Deep.Fields
import Derived.ChangeSame
import Derived.Lib.SmallJoins
import Derived.Test.YtfcaoggfnkhfiaaGreatDoorZ07
import Derived.Deep.CutBlock
import Derived.Deep.DeepCutAuto
namespace Go.Proofs.YtfcaoggfnkhfiaaGreatDoor
set_option maxRecDepth 100000
set_option maxHeartbeats 8000000
open Go.RowKit Go.Proofs.Tryz
variable{had:Bool}{dict nice:Int}{Y:List Nat}{D:An}{p tt:Nat}{r:R4}{w:Lo}
abbrev eL(lc lp pb nice chunk block check:Int)(chain:Value)(dict:Nat):List Value:=[.int .i64 lc,.int .i64 lp,.int .i64 pb,.int .i64 nice,.int .i64 chunk,.int .i64 block,.int .i64 check,chain,.int .u32 dict]
abbrev BK(lc lp pb nice chunk block check:Int)(chain:Value)(dict:Nat):Value:= .agg #[.int .i64 lc,.int .i64 lp,.int .i64 pb,.int .i64 nice,.int .i64 chunk,.int .i64 block,.int .i64 check,chain,.int .u32 dict]
def lO(lc lp pb nice chunk:Int)(dict:Nat):Bool:=ro lc lp pb&&decide ((2<=nice/\nice<=273)/\(1<=chunk/\chunk<=65536)/\4096<=dict/\dict<=67108864)
def n_(n lo hi:Int):Bool:=decide (lo<=n/\n<=hi)
theorem BL(n lo hi:Int)(w:Lo):Calls prog 80 #[.int .i64 n,.int .i64 lo,.int .i64 hi] w λe w'=>e= .returned (.bool (n_ n lo hi))/\w=w':=by
 by_cases h0:lo<=n;·have HS:Hid (n_ n lo hi=decide (n<=hi)):=ae (by unfold n_;exact decide_eq_decide.2 aa);rw[HS.out];go_enter func80,ntmps80;go_wp2;go_ret;exact⟨rfl,rfl⟩
 ·have HS:Hid (n_ n lo hi=false):=ae (by unfold n_;exact du aa);rw[HS.out];go_enter func80,ntmps80;go_wp2;go_ret;exact⟨rfl,rfl⟩
theorem dI{W:Lo}{vs:List Value}{t:TypeId}(h:w.alloc (.cells vs.toArray t)=W):W.heap[w.heap.size]? =some (.cells vs.toArray t (0,0))/\Below w.heap.size w W:=by subst h;exact⟨heap_alloc_new w _,az⟩
def mC(b:Bool)(w:Lo)(e:Ending)(w':Lo):Prop:=e= .returned (.bool b)/\Below w.heap.size w w'
theorem Jf(lc lp pb nice chunk block check:Int)(chain:Value)(dict:Nat)(w:Lo):
  Calls prog 53 #[BK lc lp pb nice chunk block check chain dict] w (mC (lO lc lp pb nice chunk dict) w):=by
 have⟨R,hR⟩:=ex (lO lc lp pb nice chunk dict);rw[hR];have⟨W,hW⟩:=ex (w.alloc (.cells #[.int .i64 lc,.int .i64 lp,.int .i64 pb,.int .i64 nice,.int .i64 chunk,.int .i64 block,.int .i64 check,chain,.int .u32 dict] 26));obtain⟨aY,bZ⟩:=dI (vs:=eL lc lp pb nice chunk block check chain dict) hW;have HC:Hid (∀W',aq W W'->W'.cell? ⟨w.heap.size,0,none⟩=some (.int .i64 lc)/\W'.cell? ⟨w.heap.size,1,none⟩=some (.int .i64 lp)/\W'.cell? ⟨w.heap.size,2,none⟩=some (.int .i64 pb)/\W'.cell? ⟨w.heap.size,3,none⟩=some (.int .i64 nice)/\W'.cell? ⟨w.heap.size,4,none⟩=some (.int .i64 chunk)/\W'.cell? ⟨w.heap.size,8,none⟩=some (.int .u32 dict)):=ae (λW' hb=>by
  have h:=(hb.block _ (bU aY)).trans aY;refine⟨?_,?_,?_,?_,?_,?_⟩<;>(rw[aC W' _ _ _ _ _ h];rfl))
 obtain⟨c0,c1,c2,_,_,_⟩:=HC.out W (aP _ _);have HW:=ae hW;have cW:=ae bZ;have HR:=ae hR;have HN:=ae (BL nice 2 273);have HK:=ae (BL chunk 1 65536);clear aY hW bZ hR;cases hp:ro lc lp pb with
 | false=>
  have HM:=ae (Vo lc lp pb W hp);have Ij:Hid (R=false):=ae (by rw[<-HR.out];unfold lO;rw[hp];rfl);clear hp;go_enter func53,ntmps53;go_upto_region 1 with fail;rw[HW.out];go_wp2_with fail;refine HM.mono ?_;rintro e w1 ⟨rfl,rfl⟩;go_wp2;go_ret;exact⟨kB,cW.out⟩
 | true=>
  have Bs:=of_decide_eq_true hp;obtain⟨lc,rfl⟩: ∃n:Nat,lc=n:=⟨lc.toNat,aa⟩
  obtain⟨lp,rfl⟩: ∃n:Nat,lp=n:=⟨lp.toNat,aa⟩
  obtain⟨pb,rfl⟩: ∃n:Nat,pb=n:=⟨pb.toNat,aa⟩
  have HM:=ae (Es lc lp pb W aa aa aa aa);have Ij:Hid (R=decide ((2<=nice/\nice<=273)/\(1<=chunk/\chunk<=65536)/\4096<=dict/\dict<=67108864)):=ae (by rw[<-HR.out];unfold lO;rw[hp];rfl);clear hp Bs;by_cases h1:2<=nice/\nice<=273;case neg=>have e1:n_ nice 2 273=false:=du h1;rw[e1]at HN;have Vr:Hid (R=false):=ae (by rw[Ij.out];exact du (λh=>h1 h.1));clear h1 e1;go_enter func53,ntmps53;go_upto_region 1 with fail;rw[HW.out];go_wp2_with fail;refine HM.mono ?_;rintro e w1 ⟨C,L,rfl,_,aI,_,_⟩;obtain⟨_,_,_,d3,d4,d8⟩:=HC.out w1 aI;have bF:=ae aI;clear aI c0 c1 c2;go_wp2_with fail;refine(HN w1).mono ?_;rintro e w2 ⟨rfl,rfl⟩;go_wp2;go_ret;exact⟨by rw[Vr.out];rfl,aQ cW.out bF.out⟩
  case pos=>
   have e1:n_ nice 2 273=true:=iz h1;rw[e1]at HN;by_cases h2:1<=chunk/\chunk<=65536;case neg=>have e2:n_ chunk 1 65536=false:=du h2;rw[e2]at HK;have Vr:Hid (R=false):=ae (by rw[Ij.out];exact du (λh=>h2 h.2.1));clear h1 e1 h2 e2;go_enter func53,ntmps53;go_upto_region 1 with fail;rw[HW.out];go_wp2_with fail;refine HM.mono ?_;rintro e w1 ⟨C,L,rfl,_,aI,_,_⟩;obtain⟨_,_,_,d3,d4,d8⟩:=HC.out w1 aI;have bF:=ae aI;clear aI c0 c1 c2;go_wp2_with fail;refine(HN w1).mono ?_;rintro e w2 ⟨rfl,rfl⟩;go_wp2_with fail;refine(HK w1).mono ?_;rintro e w2 ⟨rfl,rfl⟩;go_wp2;go_ret;exact⟨by rw[Vr.out];rfl,aQ cW.out bF.out⟩
   case pos=>
    have e2:n_ chunk 1 65536=true:=iz h2;rw[e2]at HK;have HRw:Hid (R=decide (4096<=dict/\dict<=67108864)):=ae (by rw[Ij.out];exact decide_eq_decide.2 ⟨λh=>h.2.2,λh=>⟨h1,h2,h⟩⟩);clear h1 e1 h2 e2;by_cases h3:4096<=dict;case neg=>have Vr:Hid (R=false):=ae (by rw[HRw.out];exact du (λh=>h3 h.1));have e3: ¬4096<=(dict:Int):=aa;go_enter func53,ntmps53;go_upto_region 1 with fail;rw[HW.out];go_wp2_with fail;refine HM.mono ?_;rintro e w1 ⟨C,L,rfl,_,aI,_,_⟩;obtain⟨_,_,_,d3,d4,d8⟩:=HC.out w1 aI;have bF:=ae aI;clear aI c0 c1 c2;go_wp2_with fail;refine(HN w1).mono ?_;rintro e w2 ⟨rfl,rfl⟩;go_wp2_with fail;refine(HK w1).mono ?_;rintro e w2 ⟨rfl,rfl⟩;go_wp2;go_ret;exact⟨by rw[Vr.out];rfl,aQ cW.out bF.out⟩
    case pos=>have e3:4096<=(dict:Int):=aa;have⟨q,hq⟩:=ex (decide (dict<=67108864));have oP:decide ((dict:Int)<=67108864)=q:=(by rw[<-hq];exact decide_eq_decide.2 aa);have Vr:Hid (R=q):=ae (by rw[HRw.out,<-hq];exact decide_eq_decide.2 aa);go_enter func53,ntmps53;go_upto_region 1 with fail;rw[HW.out];go_wp2_with fail;refine HM.mono ?_;rintro e w1 ⟨C,L,rfl,_,aI,_,_⟩;obtain⟨_,_,_,d3,d4,d8⟩:=HC.out w1 aI;have bF:=ae aI;clear aI c0 c1 c2;go_wp2_with fail;refine(HN w1).mono ?_;rintro e w2 ⟨rfl,rfl⟩;go_wp2_with fail;refine(HK w1).mono ?_;rintro e w2 ⟨rfl,rfl⟩;go_wp2;go_ret;exact⟨by rw[Vr.out];simp,aQ cW.out bF.out⟩
def po(n:Nat):List UInt8:=[UInt8.ofNat (n/256),UInt8.ofNat n]
theorem pp(n:Nat)(hn:n<=281474976710656)(w:Lo):Calls prog 108 #[.int .i64 ((n+1:Nat):Int)] w (nU w (po n)):=by
 have h1:(((n+1:Nat):Int))-1=(n:Int):=aa;have h2:wrap64 (n:Int)=n:=gK aa aa;have qV:(n:Int)<=281474976710656:=aa;have HO:=ae (fun(v1 v2:Value) (e1:v1=B8 (UInt8.ofNat (n/256))) (e2:v2=B8 (UInt8.ofNat n))=>show Own w.heap.size (w.alloc (.cells #[v1,v2] 5)) (.slice (some ⟨w.heap.size,0,none⟩) 2 2) (po n) by
  subst e1 e2;exact Own.lit w (po n) (aF _) (by unfold po;simp))
 have⟨k,hk⟩:=ex (((n+1:Nat):Int));rw[hk]at h1 ⊢;clear hk;go_enter func108,ntmps108;go_wp2;go_ret;refine⟨_,rfl,HO.out _ _ ?_ ?_,az⟩;·simp only[B8,IntKind.wrap_u16,fN];congr 1;omega
 ·simp only[B8,IntKind.wrap_u16,fN];congr 1;omega
theorem QU(lc lp pb:Nat)(nice chunk block check:Int)(chain:Value)(dict:Nat)(lj:lc<=4)(Dn:lp<=4)(DG:pb<=4)(w:Lo):
  Calls prog 109 #[BK lc lp pb nice chunk block check chain dict] w λe w'=>e= .returned (B8 (UInt8.ofNat (lc+9*(lp+5*pb))))/\Below w.heap.size w w':=by
 have⟨W,hW⟩:=ex (w.alloc (.cells #[.int .i64 lc,.int .i64 lp,.int .i64 pb,.int .i64 nice,.int .i64 chunk,.int .i64 block,.int .i64 check,chain,.int .u32 dict] 26));obtain⟨aY,bZ⟩:=dI (vs:=eL lc lp pb nice chunk block check chain dict) hW;have c0:W.cell? ⟨w.heap.size,0,none⟩=some (.int .i64 lc):=oZ;have c1:W.cell? ⟨w.heap.size,1,none⟩=some (.int .i64 lp):=oZ;have c2:W.cell? ⟨w.heap.size,2,none⟩=some (.int .i64 pb):=oZ;have HW:=ae hW;have cW:=ae bZ;have hi1:(lc:Int)<=4:=aa;have hi2:(lp:Int)<=4:=aa;have Vs:(pb:Int)<=4:=aa;have HE:Hid (Value.int IntKind.u8 ((lc:Int)+9*((lp:Int)+5*(pb:Int)))=B8 (UInt8.ofNat (lc+9*(lp+5*pb)))):=ae (by
  simp only[B8,fN];congr 1;omega)
 clear aY hW bZ;go_enter func109,ntmps109;go_upto_region 1 with fail;rw[HW.out];go_wp2;go_ret;exact⟨aR Ending.returned HE.out,cW.out⟩
section
open Go.ChangeShapes Go.WideShapes Go.ChangeAt Go.RowKit Go.Joins
theorem QV{W:Lo}{b0:Nat}{t e:TypeId}{a:Addr}{len cap:Nat}(ht:prog.underlying t=some (.slice e))(h:Value.okWide prog W .any b0 t (.slice (some a) len cap)):a.block<W.heap.size:=by
 simp only[Value.okWide,ht,Cell.okWide,Cell.ok,World.has]at h;obtain⟨_,_,_,_,row,cells,hs,_⟩:=h;rcases dN a.block W.heap.size with h|h;·exact h
 ·unfold World.shape? at hs;rw[lI h]at hs;cases hs
theorem Jg{H:Type}{enc:TypeId×Value->H}{W:Lo}{b0:Nat}{v:Value}{d:DataW H}{p:List MemPlace}
  (hval:Value.okWide prog W .any b0 22 v) (h:DataW.Trod enc prog W 0 (λ_=>true) true 22 v d p):
  ∃(A:As) (l:An) (c:Nat),v= .slice A l.length c/\l.length<=c/\c<=9223372036854775807/\(Bytes W A l/\ ∀a,A=some a->a.block<W.heap.size):=by
 obtain⟨A,l,c,rfl,h1,h2,h3⟩:=LU hval h;refine⟨A,l,c,rfl,h1,h2,h3,λa e=> ?_⟩;subst e;exact QV underlying22 hval
theorem ai4{l:List Value}(h:l.length=9): ∃a b c d e f g i j,l=[a,b,c,d,e,f,g,i,j]:=by
 match l,h with
 | [a,b,c,d,e,f,g,i,j],_=>exact⟨a,b,c,d,e,f,g,i,j,rfl⟩
theorem eT{H:Type}{enc:TypeId×Value->H}{W:Lo}{n:Nat}{t:TypeId}{k:IntKind}{cs:List Value}{j:Nat}{y:Option (DataW H×List MemPlace)}(hk:prog.underlying t=some (.int k))(hl:j<cs.length)
  (hy:y.isSome=true) (h:DataW.trod enc prog W 0 (λ_=>true) true n t ((cs.drop j).take 1)=y): ∃z,cs[j]? =some (.int k z)/\(Lit.int k z).wf=true:=by
 obtain⟨x,rfl⟩:=Option.isSome_iff_exists.1 hy;obtain⟨z,hz,_,hw⟩:=DataW.trod_int hk h;refine⟨z,?_,hw⟩;have e:(cs.drop j).take 1=[cs[j]]:=by rw[List.drop_eq_getElem_cons hl];rfl
 rw[e]at hz;injection hz with hz;rw[dS hl,hz]
theorem Vt:prog.cellsOf 26=9:=ak
end
abbrev im:Type:=(Nat->Nat)×Rc.St
theorem not_false{b:Bool}(h:b=true): ¬b=false:=λe=>Bool.noConfusion (h.symm.trans e)
theorem Ji(g at_:Nat)(v:Int): ∀(n m:Nat) (x:im),Md.dC (ao g) at_ v n m x=Md.dC (ao 0) at_ v n m x
 | 0,_,_=>rfl
 | n+1,m,x=>Ji g at_ v n (2*m+((ao 0).aD (at_+m) (Md.bg v n) x).1.toNat) ((ao 0).aD (at_+m) (Md.bg v n) x).2
theorem Gi(g at_ n:Nat)(v:Int)(x:im):Md.tree (ao g) at_ n v x=Md.tree (ao 0) at_ n v x:=
 aR (λy:Nat×im=>(y.1-2^n,y.2)) (Ji g at_ v n 1 x)
theorem Pz(g at_:Nat)(v:Int): ∀(k i m a:Nat) (x:im),Md.kY (ao g) at_ v k i m a x=Md.kY (ao 0) at_ v k i m a x
 | 0,_,_,_,_=>rfl
 | k+1,i,m,a,x=>Pz g at_ v k (i+1) (2*m+((ao 0).aD (at_+m) (Md.bg v i) x).1.toNat) (a+((ao 0).aD (at_+m) (Md.bg v i) x).1.toNat*2^i) ((ao 0).aD (at_+m) (Md.bg v i) x).2
theorem abV(g at_ n:Nat)(v:Int)(x:im):Md.rev (ao g) at_ n v x=Md.rev (ao 0) at_ n v x:=Pz g at_ v n 0 1 0 x
theorem Vu(g A p:Nat)(l:Int)(x:im):Md.len (ao g) A p l x=Md.len (ao 0) A p l x:=by
 cases h1:((ao 0).aD A (decide (8<=l-2)) x).1 with
 | false=>exact(show Md.len (ao g) A p l x=_ from ax h1).trans ((aR (λy:Nat×im=>(2+y.1,y.2)) (Gi g (A+2+8*p) 3 (l-2) _)).trans (show Md.len (ao 0) A p l x=_ from ax h1).symm)
 | true=>
  cases h2:((ao 0).aD (A+1) (decide (16<=l-2)) ((ao 0).aD A (decide (8<=l-2)) x).2).1 with
  | false=>exact(show Md.len (ao g) A p l x=_ from(au (not_false h1)).trans (ax h2)).trans ((aR (λy:Nat×im=>(10+y.1,y.2)) (Gi g (A+130+8*p) 3 (l-2-8) _)).trans (show Md.len (ao 0) A p l x=_ from(au (not_false h1)).trans (ax h2)).symm)
  | true=>exact(show Md.len (ao g) A p l x=_ from(au (not_false h1)).trans (au (not_false h2))).trans ((aR (λy:Nat×im=>(18+y.1,y.2)) (Gi g (A+258) 8 (l-2-16) _)).trans (show Md.len (ao 0) A p l x=_ from(au (not_false h1)).trans (au (not_false h2))).symm)
def jb(io:Io)(d:Nat)(y:Nat×io.S):Nat×io.S:=
 if y.1<4 then(y.1+1,y.2)
 else if y.1<14 then((2+y.1%2)*2^(y.1/2-1)+(Md.rev io (1716+32*y.1) (y.1/2-1) (d:Nat) y.2).1+1,(Md.rev io (1716+32*y.1) (y.1/2-1) (d:Nat) y.2).2)
 else((2+y.1%2)*2^(y.1/2-1)+(io.plain y.2.2 (d/16%2^(y.1/2-1-4)) (y.1/2-1-4)).1%2^(y.1/2-1-4)*16+(Md.rev io 2164 4 (d:Nat) (y.2.1,(io.plain y.2.2 (d/16%2^(y.1/2-1-4)) (y.1/2-1-4)).2)).1+1,(Md.rev io 2164 4 (d:Nat) (y.2.1,(io.plain y.2.2 (d/16%2^(y.1/2-1-4)) (y.1/2-1-4)).2)).2)
theorem MF(g d:Nat)(y:Nat×im):jb (ao g) d y=jb (ao 0) d y:=by
 by_cases h1:y.1<4;·exact(show jb (ao g) d y=_ from ax h1).trans (show jb (ao 0) d y=_ from ax h1).symm
 ·by_cases h2:y.1<14;·exact(show jb (ao g) d y=_ from(au h1).trans (ax h2)).trans ((aR (λz:Nat×im=>((2+y.1%2)*2^(y.1/2-1)+z.1+1,z.2)) (abV g (1716+32*y.1) (y.1/2-1) (d:Nat) y.2)).trans (show jb (ao 0) d y=_ from(au h1).trans (ax h2)).symm)
  ·exact(show jb (ao g) d y=_ from(au h1).trans (au h2)).trans ((aR (λz:Nat×im=>((2+y.1%2)*2^(y.1/2-1)+((ao 0).plain y.2.2 (d/16%2^(y.1/2-1-4)) (y.1/2-1-4)).1%2^(y.1/2-1-4)*16+z.1+1,z.2)) (abV g 2164 4 (d:Nat) (y.2.1,((ao 0).plain y.2.2 (d/16%2^(y.1/2-1-4)) (y.1/2-1-4)).2))).trans (show jb (ao 0) d y=_ from(au h1).trans (au h2)).symm)
theorem Et(io:Io)(l:Nat)(dd:Int)(x:io.S):Md.d6 io l dd x=jb io ((dd-1)%4294967296).toNat (Md.tree io (1460+64*min (l-2) 3) 6 (fT ((dd-1)%4294967296).toNat:Nat) x):=rfl
theorem adK(g l:Nat)(d:Int)(x:im):Md.d6 (ao g) l d x=Md.d6 (ao 0) l d x:=
 (Et (ao g) l d x).trans ((MF g _ _).trans ((aR (λy=>jb (ao 0) ((d-1)%4294967296).toNat y) (Gi g _ 6 _ x)).trans (Et (ao 0) l d x).symm))
theorem PB(g T like:Nat)(v:Int): ∀(n m:Nat) (al:Bool) (x:im),Md.iZ (ao g) T like v n m al x=Md.iZ (ao 0) T like v n m al x
 | 0,_,_,_=>rfl
 | n+1,_,_,_=>PB g T like v n _ _ _
theorem ai6(g lc lp st:Nat)(a:Int)(H:An)(v:Int)(x:im):Md.lit (ao g) lc lp st a H v x=Md.lit (ao 0) lc lp st a H v x:=
 aR (λy:Nat×im=>(UInt8.ofNat y.1,y.2)) (PB g _ _ v 8 1 _ x)
def kZ(io:Io)(st p:Nat)(l:Int)(w:Nat×io.S):(Nat×Nat)×io.S:=
 if w.1=0 then
  if(io.aD (240+16*st+p) (l !=1) w.2).1=false then((0,1),(io.aD (240+16*st+p) (l !=1) w.2).2)
  else((0,(Md.len io 946 p l (io.aD (240+16*st+p) (l !=1) w.2).2).1),(Md.len io 946 p l (io.aD (240+16*st+p) (l !=1) w.2).2).2)
 else((w.1,(Md.len io 946 p l w.2).1),(Md.len io 946 p l w.2).2)
theorem MG(g st p:Nat)(l:Int)(w:Nat×im):kZ (ao g) st p l w=kZ (ao 0) st p l w:=by
 by_cases h1:w.1=0
 ·cases h2:((ao 0).aD (240+16*st+p) (l !=1) w.2).1 with
  | false=>exact(show kZ (ao g) st p l w=_ from(ax h1).trans (ax h2)).trans (show kZ (ao 0) st p l w=_ from(ax h1).trans (ax h2)).symm
  | true=>exact(show kZ (ao g) st p l w=_ from(ax h1).trans (au (not_false h2))).trans ((aR (λz:Nat×im=>((0,z.1),z.2)) (Vu g 946 p l ((ao 0).aD (240+16*st+p) (l !=1) w.2).2)).trans (show kZ (ao 0) st p l w=_ from(ax h1).trans (au (not_false h2))).symm)
 ·exact(show kZ (ao g) st p l w=_ from au h1).trans ((aR (λz:Nat×im=>((w.1,z.1),z.2)) (Vu g 946 p l w.2)).trans (show kZ (ao 0) st p l w=_ from au h1).symm)
theorem adL(g st p:Nat)(l q:Int)(x:im):Md.zt (ao g) st p l q x=Md.zt (ao 0) st p l q x:=MG g st p l (Md.which (ao 0) st q x)
theorem ai7(g lc lp pb st:Nat)(r:R4)(H:An)(k:Int)(b:UInt8)(l d q:Int)(x:im):Md.sym (ao g) lc lp pb st r H k b l d q x=Md.sym (ao 0) lc lp pb st r H k b l d q x:=by
 cases h1:((ao 0).aD (16*st+H.length%2^pb) (k !=0) x).1 with
 | false=>exact(show Md.sym (ao g) lc lp pb st r H k b l d q x=_ from ax h1).trans ((aR (λz:UInt8×im=>((⟨0,z.1,0,0,0⟩:Sy),fU st,r,z.2)) (ai6 g lc lp st r.1 H (b.toNat:Nat) ((ao 0).aD (16*st+H.length%2^pb) (k !=0) x).2)).trans (show Md.sym (ao 0) lc lp pb st r H k b l d q x=_ from ax h1).symm)
 | true=>
  cases h2:((ao 0).aD (192+st) (k !=1) ((ao 0).aD (16*st+H.length%2^pb) (k !=0) x).2).1 with
  | false=>
   refine(show Md.sym (ao g) lc lp pb st r H k b l d q x=_ from(au (not_false h1)).trans (ax h2)).trans (Eq.trans ?_ (show Md.sym (ao 0) lc lp pb st r H k b l d q x=_ from(au (not_false h1)).trans (ax h2)).symm);have e1:=Vu g 432 (H.length%2^pb) l ((ao 0).aD (192+st) (k !=1) ((ao 0).aD (16*st+H.length%2^pb) (k !=0) x).2).2;have e2:=fun(n:Nat×im)=>adK g n.1 d n.2;exact(aR (λn:Nat×im=>((⟨1,0,n.1,(Md.d6 (ao g) n.1 d n.2).1,0⟩:Sy),(if st<7 then 7 else 10),ie r 3 ((Md.d6 (ao g) n.1 d n.2).1:Nat),(Md.d6 (ao g) n.1 d n.2).2)) e1).trans (aR (λz:Nat×im=>((⟨1,0,(Md.len (ao 0) 432 (H.length%2^pb) l ((ao 0).aD (192+st) (k !=1) ((ao 0).aD (16*st+H.length%2^pb) (k !=0) x).2).2).1,z.1,0⟩:Sy),(if st<7 then 7 else 10),ie r 3 (z.1:Nat),z.2)) (e2 _))
  | true=>
   refine(show Md.sym (ao g) lc lp pb st r H k b l d q x=_ from(au (not_false h1)).trans (au (not_false h2))).trans (Eq.trans ?_ (show Md.sym (ao 0) lc lp pb st r H k b l d q x=_ from(au (not_false h1)).trans (au (not_false h2))).symm);exact aR (λz:(Nat×Nat)×im=>((⟨2,0,z.1.2,0,z.1.1⟩:Sy),(if st<7 then(if z.1.2=1 then 9 else 8)else 11),ie r z.1.1 (r4 r.1 r.2.1 r.2.2.1 r.2.2.2 z.1.1),z.2)) (adL g st (H.length%2^pb) l q ((ao 0).aD (192+st) (k !=1) ((ao 0).aD (16*st+H.length%2^pb) (k !=0) x).2).2)
theorem mD(hp:p<tt)(ht:tt<=D.length)(hD:D.length<=100000)(B5:1<=dict)(hn:nice<=273):V1 D dict p r (gV D dict nice tt p r):=by
 unfold gV jp;have⟨X,hX⟩:=ex ((tt:Int)-(p:Int):Int);rw[hX];obtain⟨⟨rn,Zo⟩,hr⟩: ∃z,fh D dict (p:Int) X r.1 r.2.1 r.2.2.1 r.2.2.2=z:=⟨_,rfl⟩
 obtain⟨⟨mn,mk⟩,hm⟩: ∃z,nx D dict nice (p:Int) X=z:=⟨_,rfl⟩
 rw[hr,hm];simp only;split
 ·rename_i h1;have aV:Zo<4:=by have:=uo (g:=λi=>d7 D dict (p:Int) (r4 r.1 r.2.1 r.2.2.1 r.2.2.2 i) X) 4 ar;unfold fh at hr;rw[hr]at this;exact this
  have cZ:d7 D dict (p:Int) (r4 r.1 r.2.1 r.2.2.1 r.2.2.2 Zo) X=rn:=by
   have:=uq (g:=λi=>d7 D dict (p:Int) (r4 r.1 r.2.1 r.2.2.1 r.2.2.2 i) X) 4;unfold fh at hr;rw[hr]at this;rcases this with e|e;·simp only at e;omega
   ·exact e
  obtain⟨k,hk,hc,hkd,hl,fm⟩:=rz cZ aa;have PM:=ajB r Zo;rw[hk]at PM;have Ib:=hc.back;have hdz:nu r ((2:Nat):Int) ((0:Nat):Int) (Zo:Nat)=(k:Int):=PM;refine⟨aF 2,by show Zo<=3;omega,?_,by rw[hdz];exact hkd,rfl,⟨k,hdz,λ_=>⟨hc.one,Ib⟩,?_⟩,?_,hl⟩;·show kt r (p:Int) 2 (rn:Nat) 0 (Zo:Nat)=true;unfold kt;rw[PM];simp;omega
  ·show pY (D.take p) 2 0 rn k=D.take (p+max rn 1);rw[show max rn 1=rn by omega];exact ny rn hc
  ·show p+max rn 1<=D.length;have:=hc.fits;omega
 ·split
  ·rename_i h1 h2;obtain⟨g2,g3,hc,hkd,_⟩:=yJ hm aa;have Ib:=hc.back;have dE:=hc.one;refine⟨(by decide:1<=2),cI 3,?_,hkd,rfl,⟨mk,rfl,λ_=>⟨hc.one,Ib⟩,?_⟩,?_,by show mn<=273;omega⟩;·show kt r (p:Int) 1 (mn:Nat) (mk:Nat) 0=true;unfold kt;simp;omega
   ·show pY (D.take p) 1 0 mn mk=D.take (p+max mn 1);rw[show max mn 1=mn by omega];exact ny mn hc
   ·show p+max mn 1<=D.length;have:=hc.fits;omega
  ·split
   ·rename_i h1 h2 h3;have⟨l,hl⟩:=ex (d7 D dict (p:Int) r.1 X);rw[hl]at h3;obtain⟨k,hk,hc,hkd,_,_⟩:=rz hl aa;have VS:Cut D p 1 k:=⟨hc.one,hc.back,av hc.fits,λi hi=>hc.same i aa⟩
    have Ib:=hc.back;have hdz:nu r ((2:Nat):Int) ((0:Nat):Int) ((0:Nat):Int)=(k:Int):=hk;have PM:QR r 0=(k:Int):=hk;refine⟨aF 2,cI 3,?_,by rw[hdz];exact hkd,rfl,⟨k,hdz,λ_=>⟨hc.one,Ib⟩,?_⟩,?_,by show 1<=273;decide⟩;·show kt r (p:Int) 2 1 0 0=true;unfold kt;rw[PM];simp;omega
    ·show pY (D.take p) 2 0 1 k=D.take (p+max 1 1);exact ny 1 VS
    ·show p+max 1 1<=D.length;omega
   ·refine⟨cI 2,cI 3,rfl,by show(0:Int)<=dict;omega,rfl,⟨0,rfl,λh=>absurd rfl h,?_⟩,?_,cI _⟩;·show D.take p++[D.getD p 0]=D.take (p+max 0 1);rw[show max 0 1=1 from rfl,List.take_add_one,dQ (db hp ht),dS (db hp ht)];rfl
    ·show p+max 0 1<=D.length;omega
theorem Gu(hp:p<tt):p+max (gV D dict nice tt p r).l 1<=tt:=by
 unfold gV jp;have⟨X,hX⟩:=ex ((tt:Int)-(p:Int):Int);rw[hX];obtain⟨⟨rn,Zo⟩,hr⟩: ∃z,fh D dict (p:Int) X r.1 r.2.1 r.2.2.1 r.2.2.2=z:=⟨_,rfl⟩
 obtain⟨⟨mn,mk⟩,hm⟩: ∃z,nx D dict nice (p:Int) X=z:=⟨_,rfl⟩
 rw[hr,hm];simp only;split
 ·rename_i h1;have cZ:d7 D dict (p:Int) (r4 r.1 r.2.1 r.2.2.1 r.2.2.2 Zo) X=rn:=by
   have:=uq (g:=λi=>d7 D dict (p:Int) (r4 r.1 r.2.1 r.2.2.1 r.2.2.2 i) X) 4;unfold fh at hr;rw[hr]at this;rcases this with e|e;·simp only at e;omega
   ·exact e
  obtain⟨k,hk,hc,hkd,hl,fm⟩:=rz cZ aa;show p+max rn 1<=tt;omega
 ·split;·rename_i h1 h2;obtain⟨g2,g3,hc,hkd,fm⟩:=yJ hm aa;show p+max mn 1<=tt;omega
  ·split;·show p+max 1 1<=tt;omega
   ·show p+max 0 1<=tt;omega
section
structure ip where
 A:Option Addr
 D:List UInt8
 cD:Nat
 lc:Nat
 lp:Nat
 pb:Nat
 nice:Int
 chunk:Int
 block:Int
 check:Int
 chain:Value
 dict:Nat
 F:Nat
abbrev ab8(k:ip)(cv:Value)(had:Bool):List Value:=
 [.slice k.A k.D.length k.cD,.int .i64 k.lc,.int .i64 k.lp,.int .i64 k.pb,.int .i64 k.nice,.int .i64 k.chunk,.int .i64 k.block,.int .i64 k.check,k.chain,.int .u32 k.dict,PF k.F,cv,.bool had]
def gE(w:Lo)(p:Nat)(k:ip)(cv:Value)(had:Bool):Prop:=w.heap[p]? =some (.cells (ab8 k cv had).toArray 103 (0,0))
section
variable{w w':Lo}{p:Nat}{k:ip}{cv:Value}{had:Bool}
theorem gE.lt(h:gE w p k cv had):p<w.heap.size:=(bU h)
theorem gE.aU(h:gE w p k cv had)(hk:w'.heap[p]? =w.heap[p]?):gE w' p k cv had:=hk.trans h
theorem gE.below(h:gE w p k cv had)(hb:Below w.heap.size w w'):gE w' p k cv had:=h.aU (hb.block _ h.lt)
theorem gE.frozen(h:gE w p k cv had)(i:Nat):w.frozen? ⟨p,i,none⟩=false:=aS _ _ _ _ _ h
theorem gE.data(h:gE w p k cv had):w.cell? ⟨p,0,none⟩=some (.slice k.A k.D.length k.cD):=t7
theorem gE.lc(h:gE w p k cv had):w.cell? ⟨p,1,none⟩=some (.int .i64 k.lc):=t7
theorem gE.lp(h:gE w p k cv had):w.cell? ⟨p,2,none⟩=some (.int .i64 k.lp):=t7
theorem gE.pb(h:gE w p k cv had):w.cell? ⟨p,3,none⟩=some (.int .i64 k.pb):=t7
theorem gE.find(h:gE w p k cv had):w.cell? ⟨p,10,none⟩=some (PF k.F):=t7
theorem gE.Lm(h:gE w p k cv had):w.cell? ⟨p,11,none⟩=some cv:=t7
theorem gE.ajH(h:gE w p k cv had):w.cell? ⟨p,12,none⟩=some (.bool had):=t7
theorem gE.opts(h:gE w p k cv had):w.cell? ⟨p,4,none⟩=some (.int .i64 k.nice)/\w.cell? ⟨p,5,none⟩=some (.int .i64 k.chunk)/\w.cell? ⟨p,6,none⟩=some (.int .i64 k.block)/\w.cell? ⟨p,7,none⟩=some (.int .i64 k.check)/\w.cell? ⟨p,8,none⟩=some k.chain/\w.cell? ⟨p,9,none⟩=some (.int .u32 k.dict):=by refine⟨?_,?_,?_,?_,?_,?_⟩<;>(rw[aC w _ _ _ _ _ h];rfl)
theorem gE.V4(h:gE w p k cv had)(Zq:Value):gE (w.setCell ⟨p,11,none⟩ Zq) p k Zq had:=heap_set h 11 Zq
theorem gE.aec(h:gE w p k cv had)(b:Bool):gE (w.setCell ⟨p,12,none⟩ (.bool b)) p k cv b:=heap_set h 12 (.bool b)
end
abbrev gF:Type:=Option (Nat×R4×(Nat->Nat))
def Gv:Nat×R4×(Nat->Nat):=(0,(1,1,1,1),λ_=>1024)
structure Rj(w:Lo)(k:ip)(C L:Nat)(s:Nat×R4×(Nat->Nat)):Prop where
 mod:dp w C L k.lc k.lp k.pb s.1 s.2.1 s.2.2
 st:s.1<12
 ur:fp s.2.1
def p7(w:Lo)(k:ip)(cv:Value)(Y:List Nat):gF->Prop
 | none=>cv= .pointer none/\Y=[]
 | some s=> ∃C L,cv=PF C/\Y=[C,L]/\Rj w k C L s
theorem Rj.aU{w w':Lo}{k:ip}{C L:Nat}{s:Nat×R4×(Nat->Nat)}(h:Rj w k C L s)(hC:w'.heap[C]? =w.heap[C]?)(hL:w'.heap[L]? =w.heap[L]?):Rj w' k C L s:=⟨h.mod.aU hC hL,h.st,h.ur⟩
theorem p7.lt{w:Lo}{k:ip}{cv:Value}{Y:List Nat}{s:gF}(h:p7 w k cv Y s): ∀i∈Y,i<w.heap.size:=by
 cases s with
 | none=>obtain⟨_,rfl⟩:=h;intro i hi;cases hi
 | some s=>
  obtain⟨C,L,_,rfl,hc⟩:=h;intro i hi;simp only[dc,fM,or_false]at hi;rcases hi with rfl|rfl;·exact hc.mod.Hq
  ·exact hc.mod.FX
theorem p7.aU{w w':Lo}{k:ip}{cv:Value}{Y:List Nat}{s:gF}(h:p7 w k cv Y s)(hk: ∀i∈Y,w'.heap[i]? =w.heap[i]?):p7 w' k cv Y s:=by
 cases s with
 | none=>exact h
 | some s=>
  obtain⟨C,L,e,rfl,hc⟩:=h;exact⟨C,L,e,rfl,hc.aU (hk C ah) (hk L ah)⟩
theorem p7.below{w w':Lo}{k:ip}{cv:Value}{Y:List Nat}{s:gF}(h:p7 w k cv Y s)(hb:Below w.heap.size w w'):p7 w' k cv Y s:=h.aU λi hi=>hb.block i (h.lt i hi)
theorem p7.apart{w:Lo}{k:ip}{cv:Value}{Y:List Nat}{s:gF}(h:p7 w k cv Y s){j:Nat}{cs:Array Value}{t:TypeId}{x:Nat×Nat}(hj:w.heap[j]? =some (.cells cs t x))(h1:t≠171)(h2:t≠317):j ∉ Y:=by
 cases s with
 | none=>obtain⟨_,rfl⟩:=h;intro hi;cases hi
 | some s=>
  obtain⟨C,L,_,rfl,hc⟩:=h;intro hi;simp only[dc,fM,or_false]at hi;rcases hi with rfl|rfl;·obtain⟨T,hT,_⟩:=hc.mod.box;rw[hj]at hT;injection hT with hT;injection hT with _ e _;exact h1 e
  ·obtain⟨T,hT,_⟩:=hc.mod.lits;rw[hj]at hT;injection hT with hT;injection hT with _ e _;exact h2 e
structure Pk(w:Lo)(p:Nat)(k:ip)(s:gF)(had:Bool)(Y:List Nat):Prop where
 ex: ∃cv,gE w p k cv had/\p7 w k cv Y s
theorem Pk.lt{w:Lo}{p:Nat}{k:ip}{s:gF}{had:Bool}{Y:List Nat}(h:Pk w p k s had Y):p<w.heap.size:=by obtain⟨cv,h1,_⟩:=h.ex;exact h1.lt
theorem Pk.ltY{w:Lo}{p:Nat}{k:ip}{s:gF}{had:Bool}{Y:List Nat}(h:Pk w p k s had Y): ∀i∈Y,i<w.heap.size:=by obtain⟨cv,_,h2⟩:=h.ex;exact h2.lt
theorem Pk.below{w w':Lo}{p:Nat}{k:ip}{s:gF}{had:Bool}{Y:List Nat}(h:Pk w p k s had Y)(hb:Below w.heap.size w w'):Pk w' p k s had Y:=by obtain⟨cv,h1,h2⟩:=h.ex;exact⟨cv,h1.below hb,h2.below hb⟩
theorem Pk.aU{w w':Lo}{p:Nat}{k:ip}{s:gF}{had:Bool}{Y:List Nat}(h:Pk w p k s had Y)(hk: ∀i∈p::Y,w'.heap[i]? =w.heap[i]?):Pk w' p k s had Y:=by obtain⟨cv,h1,h2⟩:=h.ex;exact⟨cv,h1.aU (hk p ah),h2.aU λi hi=>hk i (by simp[hi])⟩
theorem Pk.own{base:Nat}{w:Lo}{p:Nat}{k:ip}{s:gF}{had:Bool}{Y:List Nat}(h:Pk w p k s had Y){v:Value}{l:An}(ho:Own base w v l): ∀g,v.ownBlock=some g->g ∉ p::Y:=by
 obtain⟨cv,h1,h2⟩:=h.ex;intro g hg;rcases ho with⟨_,⟨rfl,_⟩|⟨g',bW,cur,rfl,_,h4,_⟩⟩
 ·cases hg
 ·have e:g'=g:=by simpa [Value.ownBlock]using hg
  subst e;intro hi;rcases List.mem_cons.1 hi with rfl|hi;·unfold gE at h1;rw[h4]at h1;injection h1 with h1;injection h1 with _ e _;revert e;decide
  ·exact h2.apart h4 ar ar hi
def gO(lc lp pb:Nat)(D:An):List Sy->Nat->Nat×R4×im->Nat×R4×im
 | [],_,z=>z
 | s::l,p,z=>gO lc lp pb D l (p+max s.l 1) ((Md.sym (ao 0) lc lp pb z.1 z.2.1 (D.take p) (s.k:Nat) s.b (s.l:Nat) (s.d:Nat) (s.r:Nat) z.2.2).2)
def rA(k:ip)(a b:Nat)(r:R4):List Sy:=(bX k.D (k.dict:Nat) k.nice b (b-a) a r).1
def iT(k:ip)(a b:Nat)(s:Nat×R4×(Nat->Nat)):List UInt8×(Nat×R4×(Nat->Nat)):=
 let z:=gO k.lc k.lp k.pb k.D (rA k a b s.2.1) a (s.1,s.2.1,(s.2.2,Ec))
 (Rc.be (5+z.2.2.2.k) z.2.2.2.v,(z.1,z.2.1,z.2.2.1))
end
def vQ(a:Nat)(had:Bool)(s:gF):UInt8:=if a=0 then 224 else if had=false then 192 else if s.isNone=true then 160 else 128
theorem JH{k:ip}{s:gF}(h:Pk w p k s had Y)(a:Nat):
  Calls prog 106 #[PF p,.int .i64 a] w λe w'=>e= .returned (B8 (vQ a had s))/\w=w':=by
 obtain⟨cv,hP,hC⟩:=h.ex;have c11:=hP.Lm;have c12:=hP.ajH;clear h hP;by_cases ha:a=0;·subst ha;have HV:Hid (B8 (vQ 0 had s)= .int .u8 224):=ae rfl;go_enter func106,ntmps106;go_wp2;go_ret;exact⟨aR Ending.returned HV.symm,rfl⟩
 ·have h0:((a:Int)==0)=false:=by rw[gQ];omega
  cases had with
  | false=>
   have HV:Hid (B8 (vQ a false s)= .int .u8 192):=ae (by unfold vQ;rw[au ha];rfl);clear ha;go_enter func106,ntmps106;go_wp2;go_ret;exact⟨aR Ending.returned HV.symm,rfl⟩
  | true=>
   cases s with
   | none=>
    obtain⟨rfl,_⟩:=hC;have HV:Hid (B8 (vQ a true none)= .int .u8 160):=ae (by unfold vQ;rw[au ha];rfl);clear ha;go_enter func106,ntmps106;go_wp2;go_ret;exact⟨aR Ending.returned HV.symm,rfl⟩
   | some s=>
    obtain⟨C,L,rfl,_,_⟩:=hC;have HV:Hid (B8 (vQ a true (some s))= .int .u8 128):=ae (by unfold vQ;rw[au ha];rfl);clear ha;go_enter func106,ntmps106;go_wp2;go_ret;exact⟨aR Ending.returned HV.symm,rfl⟩
def fv(D:An)(a b:Nat):List UInt8:=((if a=0 then 1 else 2)::po (b-a-1))++(D.drop a).take (b-a)
def ED(w:Lo)(p:Nat)(k:ip)(had:Bool)(l:An)(e:Ending)(w':Lo):Prop:= ∃v,e= .returned v/\Own w.heap.size w' v l/\Pk w' p k none had []/\aM [p] w w'
theorem Rk{k:ip}{s:gF}(h:Pk w p k s had Y){bD oD:Nat}(hA:k.A=some ⟨bD,oD,none⟩)(hB:Bytes w k.A k.D)(hpD:bD≠p)(hc:k.D.length<=k.cD)(hl:k.D.length<=100000)(a b:Nat)(Ln:a<b)(hb:b<=k.D.length):
  Calls prog 110 #[PF p,.int .i64 (a:Nat),.int .i64 b] w (ED w p k had (fv k.D a b)):=by
 obtain⟨cv,hP,_⟩:=h.ex;have aV:=hP.lt;have xm:=hP.V4 (.pointer none);have c11:=hP.Lm;have f11:=hP.frozen 11;have⟨W1,ek⟩:=ex (w.setCell ⟨p,11,none⟩ (.pointer none));have gW:aM [p] w W1:=by rw[<-ek];exact(aM.refl _ _).setCell (.inl ah) _
 have kQ:W1.heap.size=w.heap.size:=by rw[<-ek];simp[World.setCell]
 rw[ek]at xm;have i9:Bytes W1 k.A k.D:=hB.only gW (λa ha=>by rw[hA]at ha;injection ha with ha;subst ha;simpa using hpD);have⟨D,hD⟩:=ex (k.D);have DX:=xm.data;rw[hD]at hc hl hb i9 DX ⊢;rw[hA]at DX i9;obtain⟨cD,hcD⟩: ∃c,k.cD=c:=⟨_,rfl⟩
 rw[hcD]at hc DX;have⟨x,hx⟩:=ex ((if a=0 then 1 else 2):UInt8);have⟨R,hR⟩:=ex (fv D a b);have da:([x]++po (b-a-1))++(D.drop a).take (b-a)=R:=by rw[<-hR];unfold fv;rw[hx];rfl
 rw[hR];have⟨T,hT⟩:=ex ((D.drop a).take (b-a));rw[hT]at da;have pd:T.length=b-a:=by rw[<-hT,eZ,fZ];omega
 have Ic:(a:Int)<b:=aa;have sH:(b:Int)<=D.length:=aa;have n9:(D.length:Int)<=100000:=aa;have oj:(D.length:Int)<=cD:=aa;have p8:(b:Int)-(a:Int)=((b-a-1+1:Nat):Int):=aa;have⟨W2,gH⟩:=ex (W1.alloc (.cells #[B8 x] 5));have dz:Own W1.heap.size W2 (.slice (some ⟨W1.heap.size,0,none⟩) 1 1) [x]:=by rw[<-gH];exact Own.lit W1 [x] (aF _) ah
 have aK:Below W1.heap.size W1 W2:=tZ;have HT:=ae (pp (b-a-1) aa W2);have⟨T2,ua⟩:=ex (po (b-a-1));have ajJ:T2.length=2:=by rw[<-ua];rfl
 rw[ua]at HT da;have nK:=ae ajJ;clear ua ajJ;rw[<-p8]at HT;have xd:=ae ek;have rf:=ae gH;have uU:=ae dz;have dG:=ae aK;have pf:=ae gW;have sD:=ae kQ;have jm:=ae da;have Hn:=ae (ap hT pd);have Cg:=ae xm;have gx:=ae i9;have HL:=ae (ap Ln (ap hb (ap hl hc)));have HCD:=ae DX;have sW:=ae p8;have Pw:=ae (ap hA (ap hD hcD));have tx:=ae aV;clear h hP xm ek gH dz aK gW kQ i9 hB hA hD hcD hc hl hb Ln da DX p8 aV hpD hR hT pd;have fK:(a=0/\x=1)\/(a≠0/\x=2):=by
  by_cases e:a=0;·left;rw[ax e]at hx;exact⟨e,hx.symm⟩
  ·right;rw[au e]at hx;exact⟨e,hx.symm⟩
 clear hx;have HX:Hid (∀(e:Ending) (w':Lo),∀v4 w4 v5,Own W1.heap.size w4 v4 ([x]++T2)->Below W1.heap.size W1 w4->Own W1.heap.size w' v5 (([x]++T2)++T)->w4.grownBy w' v4.ownBlock->e= .returned v5->ED w p k had R e w'):=ae (by
  rintro e w' v4 w4 v5 bM bc gU ig rfl;have eS:Below W1.heap.size W1 w':=am bc ig bc.size (λg e=>(bM.ay g e).1);rw[jm.out]at gU;refine⟨v5,rfl,by rw[<-sD.out];exact gU,⟨_,Cg.below eS,rfl,rfl⟩,?_⟩;exact pf.trans (aM.cJ eS) (λi hi=> .inl hi))
 have jy:=HX.out;clear HX;have HX:=ae jy;clear jy;have kX:=ae (show Bytes W1 (some ⟨bD,oD+a,none⟩) T from by rw[<-Hn.1];exact(gx.drop a).take _);rcases fK with⟨ha,rfl⟩|⟨ha,rfl⟩
 ·have h0:((a:Int)==0)=true:=by rw[beq_iff_eq];omega
  clear ha;go_enter func110,ntmps110;go_upto_region 2 with fail;rw[xd.out];clear c11 f11;go_wp2_with fail;rw[show W1.alloc (Obj.cells #[Value.int .u8 1] 5)=W2 from rf.out];refine HT.mono ?_;rintro e w3 ⟨v3,rfl,dU,bm⟩;obtain⟨A3,c3,rfl,_,_,iP⟩:=dU.read;have ft:=ae (aQ dG.out bm);have V5:=ae (uU.below bm);have V6:=ae iP;clear dU bm iP;go_upto_region 6 with(at_builtin;refine aj ?_ (.tmp 15) (.tmp 19) ?_ W1.heap.size w3 (.slice (some ⟨W1.heap.size,0,none⟩) 1 1) [1] ?_ V5.out A3 T2 c3 ?_ V6.out (by rw[nK.out];decide) ft.size ?_;rfl;rfl;rfl;rfl;intro v4 w4 bM dq;have vA:=ae bM;have fJ:=ae (am ft.out dq ft.size (λg e=>(V5.ay g e).1));have DX:=((Cg.below fJ.out).data);rw[Pw.1,Pw.2.1,Pw.2.2]at DX;clear bM dq)
  go_wp2_with (at_builtin;refine aj ?_ (.tmp 21) (.tmp 28) ?_ W1.heap.size w4 v4 ([1]++T2) ?_ vA.out (some ⟨bD,oD+a,none⟩) T (cD-a) ?_ (kX.below fJ.out) T8 fJ.size ?_;rfl;rfl;rfl;rw[Hn.2];rfl;intro v5 w5 gU ig;have j5:=ae (HX _ _ v4 w4 v5 vA.out fJ.out gU ig rfl);clear gU ig)
  go_ret;exact j5.out
 ·have h0:((a:Int)==0)=false:=by rw[gQ];omega
  clear ha;go_enter func110,ntmps110;go_upto_region 2 with fail;rw[xd.out];clear c11 f11;go_wp2_with fail;rw[show W1.alloc (Obj.cells #[Value.int .u8 2] 5)=W2 from rf.out];refine HT.mono ?_;rintro e w3 ⟨v3,rfl,dU,bm⟩;obtain⟨A3,c3,rfl,_,_,iP⟩:=dU.read;have ft:=ae (aQ dG.out bm);have V5:=ae (uU.below bm);have V6:=ae iP;clear dU bm iP;go_upto_region 6 with(at_builtin;refine aj ?_ (.tmp 15) (.tmp 19) ?_ W1.heap.size w3 (.slice (some ⟨W1.heap.size,0,none⟩) 1 1) [2] ?_ V5.out A3 T2 c3 ?_ V6.out (by rw[nK.out];decide) ft.size ?_;rfl;rfl;rfl;rfl;intro v4 w4 bM dq;have vA:=ae bM;have fJ:=ae (am ft.out dq ft.size (λg e=>(V5.ay g e).1));have DX:=((Cg.below fJ.out).data);rw[Pw.1,Pw.2.1,Pw.2.2]at DX;clear bM dq)
  go_wp2_with (at_builtin;refine aj ?_ (.tmp 21) (.tmp 28) ?_ W1.heap.size w4 v4 ([2]++T2) ?_ vA.out (some ⟨bD,oD+a,none⟩) T (cD-a) ?_ (kX.below fJ.out) T8 fJ.size ?_;rfl;rfl;rfl;rw[Hn.2];rfl;intro v5 w5 gU ig;have j5:=ae (HX _ _ v4 w4 v5 vA.out fJ.out gU ig rfl);clear gU ig)
  go_ret;exact j5.out
end Go.Proofs.YtfcaoggfnkhfiaaGreatDoor
