import Derived.Test.YtgfpocdiojifoaaGreatDoorZ20
import Derived.RangeFuncNested
import Derived.RangeFuncBound
import Derived.RangeFuncCalls
import Derived.RangeFuncLeaves
import Derived.RangeFuncKeeps
import Derived.Test.YtgfpocdiojifoaaGreatDoorRows
import Derived.Shelf.Abstract
import Derived.Shelf.RegionOpen
import Derived.OwnWalkIn
import Derived.TacticsInMore
import Derived.LoopNIn
import Derived.LoopIn
import Derived.RangeFuncBox
import Derived.Maps.AppendAt
import Derived.Test.YtgfpocdiojifoaaGreatDoorZ22
import Derived.Deep.RegionHeld3
namespace Go.Proofs.YtgfpocdiojifoaaGreatDoor
set_option maxRecDepth 100000
set_option maxHeartbeats 8000000
open Go.RowKit Go.Proofs.Tryz
variable{l:List UInt8}{b base bo f n off:Nat}{u v:Value}{w w':World}
def lS(f:bA)(b:List UInt8):List UInt8:=if f.id=3 then Delta.enc b f.n else dh (ga f.id) (fL f.id false) f.n b
def xV(f:bA)(b:List UInt8):List UInt8:=if f.id=3 then Delta.dec b f.n else dh (ga f.id) (fL f.id true) f.n b
def da(l:List bA)(b:List UInt8):List UInt8:=l.foldl (fun b f=>lS f b) b
def kS(l:List bA)(b:List UInt8):List UInt8:=l.foldr xV b
theorem ut(f:bA)(b:List UInt8):(lS f b).length=b.length:=by
 unfold lS;split;·exact Delta.mK _ _
 ·exact mJ _ _ _ _
theorem E8(f:bA)(b:List UInt8):(xV f b).length=b.length:=by
 unfold xV;split;·exact Delta.qu _ _
 ·exact mJ _ _ _ _
theorem di(l:List bA)(b:List UInt8):(da l b).length=b.length:=by
 induction l generalizing b with
 | nil=>rfl
 | cons f l ih=>exact(ih (lS f b)).trans (ut f b)
theorem sk(l:List bA)(b:List UInt8):(kS l b).length=b.length:=by
 induction l with
 | nil=>rfl
 | cons f l ih=>exact(E8 f _).trans ih
theorem MF(f:bA)(b:List UInt8)(h:cW f=true):xV f (lS f b)=b:=by
 unfold xV lS;by_cases h3:f.id=3;·rw[if_pos h3,if_pos h3];unfold cW at h;rw[if_pos h3]at h;simp at h;exact Delta.VT _ _ h.1
 ·rw[if_neg h3,if_neg h3];exact VS f.id false f.n b
theorem Fa(l:List bA)(b:List UInt8)(h:l.all cW=true):kS l (da l b)=b:=by
 induction l generalizing b with
 | nil=>rfl
 | cons f l ih=>
  rw[List.all_cons,Bool.and_eq_true]at h;show xV f (kS l (da l (lS f b)))=b;rw[ih _ h.2,MF f b h.1]
def VX(l:List bA)(b:List UInt8)(k:Nat):List UInt8:=da (l.take k) b
def VY(l:List bA)(b:List UInt8)(k:Nat):List UInt8:=kS (l.drop (l.length-k)) b
theorem In(l:List bA)(b:List UInt8)(k:Nat):(VX l b k).length=b.length:=di _ _
theorem Ip(l:List bA)(b:List UInt8)(k:Nat):(VY l b k).length=b.length:=sk _ _
theorem RL(l:List bA)(b:List UInt8):VX l b 0=b:=by simp[VX,da]
theorem RM(l:List bA)(b:List UInt8):VY l b 0=b:=by simp[VY,kS]
theorem VZ(l:List bA)(b:List UInt8):VX l b l.length=da l b:=by simp[VX]
theorem V0(l:List bA)(b:List UInt8):VY l b l.length=kS l b:=by simp[VY]
theorem RN(l:List bA)(b:List UInt8)(k:Nat)(h:k<l.length):VX l b (k+1)=lS (l[k]'h) (VX l b k):=by unfold VX da;rw[List.take_succ_eq_append_getElem h,List.foldl_append];rfl
theorem RO(l:List bA)(b:List UInt8)(k:Nat)(h:k<l.length):VY l b (k+1)=xV (l[l.length-1-k]'aa) (VY l b k):=by unfold VY kS;rw[show l.length-(k+1)=l.length-1-k by omega,List.drop_eq_getElem_cons aa,show l.length-1-k+1=l.length-k by omega];rfl
theorem qw(f:bA)(h:cW f=true):(f.id=3∧1≤f.n∧f.n≤256)∨(f.id≠3∧Cj f.id∧f.n%4=0):=by
 unfold cW at h;by_cases h3:f.id=3;·rw[if_pos h3]at h;simp at h;exact .inl ⟨h3,h⟩
 ·rw[if_neg h3]at h;exact .inr ⟨h3,(Rz _ _).1 h⟩
theorem kg{fO:Nat}(h:Own base w v l)(hb:fO≤base):Own fO w v l:=De.iP h hb
theorem RP(l:List bA)(i:Nat)(h:i<l.length)(ha:l.all cW=true):cW l[i]=true:=List.all_eq_true.1 ha _ (List.getElem_mem h)
theorem V1(n k:Nat)(h:k<n):(n:Int)-1-(k:Int)=((n-1-k:Nat):Int):=aa
theorem RS(f:bA)(aR:f.ok)(bt:cW f=true)(A:Option Addr)(l:List UInt8)(c:Nat)(w:World)(hB:Bytes w A l)(hm:l.length≤140737488355328):
  Calls prog 39 #[f.agg,.slice A l.length c] w (kf w (lS f l) 0):=by
 obtain⟨id,n⟩:=f;have hb:=bv w;obtain⟨h1,h2,h3⟩:=aR;simp only at h1 h2 h3;rcases qw _ bt with⟨e,g1,g2⟩ | ⟨e,g1,g2⟩
 ·simp only at e g1 g2;subst e;have hx:lS ⟨3,n⟩ l=Delta.enc l ((n:Int).toNat):=rfl;rw[hx];have HC:=hdd (fun(w':World) (h:Bytes w' A l)=>De.qt A l c (n:Int) w' h hm aa aa);generalize Delta.enc l ((n:Int).toNat)=X at*;clear hx bt;go_enter func39,ntmps39;go_wp2_with fail;refine(HC.out _ (hB.below (hb _))).mono ?_;rintro e w1 ⟨v,rfl,ho,aC⟩;go_wp2_with fail;go_ret2;exact⟨v,rfl,kg ho (hb _).size,(hb _).trans (aC.mono (hb _).size)⟩
 ·simp only at e g1 g2;have hx:lS ⟨id,n⟩ l=dh (ga id) (fL id false) n l:=by unfold lS;rw[if_neg e]
  rw[hx];have HC:=hdd (fun(w':World) (h:Bytes w' A l)=>qt id g1 n h3 g2 A l c w' h hm);generalize dh (ga id) (fL id false) n l=X at*;clear hx bt g1;go_enter func39,ntmps39;go_wp2_with fail;refine(HC.out _ (hB.below (hb _))).mono ?_;rintro e w1 ⟨v,rfl,ho,aC⟩;go_wp2_with fail;go_ret2;exact⟨v,rfl,kg ho (hb _).size,(hb _).trans (aC.mono (hb _).size)⟩
theorem RT(f:bA)(aR:f.ok)(bt:cW f=true)(A:Option Addr)(l:List UInt8)(c:Nat)(w:World)(hB:Bytes w A l)(hm:l.length≤140737488355328):
  Calls prog 116 #[f.agg,.slice A l.length c] w (kf w (xV f l) 0):=by
 obtain⟨id,n⟩:=f;have hb:=bv w;obtain⟨h1,h2,h3⟩:=aR;simp only at h1 h2 h3;rcases qw _ bt with⟨e,g1,g2⟩ | ⟨e,g1,g2⟩
 ·simp only at e g1 g2;subst e;have hx:xV ⟨3,n⟩ l=Delta.dec l ((n:Int).toNat):=rfl;rw[hx];have HC:=hdd (fun(w':World) (h:Bytes w' A l)=>De.Il A l c (n:Int) w' h hm aa aa);generalize Delta.dec l ((n:Int).toNat)=X at*;clear hx bt;go_enter func116,ntmps116;go_wp2_with fail;refine(HC.out _ (hB.below (hb _))).mono ?_;rintro e w1 ⟨v,rfl,ho,aC⟩;go_wp2_with fail;go_ret2;exact⟨v,rfl,kg ho (hb _).size,(hb _).trans (aC.mono (hb _).size)⟩
 ·simp only at e g1 g2;have hx:xV ⟨id,n⟩ l=dh (ga id) (fL id true) n l:=by unfold xV;rw[if_neg e]
  rw[hx];have HC:=hdd (fun(w':World) (h:Bytes w' A l)=>Ck id g1 n h3 g2 A l c w' h hm);generalize dh (ga id) (fL id true) n l=X at*;clear hx bt g1;go_enter func116,ntmps116;go_wp2_with fail;refine(HC.out _ (hB.below (hb _))).mono ?_;rintro e w1 ⟨v,rfl,ho,aC⟩;go_wp2_with fail;go_ret2;exact⟨v,rfl,kg ho (hb _).size,(hb _).trans (aC.mono (hb _).size)⟩
theorem MG(k:Nat)(l:List bA)(w:World)(_hl:l.length≤20)(_hk:k<l.length):
  Calls prog 38 #[.int .i64 (k:Nat)] w fun e w'=>e= .returned (.int .i64 (k:Nat))∧w=w':=by
 go_enter func38,ntmps38;go_wp2_with fail;go_ret;exact⟨rfl,rfl⟩
theorem RU(w:World)(A0:Option Addr)(l:List bA)(c0:Nat)(hF:dX w A0 l)(hl:l.length≤20)(dv:l.all cW=true)(qx:jg l=true)(A:Option Addr)(b:List UInt8)(c:Nat)(hB:Bytes w A b)(hm:b.length≤1000000):
  Calls prog 37 #[.slice A0 l.length c0,.slice A b.length c,.func (.func 38) #[] #[],.func (.func 39) #[] #[]] w (kf w (da l b) 0):=by
 have HM:=hdd (sj A0 l c0 w hF hl);rw[qx]at HM;have HE:=hdd (VZ l b);have HZ:=hdd (RL l b);have HL:=hdd (In l b);have HN:=hdd (RN l b);have o_:=hdd (fun i h=>RP l i h dv);generalize da l b=X at*;generalize hS:VX l b=S at*;have hZ:=HZ.out;clear hS qx dv;go_enter func37,ntmps37;go_wp2_with fail;refine HM.out.mono ?_;rintro e w1 ⟨rfl,hb⟩;have bU:Own w.heap.size w1 (.slice none 0 0) []:=Own.nil _ _;have bt:([]:List UInt8).length+b.length≤140737488355328:=av;have Mq:=hb.size;go_wp2_with (at_builtin;refine aj rfl (.const (.slice none 0 0)) (.tmp 17) rfl w.heap.size _ (.slice none 0 0) [] rfl bU A b c rfl (hB.below hb) bt Mq ?_;intro v1 w2 m6 iY)
 have aE:Below w.heap.size w w2:=am hb iY Mq vL;rw[List.nil_append]at m6;clear bU bt Mq hb iY;go_loopw [10,21] (fun v i wr=> ∃k:Nat,k≤l.length∧i= .int .i64 k∧Own w.heap.size wr v (S k)∧Below w.heap.size w wr) (fun _ i _=>l.length-(intOf i).toNat);case atStart=>exact⟨0,aa,rfl,by rw[hZ];exact m6,aE⟩
 case round=>
  clear m6 aE hZ;obtain⟨k,hk,rfl,aD,hb⟩:=hrel;by_cases aF:k<l.length
  ·obtain⟨g0,off,rfl,fF,bx⟩:=(hF.below hb).addr aa;have qe:k<l.length:=aa;have gh:=bx (k) qe;have hfi:=o_.out (k) qe;have iK:=HN.out k aF;have hlen:=HL.out k;obtain⟨A1,c1,rfl,fY,fX,iH⟩:=aD.read;have TN:=hdd (RS (l[k]'qe) gh.ok hfi A1 (S k) c1 wr iH aa);have HT:=hdd (MG k l wr hl aF);have h0:=gh.c0;have h1:=gh.c1;generalize l[k]'qe=f at*;obtain⟨id,n⟩:=f;rw[←iK]at TN;have xr:=HL.out (k+1);clear bx gh hfi aD iK;simp only[bA.agg]at TN;simp only at h0 h1;clear qe hlen xr;generalize UI:S (k+1)=S1 at*;have nu:=hdd UI;clear UI;generalize hSK:S k=S0 at*;have Ql:=hdd hSK;clear hSK;go_wp2_with fail;refine HT.out.mono ?_;rintro e w' ⟨rfl,rfl⟩;go_wp2_with fail;refine TN.out.mono ?_;rintro e w3 ⟨v3,rfl,gW,aW⟩;go_wp2_with fail;go_roundw;case rel=>exact⟨k+1,aa,aq,by rw[nu.out];exact kg gW hb.size,aO hb aW⟩
   case measure=>simp[intOf];omega
  ·obtain rfl:k=l.length:=(by omega);rw[HE.out]at aD;go_wp2_with fail;go_ret2;exact⟨_,rfl,aD,hb⟩
theorem MH(g c0:Nat)(A0:Option Addr)(k:Nat)(l:List bA)(w:World)(hl:l.length≤20)(hk:k<l.length)(DO:w.cell? ⟨g,0,none⟩=some (.slice A0 l.length c0))(_hgl:g<w.heap.size):
  Calls prog 115 #[.int .i64 (k:Nat),.pointer (some ⟨g,0,none⟩)] w fun e w'=>e= .returned (.int .i64 (l.length-1-k:Nat))∧w=w':=by
 have pU:=V1 l.length k hk;go_enter func115,ntmps115;go_wp2_with fail;go_ret;exact⟨rfl,rfl⟩
theorem RV(w:World)(g c0:Nat)(A0:Option Addr)(l:List bA)(hF:dX w A0 l)(hl:l.length≤20)(dv:l.all cW=true)(qx:jg l=true)(A:Option Addr)(b:List UInt8)(c:Nat)(hB:Bytes w A b)(hm:b.length≤1000000)(DO:w.cell? ⟨g,0,none⟩=some (.slice A0 l.length c0))(qc:g<w.heap.size):
  Calls prog 37 #[.slice A0 l.length c0,.slice A b.length c,.func (.func 115) #[] #[.pointer (some ⟨g,0,none⟩)],.func (.func 116) #[] #[]] w (kf w (kS l b) 0):=by
 have HM:=hdd (sj A0 l c0 w hF hl);rw[qx]at HM;have HE:=hdd (V0 l b);have HZ:=hdd (RM l b);have HL:=hdd (Ip l b);have HN:=hdd (RO l b);have o_:=hdd (fun i h=>RP l i h dv);generalize kS l b=X at*;generalize hS:VY l b=S at*;have hZ:=HZ.out;clear hS qx dv;go_enter func37,ntmps37;go_wp2_with fail;refine HM.out.mono ?_;rintro e w1 ⟨rfl,hb⟩;have bU:Own w.heap.size w1 (.slice none 0 0) []:=Own.nil _ _;have bt:([]:List UInt8).length+b.length≤140737488355328:=av;have Mq:=hb.size;go_wp2_with (at_builtin;refine aj rfl (.const (.slice none 0 0)) (.tmp 17) rfl w.heap.size _ (.slice none 0 0) [] rfl bU A b c rfl (hB.below hb) bt Mq ?_;intro v1 w2 m6 iY)
 have aE:Below w.heap.size w w2:=am hb iY Mq vL;rw[List.nil_append]at m6;clear bU bt Mq hb iY;go_loopw [10,21] (fun v i wr=> ∃k:Nat,k≤l.length∧i= .int .i64 k∧Own w.heap.size wr v (S k)∧Below w.heap.size w wr) (fun _ i _=>l.length-(intOf i).toNat);case atStart=>exact⟨0,aa,rfl,by rw[hZ];exact m6,aE⟩
 case round=>
  clear m6 aE hZ;obtain⟨k,hk,rfl,aD,hb⟩:=hrel;by_cases aF:k<l.length
  ·have ae4:=(hb.cell (p:=⟨g,0,none⟩) qc).trans DO;have Q6:g<wr.heap.size:=Nat.lt_of_lt_of_le qc hb.size;obtain⟨g0,off,rfl,fF,bx⟩:=(hF.below hb).addr aa;have qe:l.length-1-k<l.length:=aa;have gh:=bx (l.length-1-k) qe;have hfi:=o_.out (l.length-1-k) qe;have iK:=HN.out k aF;have hlen:=HL.out k;obtain⟨A1,c1,rfl,fY,fX,iH⟩:=aD.read;have TN:=hdd (RT (l[l.length-1-k]'qe) gh.ok hfi A1 (S k) c1 wr iH aa);have HT:=hdd (MH g c0 _ k l wr hl aF ae4 Q6);have h0:=gh.c0;have h1:=gh.c1;generalize l[l.length-1-k]'qe=f at*;obtain⟨id,n⟩:=f;rw[←iK]at TN;have xr:=HL.out (k+1);clear bx gh hfi aD iK;simp only[bA.agg]at TN;simp only at h0 h1;have Zy:((l.length-1-k:Nat):Int)<(l.length:Int):=aa;generalize hsg:l.length-1-k=sg at*;have HSG:=hdd hsg;clear hsg;clear qe hlen xr;generalize UI:S (k+1)=S1 at*;have nu:=hdd UI;clear UI;generalize hSK:S k=S0 at*;have Ql:=hdd hSK;clear hSK;go_wp2_with fail;refine HT.out.mono ?_;rintro e w' ⟨rfl,rfl⟩;go_wp2_with fail;refine TN.out.mono ?_;rintro e w3 ⟨v3,rfl,gW,aW⟩;go_wp2_with fail;go_roundw;case rel=>exact⟨k+1,aa,aq,by rw[nu.out];exact kg gW hb.size,aO hb aW⟩
   case measure=>simp[intOf];omega
  ·obtain rfl:k=l.length:=(by omega);rw[HE.out]at aD;go_wp2_with fail;go_ret2;exact⟨_,rfl,aD,hb⟩
theorem Iq(A0:Option Addr)(l:List bA)(c0:Nat)(w:World)(hF:dX w A0 l)(hl:l.length≤20)(dv:l.all cW=true)(qx:jg l=true)(A:Option Addr)(b:List UInt8)(c:Nat)(hB:Bytes w A b)(hm:b.length≤1000000):
  Calls prog 13 #[.slice A0 l.length c0,.slice A b.length c] w (kf w (da l b) 0):=by
 have HT:=hdd (RU w A0 l c0 hF hl dv qx A b c hB hm);clear dv qx;generalize da l b=X at*;go_enter func13,ntmps13;go_wp2_with fail;refine HT.out.mono ?_;rintro e w1 ⟨v,rfl,ho,hb⟩;go_wp2_with fail;go_ret2;exact⟨v,rfl,ho,hb⟩
theorem Ir(A0:Option Addr)(l:List bA)(c0:Nat)(w:World)(hF:dX w A0 l)(hl:l.length≤20)(dv:l.all cW=true)(qx:jg l=true)(A:Option Addr)(b:List UInt8)(c:Nat)(hB:Bytes w A b)(hm:b.length≤1000000):
  Calls prog 67 #[.slice A0 l.length c0,.slice A b.length c] w (kf w (kS l b) 0):=by
 have eH:=bv w (.cells #[.slice A0 l.length c0] 23);have HT:=hdd (RV (w.alloc (.cells #[.slice A0 l.length c0] 23)) w.heap.size c0 A0 l (hF.below eH) hl dv qx A b c (hB.below eH) hm (by rw[cell_of_row _ _ _ _ _ _ (heap_alloc_last _ _)];rfl) ae);clear dv qx;generalize kS l b=X at*;go_enter func67,ntmps67;go_wp2_with fail;refine HT.out.mono ?_;rintro e w1 ⟨v,rfl,ho,hb⟩;go_wp2_with fail;go_ret2;exact⟨v,rfl,kg ho eH.size,aO eH hb⟩
section
open Go Go.RowKit
def qG{β:Type}(bn:Nat)(J:β→World→Prop):Prop:= ∀s W v,J s W→J s (W.setCell ⟨bn,0,none⟩ v)
def iw(bn:Nat)(W W':World):Prop:=W'.cell? ⟨bn,0,none⟩=W.cell? ⟨bn,0,none⟩∧W'.frozen? ⟨bn,0,none⟩=W.frozen? ⟨bn,0,none⟩
theorem iw.trans{bn:Nat}{A B C:World}(h:iw bn A B)(k:iw bn B C):iw bn A C:=⟨k.1.trans h.1,k.2.trans h.2⟩
theorem na{bn l:Nat}(W:World)(o:Obj)(h:bn≠l):iw bn W (W.putObj l o):=by have e:=World.putObj_heap_other (w:=W) (o:=o) h;exact⟨World.cell?_of_block (a:=⟨bn,0,none⟩) e,World.frozen?_of_block (a:=⟨bn,0,none⟩) e⟩
def So{α:Type}(F:Fence)(n:Nat)(P:Program)(g:Nat)(lb:Array Value)(MY:α→Array Value)(bn:Nat)(S:List α→Prop)(N:Nat)(w:World):Prop:=
 ∀(l:Nat) (J:List α→World→Prop) (W:World),Below w.heap.size w W→qG bn J→
  (∀pre x W1,J pre W1→pre.length<N→YieldAt F (n-1) P l (MY x) W1 fun e W'=>e= .returned (.bool true)∧J (pre++[x]) W'∧iw bn W1 W')→
  J [] W→
  CallsIn F n P g (#[.func (.yield l) #[] #[]]++lb) W fun e W'=>(∃v,e= .returned v)∧ ∃xs,S xs∧J xs W'
def We{α:Type}(bn:Nat)(I:List α→World→Prop)(xs:List α)(W:World):Exit→Act→World→Prop
 | .normal,_,W'=>KeepsOthers W W'∧iw bn W W'∧I xs W'
 | _,_,_=>False
variable{F:Fence}{n:Nat}{P:Program}
theorem yk{α:Type}{g:Operand}{ps:Array Tmp}{assign body:Code}{Q:Exit→Act→World→Prop}{a:Act}{w:World}
  (kp:F.round=none) (h1:1≤n) {gf:Nat} {lb:Array Value} (hg:a.eval g= .func (.func gf) #[] lb) (hFg:F.fn gf) (eg: ∀args w,(callFunc gf args).run P w= .ok (.enter gf args) w)
  {MY:α→Array Value} {bn:Nat} {S:List α→Prop} {N:Nat} (Ec:So F (n-1) P gf lb MY bn S N w) (JS:bn<w.heap.size) (C6: ∀x,(MY x).size=ps.size)
  (I:List α→World→Prop) (hIa: ∀s W o,I s W→I s (W.alloc o)) (Qa: ∀s W l o o',I s W→w.heap.size≤l→W.heap[l]? =some o→o.isCells=false→I s (W.putObj l o')) (hIc:qG bn I) (h0:I [] w) (a₁:α→Act)
  (rQ: ∀(l:Nat) (x:α) (W:World) (K:Act→World→Prop),K (a₁ x) W→
   assign.wpIn (F.inRound l) (n-1-1) P (Exit.then K (fun _ _ _=>False)) {tmps:=(ps.zip (MY x)).foldl (fun t (p,v)=>t.setIfInBounds p v) a.tmps,defers:=[]} W)
  (Ed: ∀(l:Nat) (pre:List α) (x:α) (W:World),I pre W→pre.length<N→body.wpIn (F.inRound l) (n-1-1) P (We bn I (pre++[x]) W) (a₁ x) W)
  (tV: ∀(D:Nat) (xs:List α) (W:World),w.heap.size≤D→S xs→I xs W→W.heap[D]? =some (.deferred (some []))→Q .normal {a with defers:={target:= .collected D,args:= #[]}::a.defers} W):
  (Code.rangeFunc g ps assign body).wpIn F n P Q a w:=by
 refine wpIn_rangeFunc fun fn F3=> ?_;rw[kp];let oc:LoopState→Loop:=fun st=>{state:=st,pending:=none,fn,tmps:=a.tmps,params:=ps,assign,body,defers:=w.heap.size}
 have⟨W1,dE⟩:=ex ((w.alloc (.deferred (some []))).alloc (.loop (oc .ready)));have aC:Below w.heap.size w W1:=by rw[←dE];exact((Below.refl _ w).alloc (Nat.le_refl _) _).alloc ae _
 have UZ:W1.heap[w.heap.size+1]? =some (.loop (oc .ready)):=by rw[←dE];have:=World.alloc_heap_new (w.alloc (.deferred (some []))) (.loop (oc .ready));rwa [World.size_alloc]at this
 have Xw:W1.heap[w.heap.size]? =some (.deferred (some [])):=by rw[←dE];exact(Below.heap_alloc _ _ _ ae).trans (World.alloc_heap_new w _)
 have hI1:I [] W1:=Ge
 refine⟨w.heap.size+1,[{target:= .collected w.heap.size,args:= #[]}],W1,{target:= .fn (.func gf) lb,args:= #[.func (.yield (w.heap.size+1)) #[] #[]]},W1,gf,
  #[.func (.yield (w.heap.size + 1)) #[] #[]] ++ lb, W1, ?_, ?_, ?_, ?_, fun _ => h1, ?_⟩
 ·rw[←dE];exact run_enterLoop_outer _ _ _ _ _
 ·simp only[resolve,hg];simp[go_sem]
 ·intro f' Xx;simp[Target.leads]at Xx;subst Xx;exact hFg
 ·simp[invoke,go_sem,eg]
 ·refine(Ec (w.heap.size+1) (fun pre W=>I pre W∧W.heap[w.heap.size+1]? =some (.loop (oc .ready))∧W.heap[w.heap.size]? =some (.deferred (some []))) W1 aC ?_ ?_ ⟨hI1,UZ,Xw⟩).mono ?_;·intro s W v hs;exact⟨hIc s W v hs.1,(heap_setCell_other _ _ _ _ (by show w.heap.size+1≠bn;omega)).trans hs.2.1,(heap_setCell_other _ _ _ _ (by show w.heap.size≠bn;omega)).trans hs.2.2⟩
  ·rintro pre x W ⟨hi,hl,hk⟩ hlen;have aF:w.heap.size+1<W.heap.size:=(cr hl)
   have hy:=run_yield (P:=P) (args:=MY x) hl (C6 x);refine⟨fn,_,assign,body,hy,roundIn_of_wpIn F3 (rQ _ x W _ ⟨_,run_beginRound hl rfl,?_⟩)⟩;have qT:(W.putObj (w.heap.size+1) (.loop (oc .busy))).heap[w.heap.size+1]? =some (.loop (oc .busy)):=World.putObj_heap_same aF;have my:(W.putObj (w.heap.size+1) (.loop (oc .busy))).heap[w.heap.size]? =some (.deferred (some [])):=(World.putObj_heap_other aa).trans hk;have fS:iw bn W (W.putObj (w.heap.size+1) (.loop (oc .busy))):=na _ _ aa;refine wpIn_mono (Ed _ pre x _ (Qa _ _ _ _ _ hi aa hl rfl) hlen) ?_;rintro e a3 W3 hp;cases e with
   | normal=>
    obtain⟨qU,hkc,UU⟩:=hp;have rR:=qU.same _ _ qT rfl;have VA:=run_endRound (P:=P) none rR;exact⟨_,_,VA,rfl,⟨Qa _ _ _ _ _ UU aa rR rfl,World.putObj_heap_same (cr rR),(World.putObj_heap_other aa).trans (qU.same _ _ my rfl)⟩,(fS.trans hkc).trans (na _ _ aa)⟩
   | ret=>exact hp.elim
   | exit id=>exact hp.elim
   | goto t=>exact hp.elim
   | panic ch=>exact hp.elim
   | outgrown=>exact hp.elim
  ·rintro e W2 ⟨⟨v,rfl⟩,xs,hS,hi,hl,hk⟩;exact⟨none,_,run_endLoop (P:=P) hl (by simp[oc]),tV _ xs _ (Nat.le_refl _) hS (Qa _ _ _ _ _ hi aa hl rfl) ((World.putObj_heap_other aa).trans hk)⟩
end
namespace Vl
def put:Nat→Nat→List UInt8
 | 0,n=>[UInt8.ofNat n]
 | f+1,n=>if n<128 then [UInt8.ofNat n]else UInt8.ofNat (n%128+128)::put f (n/128)
theorem gO(h:n<128):put f n=[UInt8.ofNat n]:=by
 cases f with
 | zero=>rfl
 | succ f=>rw[put,if_pos h]
theorem pm(h: ¬n<128):put (f+1) n=UInt8.ofNat (n%128+128)::put f (n/128):=by rw[put,if_neg h]
theorem cQ(f n:Nat):1≤(put f n).length∧(put f n).length≤f+1:=by
 induction f generalizing n with
 | zero=>exact⟨Nat.le_refl _,Nat.le_refl _⟩
 | succ f ih=>
  by_cases h:n<128;·rw[gO h];simp
  ·rw[pm h];have:=ih (n/128);simp;omega
theorem Kz: ∀k:Fin 256,k.val ||| 128=k.val%128+128:=jJ
end Vl
section
open Go.RowKit Go.Shelf
attribute [local go_sem] Oper.semAt_some
def IT(bn:Nat)(wr:World):Nat:=(intOf ((wr.cell? ⟨bn,0,none⟩).getD undef)).toNat
theorem AB{bn m:Nat}{wr:World}(h:wr.cell? ⟨bn,0,none⟩=some (.int .u64 (m:Nat))):IT bn wr=m:=by unfold IT;rw[h];simp[intOf]
theorem Wf(m:Nat):bits .or .u8 ((m:Int)%256) 128=(((UInt8.ofNat (m%128+128)).toNat:Nat):Int):=by have h:m%256 ||| 128=m%256%128+128:=Vl.Kz ⟨m%256,Nat.mod_lt _ aa⟩;rw[show(m:Int)%256=((m%256:Nat):Int) by omega,show(128:Int)=((128:Nat):Int)from rfl,u8_or_nat _ _ aa aa,h,UInt8.toNat_ofNat'];omega
theorem Sp(m:Nat)(h:m<128):B8 (UInt8.ofNat m)= .int .u8 (m:Nat):=by have e:(UInt8.ofNat m).toNat=m:=k9;show Value.int .u8 _=_;rw[e]
theorem Wg(F:Fence)(n:Nat)(h11:F.fn 126)(kp:F.round=none)(hn:1≤n)(bn nv:Nat)(w:World)(hb:bn<w.heap.size)(hc:w.cell? ⟨bn,0,none⟩=some (.int .u64 (nv:Nat)))(hf:w.frozen? ⟨bn,0,none⟩=false)(hv:nv<128^10)(W_:nv<18446744073709551616):
  So F n prog 126 #[.pointer (some ⟨bn,0,none⟩)] (fun x:UInt8=> #[B8 x]) bn (fun xs=>xs=Vl.put 9 nv) 10 w:=by
 intro l J W hW hJ hY h0;have hcW:=(hW.cell (p:=⟨bn,0,none⟩) hb).trans hc;have hfW:=(hW.frozen (p:=⟨bn,0,none⟩) hb).trans hf;have HY:=hdd hY;have HJ:=hdd hJ;clear hY hJ hc hf;refine callsIn_of_wp func126 rfl h11 ?_ kp;simp only[ntmps126,List.size_toArray,List.length_cons,List.length_nil,Nat.reduceAdd,Nat.reduceSub,Array.replicate_succ,Array.replicate_zero,List.push_toArray,List.append_toArray,List.nil_append,List.cons_append]
 gi_wp2
 gi_loopw [4] (fun _ wr=> ∃(pre:List UInt8) (m f:Nat),Hid (Vl.put 9 nv=pre++Vl.put f m)∧Hid (m<128^(f+1))∧m<18446744073709551616∧pre.length+f=9∧wr.cell? ⟨bn,0,none⟩=some (.int .u64 (m:Nat))∧wr.frozen? ⟨bn,0,none⟩=false∧J pre wr) (fun _ wr=>IT bn wr)
 case atStart=>exact⟨[],nv,9,rfl,hv,W_,rfl,hcW,hfW,h0⟩
 case round=>
  obtain⟨pre,m,f,Cq,hm,auu,hlen,uz,hfm,BN⟩:=hrel;clear hcW hfW;have afo:=hdd (AB uz);by_cases aF:m<128
  ·have OE: ¬(128:Int)≤(m:Int):=(by omega);obtain⟨fn,tmps,assign,body,hy,hR⟩:=HY.out pre (UInt8.ofNat m) wr BN aa;rw[Sp m aF]at hy;have Hy:=hdd (Vl.gO (f:=f) aF);generalize UInt8.ofNat m=X at*
   gi_wp2
   refine hR.mono ?_;rintro e W3 ⟨rfl,Ki,qU⟩
   gi_wp2
   go_end0;exact⟨⟨_,rfl⟩,pre++[X],by rw[Cq.out,Hy.out],Ki⟩
  ·have OE:(128:Int)≤(m:Int):=(by omega);cases f with
   | zero=>have:=hm.out;simp at this;omega
   | succ f=>
    obtain⟨fn,tmps,assign,body,hy,hR⟩:=HY.out pre (UInt8.ofNat (m%128+128)) wr BN aa;have IU:=Wf m;have Hy:=hdd (Vl.pm (f:=f) aF);have hq:(m:Int)/128=((m/128:Nat):Int):=aa;have eY:m/128<128^(f+1):=(by have:=hm.out;rw[Nat.pow_succ]at this;rw[Nat.div_lt_iff_lt_mul aa];exact this);have Oh:m/128<m:=aa;have jt:m/128<18446744073709551616:=aa;change Sem.run _ (Instr.yield l #[Value.int .u8 (((UInt8.ofNat (m%128+128)).toNat:Nat):Int)]) wr=_ at hy;generalize(UInt8.ofNat (m%128+128)).toNat=xn at hy IU;generalize UInt8.ofNat (m%128+128)=X at*;generalize m/128=m2 at*;have ry:=hdd eY;clear eY hm
    gi_wp2
    refine hR.mono ?_;rintro e W3 ⟨rfl,Ki,qU⟩;have lu:W3.cell? ⟨bn,0,none⟩=some (.int .u64 (m:Nat)):=qU.1.trans uz;have Wh:W3.frozen? ⟨bn,0,none⟩=false:=qU.2.trans hfm;have kJ:(W3.setCell ⟨bn,0,none⟩ (.int .u64 (m2:Nat))).cell? ⟨bn,0,none⟩=some (.int .u64 (m2:Nat)):=World.cell?_setCell_same' _ _ _ (by rw[lu];rfl);have Wi:(W3.setCell ⟨bn,0,none⟩ (.int .u64 (m2:Nat))).frozen? ⟨bn,0,none⟩=false:=(by rw[World.frozen?_setCell];exact Wh);have hJ4:=HJ.out (pre++[X]) W3 (.int .u64 (m2:Nat)) Ki;have Tx:=hdd (AB kJ)
    gi_wp2
    go_roundw;case rel=>exact⟨pre++[X],m2,f,by show Vl.put 9 nv=_;rw[Cq.out,Hy.out];simp,ry.out,jt,av,kJ,Wi,hJ4⟩
    case measure=>rw[Tx.out,afo.out];exact Oh
end
section
open Go.RowKit Go.Shelf
attribute [local go_sem] Oper.semAt_some
def AC(w:World)(B bn:Nat)(pre:List UInt8)(W:World):Prop:=
 ∃v x,W.heap[B]? =some (.cells #[v] 22 (0,0))∧W.heap[bn]? =some (.cells #[x] 41 (0,0))∧Own w.heap.size W v pre∧Below w.heap.size w W
theorem Own.put{base:Nat}{W:World}{v:Value}{l:List UInt8}(h:Own base W v l){j:Nat}{o:Obj}(o':Obj)(hj:W.heap[j]? =some o)(ho:o.isCells=false):Own base (W.putObj j o') v l:=by
 rcases h with⟨h1,h2 | ⟨g,cap,cur,h2,h3,h4,h5⟩⟩
 ·exact⟨h1,.inl h2⟩
 ·refine⟨h1,.inr ⟨g,cap,cur,h2,h3,(World.putObj_heap_other ?_).trans h4,h5⟩⟩;intro e;subst e;rw[hj]at h4;injection h4 with h4;subst h4;cases ho
theorem Own.set{base:Nat}{W:World}{v:Value}{l:List UInt8}(h:Own base W v l){p:Addr}(hp:v.ownBlock≠some p.block)(u:Value):Own base (W.setCell p u) v l:=by
 rcases h with⟨h1,h2 | ⟨g,cap,cur,h2,h3,h4,h5⟩⟩
 ·exact⟨h1,.inl h2⟩
 ·exact⟨h1,.inr ⟨g,cap,cur,h2,h3,(heap_setCell_other _ _ _ _ (fun e=>hp (by rw[h2,←e];rfl))).trans h4,h5⟩⟩
theorem Own.apart{base:Nat}{W:World}{v:Value}{l:List UInt8}(h:Own base W v l){k:Nat}{cs:Array Value}{t:TypeId}{fr:Nat×Nat}(hk:W.heap[k]? =some (.cells cs t fr))(ht:t≠5):v.ownBlock≠some k:=by
 intro he;rcases h with⟨_,⟨rfl,_⟩ | ⟨g',bw,cur,rfl,_,h4,_⟩⟩
 ·cases he
 ·have e:g'=k:=by simpa [Value.ownBlock]using he
  subst e;rw[h4]at hk;injection hk with hk;injection hk with _ my _;exact ht my.symm
theorem Own.cells{base:Nat}{W:World}{v:Value}{l:List UInt8}(h:Own base W v l){j:Nat}{o:Obj}(hj:v.ownBlock=some j)(ho:W.heap[j]? =some o):o.isCells=true:=by
 rcases h with⟨_,⟨rfl,_⟩ | ⟨g',bw,cur,rfl,_,h4,_⟩⟩
 ·cases hj
 ·have e:g'=j:=by simpa [Value.ownBlock]using hj
  subst e;rw[ho]at h4;injection h4 with h4;subst h4;rfl
theorem zq{bn:Nat}{W W':World}(h:W'.heap[bn]? =W.heap[bn]?):iw bn W W':=
 ⟨World.cell?_of_block (a:=⟨bn,0,none⟩) h,World.frozen?_of_block (a:=⟨bn,0,none⟩) h⟩
theorem Fm{w:World}{B bn:Nat}(s:List UInt8)(W:World)(o:Obj)(h:AC w B bn s W):AC w B bn s (W.alloc o):=by
 obtain⟨v,x,h1,h2,h3,h4⟩:=h;have l1:B<W.heap.size:=(cr h1)
 have l2:bn<W.heap.size:=(cr h2)
 exact⟨v,x,(Below.heap_alloc _ _ _ l1).trans h1,(Below.heap_alloc _ _ _ l2).trans h2,h3.alloc _,h4.alloc h4.size _⟩
theorem MZ{w w0:World}{B bn:Nat}(hw:w.heap.size≤w0.heap.size)(s:List UInt8)(W:World)(j:Nat)(o o':Obj)(h:AC w B bn s W)(hl:w0.heap.size≤j)(hj:W.heap[j]? =some o)(ho:o.isCells=false):AC w B bn s (W.putObj j o'):=by
 obtain⟨v,x,h1,h2,h3,h4⟩:=h;have n1:B≠j:=by intro e;subst e;rw[hj]at h1;injection h1 with h1;subst h1;cases ho
 have n2:bn≠j:=by intro e;subst e;rw[hj]at h2;injection h2 with h2;subst h2;cases ho
 refine⟨v,x,(World.putObj_heap_other n1).trans h1,(World.putObj_heap_other n2).trans h2,h3.put _ hj ho,?_⟩;exact h4.grown (grownBy_putObj' W j o') h4.size (fun k e=>by cases e;omega)
theorem IV{w:World}{B bn:Nat}(dr:B≠bn)(hb:w.heap.size≤bn):qG bn (AC w B bn):=by intro s W u h;obtain⟨v,x,h1,h2,h3,h4⟩:=h;refine⟨v,u,(heap_setCell_other _ _ _ _ dr).trans h1,?_,h3.set (h3.apart h2 an) _,h4.setCell hb _⟩;rw[heap_setCell_same W bn 0 _ _ u h2];rfl
def Wj(w:World)(nv:Nat)(e:Ending)(w':World):Prop:=e= .returned (.func (.func 126) #[] #[.pointer (some ⟨w.heap.size,0,none⟩)])∧w.alloc (.cells #[.int .u64 (nv:Nat)] 41)=w'
theorem X_(F:Fence)(n:Nat)(uR:F.fn 80)(kp:F.round=none)(nv:Nat)(w:World):
  CallsIn F n prog 80 #[.int .u64 (nv:Nat)] w (Wj w nv):=by
 refine callsIn_of_wp func80 rfl uR ?_ kp;simp only[ntmps80,List.size_toArray,List.length_cons,List.length_nil,Nat.reduceAdd,Nat.reduceSub,Array.replicate_succ,Array.replicate_zero,List.push_toArray,List.append_toArray,List.nil_append,List.cons_append]
 gi_wp2
 go_ret;exact⟨rfl,rfl⟩
def KA(w:World)(l:List UInt8)(e:Ending)(w':World):Prop:= ∃v,e= .returned (.tuple #[v,.int .i64 0])∧Own w.heap.size w' v l∧Below w.heap.size w w'
theorem Y_(F:Fence)(n:Nat)(h6:F.fn 45)(uR:F.fn 80)(h11:F.fn 126)(kp:F.round=none)(hn:3≤n)(nv:Nat)(w:World)(hv:nv≤9223372036854775807):
  CallsIn F n prog 45 #[.int .u64 (nv:Nat)] w (KA w (Vl.put 9 nv)):=by
 have h1:1≤n:=aa;have hv': ¬(9223372036854775807:Int)<(nv:Int):=aa;have W_:nv<18446744073709551616:=aa;refine callsIn_of_wp_marks func45 rfl h6 ?_ kp;simp only[ntmps45,List.size_toArray,List.length_cons,List.length_nil,Nat.reduceAdd,Nat.reduceSub,Array.replicate_succ,Array.replicate_zero,List.push_toArray,List.append_toArray,List.nil_append,List.cons_append]
 gi_wp2_with (gi_at_call 80;refine(X_ F (n-1) uR kp nv _).mono ?_;rintro e w' ⟨rfl,rfl⟩)
 have KB:((w.alloc (.cells #[.slice none 0 0] 22)).alloc (.cells #[.int .u64 (nv:Nat)] 41)).heap[w.heap.size+1]? =some (.cells #[.int .u64 (nv:Nat)] 41 (0,0)):=by have:=heap_alloc_new (w.alloc (.cells #[.slice none 0 0] 22)) (.cells #[.int .u64 (nv:Nat)] 41);rwa [World.size_alloc]at this
 have Yk:((w.alloc (.cells #[.slice none 0 0] 22)).alloc (.cells #[.int .u64 (nv:Nat)] 41)).heap[w.heap.size]? =some (.cells #[.slice none 0 0] 22 (0,0)):=
  (Below.heap_alloc _ _ _ ae).trans (heap_alloc_new w _)
 have afp:Below w.heap.size w ((w.alloc (.cells #[.slice none 0 0] 22)).alloc (.cells #[.int .u64 (nv:Nat)] 41)):=(ap).alloc ae _;have dJ:((w.alloc (.cells #[.slice none 0 0] 22)).alloc (.cells #[.int .u64 (nv:Nat)] 41)).heap.size=w.heap.size+2:=ae;generalize(w.alloc (.cells #[.slice none 0 0] 22)).alloc (.cells #[.int .u64 (nv:Nat)] 41)=W0 at*;have ZP:W0.cell? ⟨w.heap.size+1,0,none⟩=some (.int .u64 (nv:Nat)):=by rw[cell_of_row _ _ _ _ _ _ KB];rfl
 have F3:=frozen_of_row W0 (w.heap.size+1) 0 _ _ KB;have alT:nv<128^10:=by have:(128:Nat)^10=1180591620717411303424:=an;omega
 obtain⟨i0,hi,nE,gU,qR⟩:=info_parts pE
 refine yk kp h1 (gf:=126) (lb:= #[.pointer (some ⟨w.heap.size+1,0,none⟩)]) rfl h11 (enters_of func126 ak rfl)
  (Wg F (n-1) h11 kp aa (w.heap.size+1) nv W0 aa ZP F3 alT W_) aa (fun _=>rfl)
  (AC w w.heap.size (w.heap.size+1)) Fm (MZ (w0:=W0) aa) (IV aa aa) ⟨_,_,Yk,KB,Own.nil _ _,afp⟩
  (fun x=>{tmps:= #[.int .u64 (nv:Nat),undef,.slice none 0 0,.int .i64 0,.pointer (some ⟨w.heap.size,0,none⟩),B8 x,.int .u64 (nv:Nat),.bool false,.int .u64 (nv:Nat),.func (.func 126) #[] #[.pointer (some ⟨w.heap.size+1,0,none⟩)],B8 x,undef,undef,undef,undef,undef],defers:=[]}) ?assign ?body ?done
 case assign=>
  intro l x W K hK
  gi_wp2
  exact hK
 case body=>
  rintro l pre x W ⟨v,y,hB,hN,hO,hb⟩ hlen;have cB:W.cell? ⟨w.heap.size,0,none⟩=some v:=by rw[cell_of_row _ _ _ _ _ _ hB];rfl
  have pq:=hb.size;have hlB:w.heap.size<W.heap.size:=(cr hB)
  have hlN:w.heap.size+1<W.heap.size:=(cr hN)
  have aB:=hO.apart hB an;have aN:=hO.apart hN an;have hOa:=hO.alloc (.cells #[B8 x] 5);clear ZP F3 Yk KB afp
  gi_wp2_with (gi_at_builtin;refine wpListIn_append_own _ rfl _ _ 22 rfl w.heap.size 5 i0 (.int .u8 0) 1 1 underlying22 hi nE gU qR rfl an _ _ _ rfl hOa ⟨W.heap.size,0,none⟩ 1 1 [B8 x] rfl rfl (cell_one_new _ _ _) sV gD aa av ?_;intro v' w1 Yl Sq _;obtain⟨g',bw,rfl,iY,iV⟩:=World.ownsRow.form Yl aa;have iH:w1.heap[w.heap.size]? =some (.cells #[v] 22 (0,0)):=(Sq.block _ av (fun e=>aB e.symm)).trans ((Below.heap_alloc _ _ _ hlB).trans hB);have Vo:w1.heap[w.heap.size+1]? =W.heap[w.heap.size+1]? :=(Sq.block _ av (fun e=>aN e.symm)).trans (Below.heap_alloc _ _ _ hlN);have cB1:w1.cell? ⟨w.heap.size,0,none⟩=some v:=(by rw[cell_of_row _ _ _ _ _ _ iH];rfl);have fB1:=frozen_of_row w1 w.heap.size 0 _ _ iH)
  have Q6:(W.alloc (.cells #[B8 x] 5)).grownBy w1 v.ownBlock:=Sq;have bM:Own w.heap.size w1 (.slice (some ⟨g',0,none⟩) (pre.length+1) bw) (pre++[x]):=by unfold Own;simpa using Yl
  have aB1:=bM.apart iH an;refine⟨((KeepsOthers.alloc W _).trans (KeepsOthers.of_grownBy Q6 (fun j o hj ho=>hOa.cells hj ho))).trans (KeepsOthers.setCell _ _ _),zq ((heap_setCell_other _ _ _ _ (by show w.heap.size+1≠w.heap.size;omega)).trans Vo),_,y,?_,?_,bM.set aB1 _,?_⟩;·rw[heap_setCell_same w1 w.heap.size 0 _ _ _ iH];rfl
  ·exact(heap_setCell_other _ _ _ _ (by show w.heap.size+1≠w.heap.size;omega)).trans (Vo.trans hN)
  ·exact(am (hb.alloc hb.size _) Q6 av (fun k hk=>(hO.aw k hk).1)).setCell (Nat.le_refl _) _
 case done=>
  rintro D xs W hD rfl ⟨v,y,hB,hN,hO,hb⟩ hK;have cB:W.cell? ⟨w.heap.size,0,none⟩=some v:=by rw[cell_of_row _ _ _ _ _ _ hB];rfl
  gi_wp2
  refine⟨ae,.inl ⟨_,_,rfl,run_takeDeferred hK,?_⟩⟩;exact⟨_,results_tmp2 rfl _ _ _,v,rfl,hO.put _ hK rfl,hb.grown (grownBy_putObj' W D (.deferred none)) hb.size (fun k e=>by cases e;omega)⟩
theorem Wk(nv:Nat)(w:World)(hv:nv≤9223372036854775807):Calls prog 45 #[.int .u64 (nv:Nat)] w (KA w (Vl.put 9 nv)):=
 callsIn_wide.1 (Y_ Fence.wide 3 trivial trivial trivial rfl aa nv w hv)
end
def l6(bo:Nat)(w:World)(v:Value):Prop:=w.heap[bo]? =some (.cells #[v] 22 (0,0))
theorem l6.cell(h:l6 bo w v):w.cell? ⟨bo,0,none⟩=some v:=by rw[cell_of_row w bo 0 _ _ _ h];rfl
theorem l6.frozen(h:l6 bo w v):w.frozen? ⟨bo,0,none⟩=false:=by simp[World.frozen?,show w.heap[bo]? =_ from h]
theorem l6.lt(h:l6 bo w v):bo<w.heap.size:=(cr h)
theorem l6.ne(h:l6 bo w v)(ho:Own base w u l):u.ownBlock≠some bo:=by
 intro e;rcases ho with⟨_,⟨rfl,_⟩ | ⟨g,cap,cur,rfl,_,hg,_⟩⟩
 ·cases e
 ·injection e with e;subst e;rw[show w.heap[g]? =_ from h]at hg;injection hg with hg;injection hg with _ ht;exact absurd ht an
theorem l6.set(h:l6 bo w v)(u:Value):l6 bo (w.setCell ⟨bo,0,none⟩ u) u:=heap_set (L:=[v]) h 0 u
theorem Own.IW(ho:Own base w u l)(h:l6 bo w v)(x:Value):Own base (w.setCell ⟨bo,0,none⟩ x) u l:=by
 have hn:=h.ne ho;rcases ho with⟨h1,h2 | ⟨g,cap,cur,rfl,h3,hg,h4⟩⟩
 ·exact⟨h1,.inl h2⟩
 ·exact⟨h1,.inr ⟨g,cap,cur,rfl,h3,(ag _ _ _ _ (fun e=>hn (by simp[Value.ownBlock];exact e))).trans hg,h4⟩⟩
theorem l6.below(h:l6 bo w v)(hb:Below w.heap.size w w'):l6 bo w' v:=(hb.block bo h.lt).trans h
theorem l6.grown{row:Option Nat}(h:l6 bo w v)(hg:w.grownBy w' row)(hn:row≠some bo):l6 bo w' v:=(hg.block bo h.lt (fun e=>hn e.symm)).trans h
theorem Own.opened(h:Own base w v l)(h0:0<l.length): ∃g c,v= .slice (some ⟨g,0,none⟩) l.length c∧base≤g∧g<w.heap.size∧l.length≤c∧c≤9223372036854775807∧(∀i (h:i<(l.map B8).length),w.cell? ⟨g,i,none⟩=some (l.map B8)[i])∧ ∀i,w.frozen? ⟨g,i,none⟩=false:=by
 rcases h with⟨h1,⟨_,hn⟩ | ⟨g,cap,cur,rfl,hb,hg,NS,uz,dJ,Ou⟩⟩
 ·omega
 ·refine⟨g,cap,rfl,hb,?_,NS,JC,fun i hi=> ?_,fun i=> ?_⟩
  ·rcases Nat.lt_or_ge g w.heap.size with h | h;·exact h
   ·rw[Array.getElem?_eq_none h]at hg;cases hg
  ·rw[cell_of_row w g _ cur _ _ hg];have h2:=congrArg (fun x:List Value=>x[i]?) Ou;rw[List.length_map]at hi;simp only[List.getElem?_take,Nat.mul_one,hi,if_true]at h2;rw[List.getElem?_eq_getElem (show i<(l.map B8).length by simpa using hi)]at h2;simpa using h2
  ·simp[World.frozen?,hg]
theorem Own.aI(h:Own base w v l)(hb: ∀g,v.ownBlock=some g→w'.heap[g]? =w.heap[g]?):Own base w' v l:=by
 rcases h with⟨h1,h2 | ⟨g,cap,cur,h2,h3,h4,h5⟩⟩
 ·exact⟨h1,.inl h2⟩
 ·exact⟨h1,.inr ⟨g,cap,cur,h2,h3,(hb g (by rw[h2];rfl)).trans h4,h5⟩⟩
theorem afq:Elem 22 5 (.int .u8 0) 1:=⟨underlying22,ak,rfl⟩
theorem Own.alU(h:Own base w v l):aP 5 base w v (l.map B8):=by have h':w.ownsRow base 5 1 v l.length (l.map B8):=h;unfold aP;rw[List.length_map];exact h'
theorem aP.bytes{m:List UInt8}(h:aP 5 base w v (l.map B8++m.map B8)):Own base w v (l++m):=by have h':w.ownsRow base 5 1 v (l.map B8++m.map B8).length (l.map B8++m.map B8):=h;rw[←List.map_append,List.length_map]at h';exact h'
theorem vC(bo base:Nat)(v:Value)(L:List UInt8)(n:Nat)(w:World)(hb:l6 bo w v)(ho:Own base w v L)(fg:base≤bo)(hn:n≤9223372036854775807)(hL:L.length≤100000000):
  Calls prog 44 #[.int .u64 (n:Nat),.pointer (some ⟨bo,0,none⟩)] w fun e w'=> ∃v',e= .returned (.tuple #[])∧l6 bo w' v'∧Own base w' v' (L++Vl.put 9 n)∧Below base w w'∧(∀g,g<w.heap.size→g≠bo→v.ownBlock≠some g→w'.heap[g]? =w.heap[g]?)∧ ∀g,v'.ownBlock=some g→v.ownBlock=some g∨w.heap.size≤g:=by
 have HP:=hdd (Wk n w hn);have HL:=hdd (Vl.cQ 9 n);generalize Vl.put 9 n=P at*;have kt:base≤w.heap.size:=Nat.le_trans fg (Nat.le_of_lt hb.lt);go_enter func44,ntmps44;go_wp2_with fail;refine HP.out.mono ?_;rintro e w1 ⟨v1,rfl,m6,aC⟩;obtain⟨gp,c,rfl,_,hgp,fY,fS,uh,_⟩:=m6.opened HL.out.1;have LJ:=hdd uh;have ly:=hb.below aC;have pG:=ly.cell;have j6:=ho.below aC;have dJ:=aC.size;clear uh;go_wp2_with (refine a8 afq rfl _ _ rfl base _ v (L.map B8) rfl j6.alU gp P.length c (P.map B8) rfl ae LJ.out (la P) (by have:=HL.out;simp;omega) (by have:=HL.out;simp;omega) aa ?_;intro v' w2 alV l5 tn;have gW:=alV.bytes;have jo:=ly.grown l5 (fun e=>ly.ne j6 e);have auA:=jo.cell;have auB:=jo.frozen;obtain⟨A3,c3,rfl,lu⟩:=gW.read;rw[List.length_append]at gW tn)
 go_end0;refine⟨_,rfl,jo.set _,gW.IW jo _,Below.setCell (am (aC.mono kt) l5 aa (fun g e=>(j6.aw g e).1)) fg _,fun g h1 h2 h3=>(ag _ _ _ _ (fun e=>h2 e)).trans ((l5.block g aa (fun e=>h3 e.symm)).trans (aC.block g h1)),fun g hg=> ?_⟩;rcases tn with h | h;·exact .inl (h▸hg)
 ·refine .inr ?_;rw[h]at hg;injection hg with e;omega
theorem dX.rest{f:bA}{l:List bA}(h:dX w (some ⟨b,off,none⟩) (f::l)):dX w (some ⟨b,off+2,none⟩) l:=by
 rcases h with h | ⟨b',abX,e,aF,bx⟩
 ·cases h
 ·injection e with e;injection e with e1 e2;subst e1;subst e2;refine .inr ⟨_,_,rfl,aF,fun i hi=> ?_⟩;have:=bx (i+1) av;simp only[List.getElem_cons_succ]at this;rw[show off+2+i*2=off+(i+1)*2 by omega];exact this
theorem M0(w:World):Below w.heap.size w w.drew:=(Below.refl _ _).drew
def Reads(w:World)(l:List UInt8)(e:Ending)(w':World):Prop:= ∃A c,e= .returned (.slice A l.length c)∧l.length≤c∧c≤9223372036854775807∧Bytes w' A l∧Below w.heap.size w w'
def KC(l:List bA):Prop:= ∀(A0:Option Addr) (c0:Nat) (A:Option Addr) (b:List UInt8) (c:Nat) (w:World),dX w A0 l→Bytes w A b→b.length≤c→c≤9223372036854775807→b.length≤1000000→l.length≤c0→c0≤9223372036854775807→
  Calls prog 28 #[.slice A0 l.length c0,.slice A b.length c] w (Reads w (da l b))
theorem M3:KC []:=by intro A0 c0 A b c w hF hB hc hm hl OU Em;go_enter func28,ntmps28;go_wp2_with fail;go_ret;exact⟨A,c,rfl,hc,hm,hB,Below.refl _ _⟩
theorem dX.cut{f:bA}{l:List bA}(h:dX w (some ⟨b,off,none⟩) (f::l))(c:Nat)(hc:(f::l).length≤c):dX w (if c=1 then some ⟨b,off,none⟩else some ⟨b,off+2,none⟩) l:=by
 by_cases e:c=1
 ·have:l=[]:=by have:l.length=0:=(by simp at hc;omega);exact List.eq_nil_of_length_eq_zero this
  exact .inl this
 ·rw[if_neg e];exact h.rest
theorem IX(f:bA)(l:List bA)(bt:cW f=true)(auC:l.length≤20)(ih:KC l):KC (f::l):=by
 intro A0 c0 A b c w hF hB hc hm hb OU Em;obtain⟨b0,off,rfl,fF,bx⟩:=hF.addr ae;have gh:=bx 0 ae;simp only[Nat.zero_mul,Nat.add_zero,List.getElem_cons_zero]at gh;have h0:=gh.c0;have h1:=gh.c1;obtain⟨o1,o2,o3⟩:=gh.ok;have hxl:=ut f b;have hs:da (f::l) b=da l (lS f b):=rfl;rw[hs];have IH:Hid (∀(A0:Option Addr) (A:Option Addr) (c:Nat) (w:World),dX w A0 l→Bytes w A (lS f b)→(lS f b).length≤c→c≤9223372036854775807→Calls prog 28 #[.slice A0 l.length (c0-1),.slice A (lS f b).length c] w (Reads w (da l (lS f b)))):=by apply hdd;intro A0 A c w k1 k2 k3 k4;exact ih A0 (c0-1) A _ c w k1 k2 k3 k4 aa (by simp at OU;omega) aa
 have Sr:=hF.cut c0 OU;have pG:(f::l).length=l.length+1:=rfl;rw[pG]at OU ⊢;have bE:=M0 w;obtain⟨id,n⟩:=f;simp only at h0 h1 o1 o2 o3;clear hs bx gh hxl pG ih;have e1:(l.length+1)-1=l.length:=aa;rcases qw _ bt with⟨e,g1,g2⟩ | ⟨e,g1,g2⟩
 ·simp only at e g1 g2;subst e;have hx:lS ⟨3,n⟩ b=Delta.enc b ((n:Int).toNat):=rfl;rw[hx]at IH ⊢;have HC:=hdd (fun(w':World) (h:Bytes w' A b)=>De.Im A b c (n:Int) w' h aa aa aa);generalize Delta.enc b ((n:Int).toNat)=X at*;generalize da l X=Y at*;clear hx bt;by_cases fY:c0=1;·subst fY;simp only[if_true]at Sr;simp only[Nat.sub_self]at IH;go_enter func28,ntmps28;go_wp2_with fail;refine wp_region_held_drew (S:=fun w'=>Below w.heap.size w w') ak bE (fun hS=> ?_);refine af 0 hS (h:=bT 1 rfl (fun w hSw=>by have q1:(1:Int)≤(l.length:Int)+1:=aa;go_simp;all_goals(with_reducible rfl)) hS (h:=af 2 hS (h:=af 3 hS (h:=af 4 hS (h:=af 5 hS (h:=bT 6 rfl (fun w hSw=>oC) hS (h:=bT 7 rfl (fun w hSw=>by have q2:IntKind.i64.wrap (n:Int)=(n:Int):=IntWalk.i64_in _ aa;go_simp;all_goals(with_reducible rfl)) hS (h:= ?_))))))));refine aG 8 (fun K hK=> ?_);go_simp;refine(HC.out _ (hB.below bE)).mono ?_;rintro e w4 ⟨v4,rfl,cH,bc⟩;obtain⟨A4,c4,rfl,kJ,jt,uH⟩:=cH.read;have g4:=aO bE bc;clear cH bc;go_wp2_with fail;refine hK.out _ _ g4 (fun _=> ?_);clear hK K;refine aG 9 (fun K hK=> ?_);go_simp;refine(IH.out _ A4 c4 _ (Sr.below g4) uH kJ jt).mono ?_;rintro e w5 ⟨A5,c5,rfl,Dh,Ol,AD,fj⟩;have g5:=aO g4 fj;go_wp2_with fail;refine hK.out _ _ g5 (fun _=> ?_);clear hK K;refine af 10 g5 (h:= ?_);refine wpAnyH_done ak ?_ _;go_wp2_with fail;go_ret;exact⟨A5,c5,rfl,Dh,Ol,AD,g5⟩
  ·rw[if_neg fY]at Sr;go_enter func28,ntmps28;go_wp2_with fail;refine wp_region_held_drew (S:=fun w'=>Below w.heap.size w w') ak bE (fun hS=> ?_);refine af 0 hS (h:=bT 1 rfl (fun w hSw=>by have q1:(1:Int)≤(l.length:Int)+1:=aa;go_simp;all_goals(with_reducible rfl)) hS (h:=af 2 hS (h:=af 3 hS (h:=af 4 hS (h:=af 5 hS (h:=bT 6 rfl (fun w hSw=>oC) hS (h:=bT 7 rfl (fun w hSw=>by have q2:IntKind.i64.wrap (n:Int)=(n:Int):=IntWalk.i64_in _ aa;go_simp;all_goals(with_reducible rfl)) hS (h:= ?_))))))));refine aG 8 (fun K hK=> ?_);go_simp;refine(HC.out _ (hB.below bE)).mono ?_;rintro e w4 ⟨v4,rfl,cH,bc⟩;obtain⟨A4,c4,rfl,kJ,jt,uH⟩:=cH.read;have g4:=aO bE bc;clear cH bc;go_wp2_with fail;refine hK.out _ _ g4 (fun _=> ?_);clear hK K;refine aG 9 (fun K hK=> ?_);go_simp;refine(IH.out _ A4 c4 _ (Sr.below g4) uH kJ jt).mono ?_;rintro e w5 ⟨A5,c5,rfl,Dh,Ol,AD,fj⟩;have g5:=aO g4 fj;go_wp2_with fail;refine hK.out _ _ g5 (fun _=> ?_);clear hK K;refine af 10 g5 (h:= ?_);refine wpAnyH_done ak ?_ _;go_wp2_with fail;go_ret;exact⟨A5,c5,rfl,Dh,Ol,AD,g5⟩
 ·simp only at e g1 g2;have hx:lS ⟨id,n⟩ b=dh (ga id) (fL id false) n b:=by unfold lS;rw[if_neg e]
  rw[hx]at IH ⊢;have HC:=hdd (fun(w':World) (h:Bytes w' A b)=>MC id g1 false n o3 A b c w' h hb hc hm);generalize dh (ga id) (fL id false) n b=X at*;generalize da l X=Y at*;have Ss:(id==3)=false:=by simp[e]
  clear hx bt g1 e;by_cases fY:c0=1;·subst fY;simp only[if_true]at Sr;simp only[Nat.sub_self]at IH;go_enter func28,ntmps28;go_wp2_with fail;refine wp_region_held_drew (S:=fun w'=>Below w.heap.size w w') ak bE (fun hS=> ?_);refine af 0 hS (h:=bT 1 rfl (fun w hSw=>by have q1:(1:Int)≤(l.length:Int)+1:=aa;go_simp;all_goals(with_reducible rfl)) hS (h:=af 2 hS (h:=af 3 hS (h:=af 4 hS (h:=bT 5 rfl (fun w hSw=>oC) hS (h:=af 6 hS (h:=af 7 hS (h:=af 8 hS (h:=bT 9 rfl (fun w hSw=>oC) hS (h:=af 10 hS (h:= ?_)))))))))));refine aG 11 (fun K hK=> ?_);go_simp;refine(HC.out _ (hB.below bE)).mono ?_;rintro e w4 ⟨v4,rfl,cH,bc⟩;obtain⟨A4,c4,rfl,kJ,jt,uH⟩:=cH.read;have g4:=aO bE bc;clear cH bc;go_wp2_with fail;refine hK.out _ _ g4 (fun _=> ?_);clear hK K;refine aG 12 (fun K hK=> ?_);go_simp;refine(IH.out _ A4 c4 _ (Sr.below g4) uH kJ jt).mono ?_;rintro e w5 ⟨A5,c5,rfl,Dh,Ol,AD,fj⟩;have g5:=aO g4 fj;go_wp2_with fail;refine hK.out _ _ g5 (fun _=> ?_);clear hK K;refine af 13 g5 (h:= ?_);refine wpAnyH_done ak ?_ _;go_wp2_with fail;go_ret;exact⟨A5,c5,rfl,Dh,Ol,AD,g5⟩
  ·rw[if_neg fY]at Sr;go_enter func28,ntmps28;go_wp2_with fail;refine wp_region_held_drew (S:=fun w'=>Below w.heap.size w w') ak bE (fun hS=> ?_);refine af 0 hS (h:=bT 1 rfl (fun w hSw=>by have q1:(1:Int)≤(l.length:Int)+1:=aa;go_simp;all_goals(with_reducible rfl)) hS (h:=af 2 hS (h:=af 3 hS (h:=af 4 hS (h:=bT 5 rfl (fun w hSw=>oC) hS (h:=af 6 hS (h:=af 7 hS (h:=af 8 hS (h:=bT 9 rfl (fun w hSw=>oC) hS (h:=af 10 hS (h:= ?_)))))))))));refine aG 11 (fun K hK=> ?_);go_simp;refine(HC.out _ (hB.below bE)).mono ?_;rintro e w4 ⟨v4,rfl,cH,bc⟩;obtain⟨A4,c4,rfl,kJ,jt,uH⟩:=cH.read;have g4:=aO bE bc;clear cH bc;go_wp2_with fail;refine hK.out _ _ g4 (fun _=> ?_);clear hK K;refine aG 12 (fun K hK=> ?_);go_simp;refine(IH.out _ A4 c4 _ (Sr.below g4) uH kJ jt).mono ?_;rintro e w5 ⟨A5,c5,rfl,Dh,Ol,AD,fj⟩;have g5:=aO g4 fj;go_wp2_with fail;refine hK.out _ _ g5 (fun _=> ?_);clear hK K;refine af 13 g5 (h:= ?_);refine wpAnyH_done ak ?_ _;go_wp2_with fail;go_ret;exact⟨A5,c5,rfl,Dh,Ol,AD,g5⟩
theorem M4(l:List bA)(hl:l.length≤20)(dv:l.all cW=true):KC l:=by
 induction l with
 | nil=>exact M3
 | cons f l ih=>
  rw[List.all_cons,Bool.and_eq_true]at dv;simp at hl;exact IX f l dv.1 aa (ih aa dv.2)
def aJ(k:Nat):Nat:=if 40<k then 0 else if k=40 then 4294967295 else(2+k%2)*2^(11+k/2)
theorem kj(k:Nat):aJ k<4294967296:=by
 by_cases h:k≤40
 ·have: ∀k,k<41→aJ k<4294967296:=by decide
  exact this k aa
 ·unfold aJ;rw[if_pos aa];omega
theorem qH(i j:Nat)(h:i<j)(hj:j≤40):aJ i<aJ j:=by have: ∀j,j<41→ ∀i,i<j→aJ i<aJ j:=an;exact this j aa i h
theorem AE:aJ 40=4294967295:=an
def a7(d:Nat):Nat:=((List.range 41).find? fun i=>decide (d≤aJ i)).getD 40
theorem ov(d k:Nat)(hk:k≤40)(h1:d≤aJ k)(h2: ∀j,j<k→aJ j<d):a7 d=k:=by
 have:(List.range 41).find? (fun i=>decide (d≤aJ i))=some k:=by rw[List.find?_range_eq_some];refine⟨by simpa using h1,av,fun j hj=>by simpa using h2 j hj⟩
 unfold a7;rw[this];rfl
theorem lW(d:Nat):a7 d≤40:=by
 unfold a7;cases h:(List.range 41).find? (fun i=>decide (d≤aJ i))with
 | none=>simp
 | some k=>have:=List.mem_of_find?_eq_some h;simp at this ⊢;omega
def Low(d k:Nat):Prop:= ∀j,j<k→aJ j<d
theorem iT(k:Nat)(hk:k≤40)(w:World):Calls prog 16 #[.int .i64 (k:Nat)] w fun e w'=>e= .returned (.int .u32 (aJ k:Nat))∧w=w':=by
 have hc:k=0∨k=1∨k=2∨k=3∨k=4∨k=5∨k=6∨k=7∨k=8∨k=9∨k=10∨k=11∨k=12∨k=13∨k=14∨k=15∨k=16∨k=17∨k=18∨k=19∨k=20∨k=21∨k=22∨k=23∨k=24∨k=25∨k=26∨k=27∨k=28∨k=29∨k=30∨k=31∨k=32∨k=33∨k=34∨k=35∨k=36∨k=37∨k=38∨k=39∨k=40:=aa;rcases hc with rfl | rfl | rfl | rfl | rfl | rfl | rfl | rfl | rfl | rfl | rfl | rfl | rfl | rfl | rfl | rfl | rfl | rfl | rfl | rfl | rfl | rfl | rfl | rfl | rfl | rfl | rfl | rfl | rfl | rfl | rfl | rfl | rfl | rfl | rfl | rfl | rfl | rfl | rfl | rfl | rfl
 all_goals
  go_enter func16,ntmps16;go_wp2_with fail;go_ret;exact⟨congrArg (fun n:Int=>Ending.returned (.int .u32 n)) an,rfl⟩
theorem M5(a:Int)(h:a<0∨40<a)(w:World):Calls prog 16 #[.int .i64 a] w fun e w'=>e= .returned (.int .u32 0)∧w=w':=by
 rcases h with h | h;·go_enter func16,ntmps16;go_wp2_with fail;go_ret;exact⟨rfl,rfl⟩
 ·have h': ¬a<0:=by omega
  go_enter func16,ntmps16;go_wp2_with fail;go_ret;exact⟨rfl,rfl⟩
theorem Su(a:Int)(w:World):Calls prog 16 #[.int .i64 a] w fun e w'=>e= .returned (.int .u32 ((if a<0 then 0 else aJ a.toNat:Nat):Int))∧w=w':=by
 by_cases h:a<0∨40<a
 ·refine(M5 a h w).mono ?_;rintro e w' ⟨rfl,rfl⟩;refine⟨?_,rfl⟩;rcases h with h | h;·rw[if_pos h];rfl
  ·rw[if_neg aa];unfold aJ;rw[if_pos aa];rfl
 ·obtain⟨k,rfl⟩: ∃k:Nat,a=(k:Int):=⟨a.toNat,aa⟩
  rw[if_neg aa,Int.toNat_natCast];exact iT k aa w
theorem Z_(i:Nat)(h:i≤30):2^i≤1073741824:=by have:=Nat.pow_le_pow_right (n:=2) aa h;simpa using this
def ow(k i:Nat):Nat:=(2+k%2)*2^i
theorem IY(k i:Nat):ow k (i+1)=2*ow k i:=by unfold ow;rw[Nat.pow_succ,←Nat.mul_assoc,Nat.mul_comm]
theorem Sv(k i:Nat)(h:i≤30):ow k i≤3221225472:=by
 unfold ow;have h1:=Z_ i h;have h2:2+k%2≤3:=aa
 calc(2+k%2)*2^i≤3*1073741824:=Nat.mul_le_mul h2 h1
  _=3221225472:=rfl
theorem IZ(k:Nat):ow k 0=2+k%2:=by simp[ow]
theorem Fn(k:Nat)(hk:k<40)(w:World):Calls prog 29 #[.int .i64 (k:Nat)] w fun e w'=>e= .returned (.int .u64 (aJ k:Nat))∧w=w':=by
 have hd:aJ k=ow k (11+k/2):=by unfold aJ ow;rw[if_neg aa,if_neg aa]
 have HD:=hdd hd;have HZ:=hdd (IZ k);clear hd;generalize aJ k=D at*;have afr:((k:Int)==40)=false:=av;go_enter func29,ntmps29;go_wp2_with fail;clear afr;go_loop [3,4] (fun n i=> ∃j:Nat,j≤11+k/2∧i= .int .i64 j∧n= .int .u64 (ow k j:Nat)) (fun _ i=>11+k/2-(intOf i).toNat);case atStart=>exact⟨0,aa,rfl,by rw[HZ.out];congr 1⟩
 case round=>
  obtain⟨j,hj,rfl,rfl⟩:=hrel;by_cases aF:j<11+k/2
  ·have hle:=Sv k j aa;have HS:=hdd (IY k j);have OE:(j:Int)<(k:Int)/2+11:=aa;generalize ow k j=n at*;go_wp2_with fail;go_round;case rel=>exact⟨j+1,aa,aq,by rw[HS.out];congr 1⟩
   case measure=>simp[intOf];omega
  ·have OE: ¬(j:Int)<(k:Int)/2+11:=(by omega);obtain rfl:j=11+k/2:=aa;rw[←HD.out];go_wp2_with fail;go_ret;exact⟨rfl,rfl⟩
theorem M6(w:World):Calls prog 29 #[.int .i64 40] w fun e w'=>e= .returned (.int .u64 4294967295)∧w=w':=by go_enter func29,ntmps29;go_wp2_with fail;go_ret;exact⟨rfl,rfl⟩
theorem I0(a:Int)(h:a<0∨40<a)(w:World):Calls prog 29 #[.int .i64 a] w fun e w'=>e= .returned (.int .u64 0)∧w=w':=by
 rcases h with h | h;·go_enter func29,ntmps29;go_wp2_with fail;go_ret;exact⟨rfl,rfl⟩
 ·have h': ¬a<0:=by omega
  go_enter func29,ntmps29;go_wp2_with fail;go_ret;exact⟨rfl,rfl⟩
theorem M7(a:Int)(w:World):Calls prog 29 #[.int .i64 a] w fun e w'=>e= .returned (.int .u64 ((if a<0 then 0 else aJ a.toNat:Nat):Int))∧w=w':=by
 by_cases h:a<0∨40<a
 ·refine(I0 a h w).mono ?_;rintro e w' ⟨rfl,rfl⟩;refine⟨?_,rfl⟩;rcases h with h | h;·rw[if_pos h];rfl
  ·rw[if_neg aa];unfold aJ;rw[if_pos aa];rfl
 ·obtain⟨k,rfl⟩: ∃k:Nat,a=(k:Int):=⟨a.toNat,aa⟩
  rw[if_neg aa,Int.toNat_natCast];by_cases h4:k=40;·subst h4;exact M6 w
  ·exact Fn k aa w
theorem tL(k:Nat)(w:World):Calls prog 29 #[.int .i64 (k:Nat)] w fun e w'=>e= .returned (.int .u64 (aJ k:Nat))∧w=w':=by have:=M7 (k:Int) w;rwa [if_neg aa,Int.toNat_natCast]at this
theorem sC(d:Nat)(hd:d<4294967296)(w:World):Calls prog 17 #[.int .u32 (d:Nat)] w fun e w'=>e= .returned (.int .i64 (a7 d:Nat))∧w=w':=by
 have HE:=hdd (ov d);generalize a7 d=C at*;go_enter func17,ntmps17;go_wp2_with fail;go_loop [3] (fun i=> ∃k:Nat,k≤40∧i= .int .i64 k∧Low d k) (fun i=>40-(intOf i).toNat);case atStart=>exact⟨0,aa,rfl,fun j hj=>aa⟩
 case round=>
  obtain⟨k,hk,rfl,OA⟩:=hrel;have HD:=hdd (iT k hk w);have hl:=kj k;have HT:=hdd AE;by_cases aF:aJ k<d
  ·have afr:k<40:=by
    rcases Nat.lt_or_ge k 40 with h | h;·exact h
    ·obtain rfl:k=40:=(by omega);rw[HT.out]at aF;omega
   have afs:Low d (k+1):=by
    intro j hj;by_cases e:j=k;·subst e;exact aF
    ·exact OA j aa
   generalize aJ k=D at*;go_wp2_with fail;refine HD.out.mono ?_;rintro e w' ⟨rfl,rfl⟩;go_wp2_with fail;go_round;case rel=>exact⟨k+1,aa,aq,afs⟩
   case measure=>simp[intOf];omega
  ·have hc:=HE.out k hk aa OA;subst hc;generalize aJ C=D at*;go_wp2_with fail;refine HD.out.mono ?_;rintro e w' ⟨rfl,rfl⟩;go_wp2_with fail;go_ret;exact⟨rfl,rfl⟩
def aaa(d m b:Nat):Prop:=d≤aJ b∧ ∀j,m≤j→j<b→aJ j<d
theorem I1(d:Nat)(hd:d<4294967296)(w:World):Calls prog 30 #[.int .u32 (d:Nat)] w fun e w'=>e= .returned (.int .i64 (a7 d:Nat))∧w=w':=by
 have HE:=hdd (ov d);have HT:=hdd AE;generalize a7 d=C at*;go_enter func30,ntmps30;go_wp2_with fail;go_loop [3,4] (fun b i=> ∃k m:Nat,k≤40∧m≤41∧b= .int .i64 k∧i= .int .i64 ((m:Int)-1)∧aaa d m k) (fun _ i=>(intOf i+1).toNat);case atStart=>exact⟨40,41,aa,aa,rfl,rfl,by rw[HT.out];omega,fun j h1 h2=>aa⟩
 case round=>
  obtain⟨k,m,hk,hm,rfl,rfl,ud⟩:=hrel;rcases m with _ | m;·have hc:=HE.out k hk ud.1 (fun j hj=>ud.2 j aa hj);subst hc;have e1:((0:Nat):Int)-1= -1:=rfl;rw[e1];clear ud;go_wp2_with fail;go_ret;exact⟨rfl,rfl⟩
  ·have e1:((m+1:Nat):Int)-1=(m:Int):=(by omega);rw[e1];have HD:=hdd (tL m w);have hl:=kj m;have HB:=hdd ud;clear ud;by_cases Dy:d≤aJ m
   ·have I2:aaa d m m:=⟨Dy,fun j h1 h2=>aa⟩
    have alW:decide ((d:Int)≤(aJ m:Int))=true:=av;generalize aJ m=D at*;clear e1;go_wp2_with fail;refine HD.out.mono ?_;rintro e w' ⟨rfl,rfl⟩;go_wp2_with fail;go_round;case rel=>exact⟨m,m,aa,aa,rfl,rfl,I2⟩
    case measure=>simp[intOf]
   ·have I2:aaa d m k:=⟨HB.out.1,fun j h1 h2=>by
     by_cases e:j=m;·subst e;omega
     ·exact HB.out.2 j aa h2⟩
    have alW:decide ((d:Int)≤(aJ m:Int))=false:=av;generalize aJ m=D at*;clear e1;go_wp2_with fail;refine HD.out.mono ?_;rintro e w' ⟨rfl,rfl⟩;go_wp2_with fail;go_round;case rel=>exact⟨k,m,aa,aa,rfl,rfl,I2⟩
    case measure=>simp[intOf]
end Go.Proofs.YtgfpocdiojifoaaGreatDoor
