import Derived.Test.YtfcaoggfnkhfiaaGreatDoorZ01
import Derived.RangeFuncNested
import Derived.RangeFuncBound
import Derived.RangeFuncCalls
import Derived.RangeFuncLeaves
import Derived.RangeFuncKeeps
import Derived.Sort.BigQuietIn
import Derived.Test.YtfcaoggfnkhfiaaGreatDoorRows
import Derived.WideKeyArr
import Derived.WideKeyEntry
import Derived.Maps.OwnSet
import Derived.Lib.MinMax
import Derived.Maps.OwnOps
import Derived.Shelf.Abstract
import Derived.Shelf.RegionOpen
import Derived.OwnWalkIn
import Derived.TacticsInMore
import Derived.LoopNIn
import Derived.LoopIn
namespace Go.Proofs.YtfcaoggfnkhfiaaGreatDoor
set_option maxRecDepth 100000
set_option maxHeartbeats 8000000
open Go.RowKit Go.Proofs.Tryz
variable{dict nice:Int}{d:List UInt8}{D F L b c j k m mp n p q:Nat}{f:Nat→Nat}{S:Nat→Prop}{A:Option Addr}{x:UInt8×UInt8×UInt8×UInt8}{v v4:Value}{w w':World}
def bu(d:List UInt8):Nat→Nat→Nat→Nat
 | _,_,0=>0
 | p,q,L+1=>if d.getD p 0=d.getD q 0 then bu d (p+1) (q+1) L+1 else 0
structure vz(d:List UInt8)(p q L n:Nat):Prop where
 le:n≤L
 eq: ∀i,i<n→d.getD (p+i) 0=d.getD (q+i) 0
 stop:n=L∨d.getD (p+n) 0≠d.getD (q+n) 0
theorem vz.unique(h:vz d p q L n)(k:vz d p q L m):n=m:=by
 rcases Nat.lt_trichotomy n m with aH | e | aH
 ·rcases h.stop with e | e;·have:=k.le;omega
  ·exact absurd (k.eq n aH) e
 ·exact e
 ·rcases k.stop with e | e;·have:=h.le;omega
  ·exact absurd (h.eq m aH) e
theorem d9(d:List UInt8): ∀(L p q:Nat),vz d p q L (bu d p q L)
 | 0,p,q=>⟨Nat.le_refl _,(fun i h=>absurd h (Nat.not_lt_zero i)),.inl rfl⟩
 | L+1,p,q=>by
  unfold bu;by_cases h:d.getD p 0=d.getD q 0
  ·rw[if_pos h];have ih:=d9 d L (p+1) (q+1);refine⟨am ih.le,fun i hi=> ?_,?_⟩
   ·cases i with
    | zero=>exact h
    | succ i=>
     have:=ih.eq i aa;rw[show p+1+i=p+(i+1) by omega,show q+1+i=q+(i+1) by omega]at this;exact this
   ·rcases ih.stop with e | e;·exact .inl aa
    ·rw[show p+1+bu d (p+1) (q+1) L=p+(bu d (p+1) (q+1) L+1) by omega,show q+1+bu d (p+1) (q+1) L=q+(bu d (p+1) (q+1) L+1) by omega]at e;exact .inr e
  ·rw[if_neg h];exact⟨Nat.zero_le _,(fun i hi=>absurd hi (Nat.not_lt_zero i)),.inr h⟩
theorem vz.is(h:vz d p q L n):n=bu d p q L:=h.unique (d9 d L p q)
def Cg(d:List UInt8)(p:Nat)(most:Int):Nat:=(min most ((d.length:Int)-(p:Int))).toNat
def dN(f:Nat→Nat):Nat→Nat×Nat
 | 0=>(0,0)
 | D+1=>if(dN f D).1<f (D+1)then(f (D+1),D+1)else dN f D
def yj(l:List UInt8)(dict nice:Int)(p:Nat)(most:Int):Nat×Nat:=
 if(dN (fun k=>bu l p (p-k) (Cg l p (min nice most))) (min (p:Int) dict).toNat).1<2 then(0,0)else dN (fun k=>bu l p (p-k) (Cg l p (min nice most))) (min (p:Int) dict).toNat
structure yk(f:Nat→Nat)(D n k:Nat):Prop where
 le: ∀j,1≤j→j≤D→f j≤n
 lt: ∀j,1≤j→j<k→f j<n
 at_:(n=0∧k=0)∨(1≤k∧k≤D∧f k=n∧0<n)
theorem kA(f:Nat→Nat): ∀D,yk f D (dN f D).1 (dN f D).2
 | 0=>⟨fun j h1 h2=>aa,fun j h1 h2=>by simp[dN]at h2,.inl ⟨rfl,rfl⟩⟩
 | D+1=>by
  have ih:=kA f D;unfold dN;by_cases h:(dN f D).1<f (D+1)
  ·rw[if_pos h];refine⟨fun j h1 h2=> ?_,fun j h1 h2=> ?_,.inr ⟨ag,ag,rfl,by show 0<f (D+1);omega⟩⟩
   ·show f j≤f (D+1);rcases Nat.lt_or_ge j (D+1)with h3 | h3;·have:=ih.le j h1 aa;omega
    ·obtain rfl:j=D+1:=(by omega);exact Nat.le_refl _
   ·have h2:j<D+1:=h2;show f j<f (D+1);have:=ih.le j h1 aa;omega
  ·rw[if_neg h];refine⟨fun j h1 h2=> ?_,ih.lt,?_⟩
   ·rcases Nat.lt_or_ge j (D+1)with h3 | h3;·exact ih.le j h1 aa
    ·obtain rfl:j=D+1:=(by omega);omega
   ·rcases ih.at_ with e | ⟨e1,e2,e3⟩
    ·exact .inl e
    ·exact .inr ⟨e1,aa,e3⟩
theorem yk.unique{n' k':Nat}(h:yk f D n k)(h':yk f D n' k'):n=n'∧k=k':=by
 have hn:n=n':=by
  rcases h.at_ with⟨e1,e2⟩ | ⟨e1,e2,e3,e4⟩
  ·rcases h'.at_ with⟨e1',_⟩ | ⟨a1,a2,a3,a4⟩
   ·omega
   ·have:=h.le k' a1 a2;omega
  ·rcases h'.at_ with⟨a1,_⟩ | ⟨a1,a2,a3,a4⟩
   ·have:=h'.le k e1 e2;omega
   ·have b1:=h.le k' a1 a2;have b2:=h'.le k e1 e2;omega
 refine⟨hn,?_⟩;subst hn;rcases h.at_ with⟨e1,e2⟩ | ⟨e1,e2,e3,e4⟩
 ·rcases h'.at_ with⟨_,a2⟩ | ⟨a1,a2,a3,a4⟩
  ·omega
  ·omega
 ·rcases h'.at_ with⟨a1,_⟩ | ⟨a1,a2,a3,a4⟩
  ·omega
  ·rcases Nat.lt_trichotomy k k' with aH | e | aH;·have:=h'.lt k e1 aH;omega
   ·exact e
   ·have:=h.lt k' a1 aH;omega
structure dx(S:Nat→Prop)(f:Nat→Nat)(n k:Nat):Prop where
 le: ∀j,S j→f j≤n
 lt: ∀j,S j→j<k→f j<n
 at_:(n=0∧k=0)∨(S k∧f k=n∧0<n)
theorem dx.none(f:Nat→Nat):dx (fun _=>False) f 0 0:=⟨fun _ h=>h.elim,fun _ h=>h.elim,.inl ⟨rfl,rfl⟩⟩
theorem dx.iff{T:Nat→Prop}(h:dx S f n k)(e: ∀j,T j↔S j):dx T f n k:=
 ⟨fun j hj=>h.le j ((e j).1 hj),fun j hj=>h.lt j ((e j).1 hj),h.at_.imp id fun⟨a,b⟩=>⟨(e k).2 a,b⟩⟩
theorem dx.skip(h:dx S f n k)(hj: ∀s,S s→s<j)(hf:f j≤n):dx (fun x=>S x∨x=j) f n k:=by
 refine⟨?_,?_,?_⟩
 ·rintro x (hx | rfl);·exact h.le x hx
  ·exact hf
 ·rintro x (hx | rfl) aH;·exact h.lt x hx aH
  ·rcases h.at_ with⟨_,e⟩ | ⟨e,_⟩
   ·omega
   ·have:=hj k e;omega
 ·rcases h.at_ with e | ⟨e,e2⟩
  ·exact .inl e
  ·exact .inr ⟨.inl e,e2⟩
theorem dx.take(h:dx S f n k)(hj: ∀s,S s→s<j)(hf:n<f j):dx (fun x=>S x∨x=j) f (f j) j:=by
 refine⟨?_,?_,.inr ⟨.inr rfl,rfl,aa⟩⟩
 ·rintro x (hx | rfl);·have:=h.le x hx;omega
  ·exact Nat.le_refl _
 ·rintro x (hx | rfl) aH;·have:=h.le x hx;omega
  ·omega
theorem jC(d:List UInt8)(p q L:Nat):bu d p q L≤L:=(d9 d L p q).le
theorem Nl(h:d.getD (q+n) 0≠d.getD (p+n) 0):bu d p q L≤n:=by
 rcases Nat.lt_or_ge n (bu d p q L)with hl | hl;·exact absurd ((d9 d L p q).eq n hl).symm h
 ·exact hl
theorem dx.all(h:dx S f n k)(hS: ∀j,S j→1≤j∧j≤D)(hm: ∀j,1≤j→j≤D→m≤f j→S j)(hn:m≤n)(h0:0<m):yk f D n k:=by
 refine⟨fun j h1 h2=> ?_,fun j h1 h2=> ?_,?_⟩
 ·rcases Nat.lt_or_ge (f j) m with h3 | h3;·omega
  ·exact h.le j (hm j h1 h2 h3)
 ·rcases h.at_ with⟨e,_⟩ | ⟨e,_⟩
  ·omega
  ·have hk:=(hS k e).2;rcases Nat.lt_or_ge (f j) m with h3 | h3;·omega
   ·exact h.lt j (hm j h1 aa h3) h2
 ·rcases h.at_ with e | ⟨e,e2,e3⟩
  ·omega
  ·exact .inr ⟨(hS k e).1,(hS k e).2,e2,e3⟩
theorem FX{M:Nat}(hM:M≤L):bu d p q M=min (bu d p q L) M:=by
 have h:=d9 d L p q;refine(vz.is (n:=min (bu d p q L) M) ⟨Nat.min_le_right _ _,fun i hi=>h.eq i aa,?_⟩).symm;rcases Nat.lt_or_ge (bu d p q L) M with hl | hl
 ·rw[Nat.min_eq_left aa];rcases h.stop with e | e;·omega
  ·exact .inr e
 ·exact .inl aa
section
open Go Go.RowKit
variable{F:Fence}{n:Nat}{P:Program}
def LO(F:Fence)(n:Nat)(P:Program)(g:Nat)(lb:Array Value)(L:List Nat)(w:World):Prop:=
 ∀(l:Nat) (J:List Nat→World→Prop) (Jx:World→Prop) (W:World),(∀s W,J s W→Below w.heap.size w W)→(∀s W m,J s W→J s (W.drewN m))→(∀W m,Jx W→Jx (W.drewN m))→
  (∀pre x t W1,L=pre++x::t→J pre W1→YieldAt F (n-1) P l #[.int .i64 (x:Nat)] W1 fun e W'=>
   (e= .returned (.bool true)∧J (pre++[x]) W')∨(e= .returned (.bool false)∧Jx W'))→
  J [] W→
  CallsIn F n P g (#[.func (.yield l) #[] #[]]++lb) W fun e W'=>(∃v,e= .returned v)∧(J L W'∨Jx W')
def R0(I:List Nat→World→Prop)(Ix:Code→World→Prop)(xs:List Nat)(W:World):Exit→Act→World→Prop
 | .normal,_,W'=>KeepsOthers W W'∧I xs W'
 | .exit id,_,W'=>KeepsOthers W W'∧Ix (.exit id) W'
 | _,_,_=>False
theorem Bi{g:Operand}{ps:Array Tmp}{assign body:Code}{Q:Exit→Act→World→Prop}{a:Act}{w:World}
  (kv:F.round=none) (h1:1≤n) {gf:Nat} {lb:Array Value} (hg:a.eval g= .func (.func gf) #[] lb) (hFg:F.fn gf) (eg: ∀args w,(callFunc gf args).run P w= .ok (.enter gf args) w)
  {L:List Nat} {w0:World} (Bj:LO F (n-1) P gf lb L w0) (VO:ps.size=1)
  (I:List Nat→World→Prop) (Ix:Code→World→Prop)
  (hIa: ∀s W o,I s W→I s (W.alloc o)) (DM: ∀s W l o o',I s W→w.heap.size≤l→W.heap[l]? =some o→o.isCells=false→I s (W.putObj l o')) (hIb: ∀s W,I s W→Below w0.heap.size w0 W) (hId: ∀s W m,I s W→I s (W.drewN m))
  (hXp: ∀c W l o o',Ix c W→w.heap.size≤l→W.heap[l]? =some o→o.isCells=false→Ix c (W.putObj l o')) (hXd: ∀c W m,Ix c W→Ix c (W.drewN m)) (h0:I [] w) (a₁:Nat→Act)
  (nh: ∀(l:Nat) (x:Nat) (W:World) (K:Act→World→Prop),K (a₁ x) W→
   assign.wpIn (F.inRound l) (n-1-1) P (Exit.then K (fun _ _ _=>False)) {tmps:=(ps.zip #[.int .i64 (x:Nat)]).foldl (fun t (p,v)=>t.setIfInBounds p v) a.tmps,defers:=[]} W)
  (yl: ∀(l:Nat) (pre:List Nat) (x:Nat) (t:List Nat) (W:World),L=pre++x::t→I pre W→body.wpIn (F.inRound l) (n-1-1) P (R0 I Ix (pre++[x]) W) (a₁ x) W)
  (qG: ∀(D:Nat) (W:World),w.heap.size≤D→I L W→W.heap[D]? =some (.deferred (some []))→Q .normal {a with defers:={target:= .collected D,args:= #[]}::a.defers} W)
  (FY: ∀(D:Nat) (c:Code) (W:World),w.heap.size≤D→Ix c W→W.heap[D]? =some (.deferred (some []))→c.wpIn F n P Q {a with defers:={target:= .collected D,args:= #[]}::a.defers} W):
  (Code.rangeFunc g ps assign body).wpIn F n P Q a w:=by
 refine wpIn_rangeFunc fun fn ot=> ?_;rw[kv];obtain⟨rec,iO⟩: ∃rec:LoopState→Option Code→Loop,rec=fun st pe=>{state:=st,pending:=pe,fn,tmps:=a.tmps,params:=ps,assign,body,defers:=w.heap.size}:=⟨_,rfl⟩
 have⟨W1,fv⟩:=ex ((w.alloc (.deferred (some []))).alloc (.loop (rec .ready none)));have LQ:W1.heap[w.heap.size+1]? =some (.loop (rec .ready none)):=by rw[←fv];have:=World.alloc_heap_new (w.alloc (.deferred (some []))) (.loop (rec .ready none));rwa [World.size_alloc]at this
 have VP:W1.heap[w.heap.size]? =some (.deferred (some [])):=by rw[←fv];exact(Below.heap_alloc _ _ _ ag).trans (World.alloc_heap_new w _)
 have Xx:I [] W1:=CZ
 refine⟨w.heap.size+1,[{target:= .collected w.heap.size,args:= #[]}],W1,{target:= .fn (.func gf) lb,args:= #[.func (.yield (w.heap.size+1)) #[] #[]]},W1,gf,
  #[.func (.yield (w.heap.size + 1)) #[] #[]] ++ lb, W1, ?_, ?_, ?_, ?_, fun _ => h1, ?_⟩
 ·rw[←fv,iO];exact run_enterLoop_outer _ _ _ _ _
 ·simp only[resolve,hg];simp[go_sem]
 ·intro f' R2;simp[Target.leads]at R2;subst R2;exact hFg
 ·simp[invoke,go_sem,eg]
 ·refine(Bj (w.heap.size+1)
   (fun pre W=>I pre W∧W.heap[w.heap.size+1]? =some (.loop (rec .ready none))∧W.heap[w.heap.size]? =some (.deferred (some [])))
   (fun W=> ∃c,Ix c W∧W.heap[w.heap.size+1]? =some (.loop (rec .done (some c)))∧W.heap[w.heap.size]? =some (.deferred (some [])))
   W1 (fun s W hs=>hIb s W hs.1) (fun s W m hs=>⟨hId s W m hs.1,hs.2.1,hs.2.2⟩) (fun W m hs=>by obtain⟨c,h⟩:=hs;exact⟨c,hXd c W m h.1,h.2.1,h.2.2⟩) ?_ ⟨Xx,LQ,VP⟩).mono ?_
  ·rintro pre x t W jN ⟨hi,hl,hk⟩;have aH:w.heap.size+1<W.heap.size:=(cr hl)
   have hy:=run_yield (P:=P) (args:= #[.int .i64 (x:Nat)]) hl (by rw[iO];simp[VO]);rw[iO]at hy;refine⟨fn,_,assign,body,hy,roundIn_of_wpIn ot (nh _ x W _ ⟨_,run_beginRound hl (by rw[iO]),?_⟩)⟩;have wY:(W.putObj (w.heap.size+1) (.loop {rec .ready none with state:= .busy})).heap[w.heap.size+1]? =some (.loop {rec .ready none with state:= .busy}):=World.putObj_heap_same aH;have l6:(W.putObj (w.heap.size+1) (.loop {rec .ready none with state:= .busy})).heap[w.heap.size]? =some (.deferred (some [])):=(World.putObj_heap_other aa).trans hk;refine wpIn_mono (yl _ pre x t _ jN (DM _ _ _ _ _ hi aa hl rfl)) ?_
   have fin: ∀(jump:Option Code) (W3:World),KeepsOthers (W.putObj (w.heap.size+1) (.loop {rec .ready none with state:= .busy})) W3→
     (Instr.endRound (w.heap.size+1) jump).run P W3= .ok (.bool jump.isNone) (W3.putObj (w.heap.size+1) (.loop (rec (if jump.isNone then .ready else .done) jump)))∧
     W3.heap[w.heap.size+1]? =some (.loop {rec .ready none with state:= .busy})∧
     (W3.putObj (w.heap.size+1) (.loop (rec (if jump.isNone then .ready else .done) jump))).heap[w.heap.size+1]? =some (.loop (rec (if jump.isNone then .ready else .done) jump))∧
     (W3.putObj (w.heap.size+1) (.loop (rec (if jump.isNone then .ready else .done) jump))).heap[w.heap.size]? =some (.deferred (some [])):=fun jump W3 mi=>by
    have qu:=mi.same _ _ wY rfl;have:=run_endRound (P:=P) jump qu;rw[iO]at this ⊢;exact⟨this,by rw[iO]at qu;exact qu,World.putObj_heap_same (cr qu),(World.putObj_heap_other aa).trans (mi.same _ _ l6 rfl)⟩
   rintro e a3 W3 hp;cases e with
   | normal=>
    obtain⟨mi,VN⟩:=hp;obtain⟨hr,qu,wP,hk4⟩:=fin none W3 mi;exact⟨_,_,hr,.inl ⟨rfl,DM _ _ _ _ _ VN aa qu rfl,wP,hk4⟩⟩
   | exit id=>
    obtain⟨mi,VN⟩:=hp;obtain⟨hr,qu,wP,hk4⟩:=fin (some (.exit id)) W3 mi;exact⟨_,_,hr,.inr ⟨rfl,.exit id,hXp _ _ _ _ _ VN aa qu rfl,wP,hk4⟩⟩
   | ret=>exact hp.elim
   | goto t=>exact hp.elim
   | panic ch=>exact hp.elim
   | outgrown=>exact hp.elim
  ·rintro e W2 ⟨⟨v,rfl⟩,⟨hi,hl,hk⟩ | ⟨c,hi,hl,hk⟩⟩;·exact⟨none,_,Ir,qG _ _ (Nat.le_refl _) (DM _ _ _ _ _ hi aa hl rfl) ((World.putObj_heap_other aa).trans hk)⟩
   ·exact⟨some c,_,Ir,FY _ c _ (Nat.le_refl _) (hXp _ _ _ _ _ hi aa hl rfl) ((World.putObj_heap_other aa).trans hk)⟩
def sN:List Oper→Bool
 | []=>true
 | o::l=>(match o.op with | .defer _=>false | _=>true)&&sN l
theorem vA: ∀{l:List Oper},sN l=true→ ∀o∈l,∀c,o.op≠ .defer c
 | [],_,o,ho=>by cases ho
 | o'::l,h,o,ho=>by
  rw[sN,Bool.and_eq_true]at h;intro c e;rcases List.mem_cons.1 ho with rfl | ho;·have:=h.1;rw[e]at this;cases this
  ·exact vA h.2 o ho c e
theorem Bk{md:Region.Mode}{l:List Oper}{Q:Exit→Act→World→Prop}{r:Nat}(kv:F.round=none)(hd:sN l=true): ∀(fuel:Nat) (listed:Array Bool) (a:Act) (w:World),wpAnyIn F n P md l.toArray Q fuel listed a w→wpAnyIn (F.inRound r) n P md l.toArray Q fuel listed a w:=by
 intro fuel;induction fuel with
 | zero=>exact fun listed a w h=>h
 | succ fuel ih=>
  intro listed a w h;refine⟨h.1,fun i hi=> ?_⟩;have hs:=h.2 i hi;unfold wpOpIn at hs ⊢;split;·rename_i ho;simp only[ho]at hs;exact ih _ _ _ hs
  ·rename_i o ho;simp only[ho]at hs;have hm:o∈l:=(by have:l[i]? =some o:=(by simpa using ho);exact List.mem_of_getElem? this);split;·rename_i hw;simp only[hw,if_true]at hs;refine Oper.wpIn_mono (K:=wpAnyIn F n P md l.toArray Q fuel (listed.setIfInBounds i true)) (fun a w h=>ih _ _ _ h) ?_;unfold Oper.wpIn at hs ⊢;rw[kv,Oper.semAt_none]at hs;rw[Fence.inRound_round,Oper.semAt_some _ _ _ (vA hd o hm)];exact hs
   ·rename_i hw;rw[if_neg hw]at hs;exact⟨hs.1,ih _ _ _ hs.2⟩
theorem dL{id r:Nat}{Q:Exit→Act→World→Prop}{a:Act}{w:World}{l:List Oper}(kv:F.round=none)(hm:P.follows .mixedOrders=true)(hB:Region.lexB .any l.toArray=true)(hd:sN l=true)
  (h:wpQuietIn F n P l.toArray (fun w'=> ∃n,w'=w.drewN n) (fun a'=> ∀w',(∃n,w'=w.drewN n)→Q .normal a' w') l a):(Code.region id l.toArray true).wpIn (F.inRound r) n P Q a w:=by
 have fC:=hB;simp only[Region.lexB,Bool.and_eq_true]at fC;refine wpIn_region_any hm (Bk kv hd _ _ _ _ (wpAnyIn_of_quiet (C:=fun w'=> ∃n,w'=w.drewN n) (Q:=fun a'=> ∀w',(∃n,w'=w.drewN n)→Q .normal a' w') kv (fun _ w' hw' h=>h w' hw') _ _ _ _ ⟨1,rfl⟩ ?_));have:=wpAnyQIn_lex (F:=F) (n:=n) (C:=fun w'=> ∃n,w'=w.drewN n) (md:= .any) fC.1 l 0 (Array.replicate l.toArray.size false) a ag (by simpa using fC.2) h;simpa using this
end
section
open Go.Maps Go.WideMaps
theorem Xy:ArrKey prog 210 5 2:=⟨underlying210,ai,xI,ai⟩
theorem afl:ArrKey prog 212 5 4:=⟨underlying212,ai,xI,ai⟩
theorem Jo:Keyed prog 210:=Keyed.of_law Xy.law
theorem DN:Keyed prog 212:=Keyed.of_law afl.law
def nW(a b:UInt8):Value:= .agg #[.int .u8 (a.toNat:Nat),.int .u8 (b.toNat:Nat)]
def qN(a b c d:UInt8):Value:= .agg #[.int .u8 (a.toNat:Nat),.int .u8 (b.toNat:Nat),.int .u8 (c.toNat:Nat),.int .u8 (d.toNat:Nat)]
theorem Nm{a b a' b':UInt8}(h:nW a b=nW a' b'):a=a'∧b=b':=by unfold nW at h;simp at h;exact⟨UInt8.toNat_inj.1 aa,UInt8.toNat_inj.1 aa⟩
theorem Nn{a b c d a' b' c' d':UInt8}(h:qN a b c d=qN a' b' c' d'):a=a'∧b=b'∧c=c'∧d=d':=by unfold qN at h;simp at h;exact⟨UInt8.toNat_inj.1 aa,UInt8.toNat_inj.1 aa,UInt8.toNat_inj.1 aa,UInt8.toNat_inj.1 aa⟩
theorem R3(a:UInt8):(Lit.int .u8 (a.toNat:Nat)).wf=true:=by have h:=a.toNat_lt;have e1:IntKind.u8.min=0:=rfl;have e2:IntKind.u8.max=255:=rfl;simp[Lit.wf,e1,e2];omega
theorem kt2:prog.keyType 210=true:=ai
theorem kt4:prog.keyType 212=true:=ai
theorem Z7: ∃m,prog.types.size=m+1:=⟨prog.types.size-1,ai⟩
theorem afm(a b:UInt8): ∃l,keyOf prog 210 (nW a b)=some l:=by obtain⟨m,hm⟩:=Z7;unfold keyOf nW;rw[underlying210,hm];simp[kt2,Value.formed,underlying210,Xy.size,Program.keyLits,underlying5,xI,Value.cells,R3,List.range_succ,List.mapM_cons]
theorem afn(a b c d:UInt8): ∃l,keyOf prog 212 (qN a b c d)=some l:=by obtain⟨m,hm⟩:=Z7;unfold keyOf qN;rw[underlying212,hm];simp[kt4,Value.formed,underlying212,afl.size,Program.keyLits,underlying5,xI,Value.cells,R3,List.range_succ,List.mapM_cons]
noncomputable def Np(a b:UInt8):Lit:=Classical.choose (afm a b)
theorem kB(a b:UInt8):keyOf prog 210 (nW a b)=some (Np a b):=Classical.choose_spec (afm a b)
theorem R5{a b a' b':UInt8}(h:Np a b=Np a' b'):a=a'∧b=b':=Nm (Jo.inj (kB a b) (h▸kB a' b'))
noncomputable def Jp(a b c d:UInt8):Lit:=Classical.choose (afn a b c d)
theorem mE(a b c d:UInt8):keyOf prog 212 (qN a b c d)=some (Jp a b c d):=Classical.choose_spec (afn a b c d)
theorem R6{a b c d a' b' c' d':UInt8}(h:Jp a b c d=Jp a' b' c' d'):a=a'∧b=b'∧c=c'∧d=d':=Nn (DN.inj (mE a b c d) (h▸mE a' b' c' d'))
end
structure cZ(w:World)(F:Nat)(A:Option Addr)(c:Nat)(d:List UInt8)(dict nice:Int)(mp:Nat)(v4:Value):Prop where
 box:w.heap[F]? =some (.cells [.slice A d.length c,.int .i64 dict,.int .i64 nice,.map (some mp),v4].toArray 141 (0,0))
 bytes:Bytes w A d
 cap:d.length≤c
 small:d.length≤100000
theorem cZ.lt(h:cZ w F A c d dict nice mp v4):F<w.heap.size:=(cr h.box)
theorem cZ.below(h:cZ w F A c d dict nice mp v4)(hb:Below w.heap.size w w'):cZ w' F A c d dict nice mp v4:=
 ⟨(hb.block _ h.lt).trans h.box,h.bytes.below hb,h.cap,h.small⟩
theorem cZ.drewN(h:cZ w F A c d dict nice mp v4)(m:Nat):cZ (w.drewN m) F A c d dict nice mp v4:=h.below (below_drewN (Below.refl _ _) m)
theorem cZ.cells(h:cZ w F A c d dict nice mp v4):w.cell? ⟨F,0,none⟩=some (.slice A d.length c)∧w.cell? ⟨F,1,none⟩=some (.int .i64 dict)∧w.cell? ⟨F,2,none⟩=some (.int .i64 nice)∧w.cell? ⟨F,3,none⟩=some (.map (some mp))∧w.cell? ⟨F,4,none⟩=some v4:=by refine⟨?_,?_,?_,?_,?_⟩<;>(rw[cell_of_row w F _ _ _ _ h.box];rfl)
theorem FZ(F:Nat)(A:Option Addr)(c:Nat)(d:List UInt8)(dict nice:Int)(mp:Nat)(v4:Value)(p q:Nat)(lm:Int)(w:World)(hF:cZ w F A c d dict nice mp v4)(hp:p+lm.toNat≤d.length)(hq:q≤p):
  Calls prog 232 #[PF F,.int .i64 (p:Nat),.int .i64 (q:Nat),.int .i64 lm] w fun e w'=>e= .returned (.int .i64 (bu d p q lm.toNat:Nat))∧ ∃m,w'=w.drewN m:=by
 obtain⟨c0,_,_,_,_⟩:=hF.cells;have HAD:=ae (fun(h:0<d.length)=>hF.bytes.addr h);have qw:(d.length:Int)≤100000:=am hF.small;have pW:(d.length:Int)≤(c:Int):=am hF.cap;have⟨L,hL⟩:=ex (lm.toNat);rw[hL]at hp ⊢;have HL:Hid (∀n:Nat,n<L↔(n:Int)<lm):=ae (fun n=>aa);have HU:=ae (fun n (h:vz d p q L n)=>h.is);have⟨E,hE⟩:=ex (bu d p q L);rw[hE]at HU ⊢;have HPQ:=ae (And.intro hp hq);clear hF hL hE hp hq;go_enter func232,ntmps232;go_wp2_with fail;go_loopw [9] (fun i wr=> ∃(n m:Nat),n≤L∧i= .int .i64 (n:Nat)∧Hid (∀i,i<n→d.getD (p+i) 0=d.getD (q+i) 0)∧wr=w.drewN m) (fun i _=>L-(intOf i).toNat);case atStart=>exact⟨0,0,aa,rfl,ae (fun i h=>iR),rfl⟩
 case round=>
  obtain⟨n,m,hn,rfl,iX,rfl⟩:=hrel;by_cases Bl:n<L
  ·have h1:=(HL.out n).1 Bl;obtain⟨b,off,rfl,_,dm⟩:=HAD.out (am HPQ.out);have⟨x,hx⟩:=ex (p+n:Nat);have Z8:(p:Int)+(n:Int)=(x:Int):=aa;have⟨y,hy⟩:=ex (q+n:Nat);have hyi:(q:Int)+(n:Int)=(y:Int):=aa;have hxl:(x:Int)<(d.length:Int):=am HPQ.out;have hyl:(y:Int)<(d.length:Int):=am HPQ.out;have cx:=dm x aa;have cy:=dm y aa;have HX:Hid (p+n=x∧q+n=y):=ae ⟨hx,hy⟩;have pX:(n:Int)≤100000:=aa;have e1:=dj (d:=d) (i:=x) aa;have e2:=dj (d:=d) (i:=y) aa;generalize d[x]'aa=u at*;generalize d[y]'aa=v at*;have Jq:=ae (And.intro e1 e2);clear e1 e2 hx hy dm HAD;by_cases LU:u=v
   ·have amd:((u.toNat:Int)==(v.toNat:Int))=true:=(by rw[LU];simp);have HQ:Hid (∀i,i<n+1→d.getD (p+i) 0=d.getD (q+i) 0):=ae (fun i hi=>by
     rcases Nat.lt_or_ge i n with h | h;·exact iX.out i h
     ·obtain rfl:i=n:=(by omega);rw[HX.out.1,HX.out.2,Jq.out.1,Jq.out.2,LU])
    clear LU;go_wp2_with fail;go_quiet (fail);go_wp2_with fail;exact⟨⟨n+1,_,aa,aE,HQ,rfl⟩,jb⟩
   ·have amd:((u.toNat:Int)==(v.toNat:Int))=false:=(by rw[beq_eq_false_iff_ne];intro h;exact LU (UInt8.toNat_inj.1 aa));have HN:Hid (n=E):=ae (HU.out n ⟨aa,iX.out,.inr (by rw[HX.out.1,HX.out.2,Jq.out.1,Jq.out.2];exact LU)⟩);clear LU;go_wp2_with fail;go_quiet (fail);go_wp2_with fail;go_ret;exact⟨by rw[HN.out];rfl,_,World.drewN_drewN ..⟩
  ·obtain rfl:n=L:=(by omega);have HN:Hid (n=E):=ae (HU.out n ⟨aa,iX.out,.inl rfl⟩);have h1:decide ((n:Int)<lm)=false:=decide_eq_false (mt (HL.out n).2 Bl);clear HAD Bl hn;go_wp2_with fail;go_quiet (fail);go_wp2_with fail;go_ret;exact⟨by rw[HN.out];rfl,_,World.drewN_drewN ..⟩
def hasB(d:List UInt8)(place:Int):Bool:=decide (0≤place)&&decide (place<(d.length:Int))
theorem LV(F:Nat)(A:Option Addr)(c:Nat)(d:List UInt8)(dict nice:Int)(mp:Nat)(v4:Value)(place:Int)(w:World)(hF:cZ w F A c d dict nice mp v4):
  Calls prog 228 #[PF F,.int .i64 place] w fun e w'=>e= .returned (.bool (hasB d place))∧w=w':=by
 obtain⟨c0,_,_,_,_⟩:=hF.cells;clear hF;unfold hasB;by_cases h1:0≤place
 ·by_cases h2:place<(d.length:Int);·have e:(decide (0≤place)&&decide (place<(d.length:Int)))=true:=(by simp[h1,h2]);rw[e];clear e;go_enter func228,ntmps228;go_wp2_with fail;go_ret;exact⟨rfl,rfl⟩
  ·have e:(decide (0≤place)&&decide (place<(d.length:Int)))=false:=(by simp[h2]);rw[e];clear e;go_enter func228,ntmps228;go_wp2_with fail;go_ret;exact⟨rfl,rfl⟩
 ·have e:(decide (0≤place)&&decide (place<(d.length:Int)))=false:=by simp[h1]
  rw[e];clear e;go_enter func228,ntmps228;go_wp2_with fail;go_ret;exact⟨rfl,rfl⟩
def eo(d:List UInt8)(dict place bM most:Int):Nat:=
 if 0≤place∧place<(d.length:Int)∧1≤bM∧bM≤place∧bM≤dict then bu d place.toNat (place.toNat-bM.toNat) (Cg d place.toNat (min 273 most))else 0
theorem ym(F:Nat)(A:Option Addr)(c:Nat)(d:List UInt8)(dict nice:Int)(mp:Nat)(v4:Value)(place bM most:Int)(w:World)(hF:cZ w F A c d dict nice mp v4):
  Calls prog 192 #[PF F,.int .i64 place,.int .i64 bM,.int .i64 most] w fun e w'=>e= .returned (.int .i64 (eo d dict place bM most:Nat))∧ ∃m,w'=w.drewN m:=by
 obtain⟨c0,c1,_,_,_⟩:=hF.cells;have HH:=ae (LV F A c d dict nice mp v4 place w hF);have qw:(d.length:Int)≤100000:=am hF.small;have Jr:d.length≤100000:=hF.small;unfold eo;by_cases h1:0≤place∧place<(d.length:Int);case neg=>
  have hh:hasB d place=false:=by
   unfold hasB;cases h:(decide (0≤place)&&decide (place<(d.length:Int)))with
   | false=>rfl
   | true=>simp at h;exact absurd h h1
  rw[hh]at HH;rw[if_neg (fun h=>h1 ⟨h.1,h.2.1⟩)];clear h1 hh hF;go_enter func192,ntmps192;go_wp2_with fail;refine HH.out.mono ?_;rintro e w1 ⟨rfl,rfl⟩;go_wp2_with fail;go_ret;exact⟨rfl,0,rfl⟩
 have hh:hasB d place=true:=by unfold hasB;simp[h1.1,h1.2]
 rw[hh]at HH;by_cases h2:1≤bM;case neg=>rw[if_neg (fun h=>h2 h.2.2.1)];have b2:decide (bM<1)=true:=decide_eq_true aa;clear h1 hh hF h2;go_enter func192,ntmps192;go_wp2_with fail;refine HH.out.mono ?_;rintro e w1 ⟨rfl,rfl⟩;go_wp2_with fail;go_ret;exact⟨rfl,0,rfl⟩
 have b2:decide (bM<1)=false:=decide_eq_false aa;have⟨MN,hmn⟩:=ex (min place dict:Int);by_cases h3:bM≤place∧bM≤dict;case neg=>rw[if_neg (fun h=>h3 ⟨h.2.2.2.1,h.2.2.2.2⟩)];have b3:decide (MN<bM)=true:=decide_eq_true aa;clear h1 hh hF h2 h3;go_enter func192,ntmps192;go_wp2_with fail;refine HH.out.mono ?_;rintro e w1 ⟨rfl,rfl⟩;go_wp2_with fail;go_ret;exact⟨rfl,0,rfl⟩
 have b3:decide (MN<bM)=false:=decide_eq_false aa;rw[if_pos ⟨h1.1,h1.2,h2,h3.1,h3.2⟩];obtain⟨p,hp⟩: ∃p:Nat,place=(p:Int):=⟨place.toNat,aa⟩
 obtain⟨k,hk⟩: ∃k:Nat,bM=(k:Int):=⟨bM.toNat,aa⟩
 subst hp;subst hk;simp only[Int.toNat_natCast];have⟨q,hq⟩:=ex (p-k:Nat);have hqi:(p:Int)-(k:Int)=(q:Int):=aa;have AU:(p:Int)≤100000:=aa;have vo:(p:Int)<(d.length:Int):=h1.2;have Js:(k:Int)≤(p:Int):=h3.1;have⟨E,hE⟩:=ex (bu d p (p-k) (Cg d p (min 273 most)));rw[hE];have⟨X,hX⟩:=ex ((d.length:Int)-(p:Int):Int);have key: ∀M:Int,min (min 273 most) X=M→Hid (Calls prog 232 #[PF F,.int .i64 (p:Nat),.int .i64 (q:Nat),.int .i64 M] w fun e w'=>e= .returned (.int .i64 (E:Nat))∧ ∃m,w'=w.drewN m):=fun M hM=>ae (by
  have h:=FZ F A c d dict nice mp v4 p q M w hF aa aa;have e:bu d p q M.toNat=E:=by rw[←hE,hq];congr 1;unfold Cg;rw[hX,hM]
  rw[e]at h;exact h)
 clear h1 hh hF h2 h3 hq hE;by_cases g1:most<273
 ·by_cases g2:X<most;·have HSA:=key X aa;clear key;go_enter func192,ntmps192;go_wp2_with fail;refine HH.out.mono ?_;rintro e w1 ⟨rfl,rfl⟩;go_wp2_with fail;refine HSA.out.mono ?_;rintro e w1 ⟨rfl,m,rfl⟩;go_wp2_with fail;go_ret;exact⟨rfl,_,rfl⟩
  ·have HSA:=key most aa;clear key;go_enter func192,ntmps192;go_wp2_with fail;refine HH.out.mono ?_;rintro e w1 ⟨rfl,rfl⟩;go_wp2_with fail;refine HSA.out.mono ?_;rintro e w1 ⟨rfl,m,rfl⟩;go_wp2_with fail;go_ret;exact⟨rfl,_,rfl⟩
 ·by_cases g2:X<273;·have HSA:=key X aa;clear key;go_enter func192,ntmps192;go_wp2_with fail;refine HH.out.mono ?_;rintro e w1 ⟨rfl,rfl⟩;go_wp2_with fail;refine HSA.out.mono ?_;rintro e w1 ⟨rfl,m,rfl⟩;go_wp2_with fail;go_ret;exact⟨rfl,_,rfl⟩
  ·have HSA:=key 273 aa;clear key;go_enter func192,ntmps192;go_wp2_with fail;refine HH.out.mono ?_;rintro e w1 ⟨rfl,rfl⟩;go_wp2_with fail;refine HSA.out.mono ?_;rintro e w1 ⟨rfl,m,rfl⟩;go_wp2_with fail;go_ret;exact⟨rfl,_,rfl⟩
section
open Go.RowKit Go.Maps
theorem yn{w:World}{base n:Nat}{t:TypeId}{g:Nat}{xs:List Value}(h:w.ownsRow base t 1 (.slice (some ⟨g,0,none⟩) n n) n xs):w.heap[g]? =some (.cells xs.toArray t (0,0)):=by
 obtain⟨hl,⟨h,_⟩ | ⟨g',cap,cur,e,_,hg,_,_,dl,ht⟩⟩:=h;·cases h
 ·injection e with e1 _ e3;injection e1 with e1;injection e1 with e1;subst e1;subst e3;rw[Nat.mul_one]at hl dl ht;have:cur.toList=xs:=by rw[←ht,List.take_of_length_le av]
  rw[hg,←this]
theorem Xz(n:Nat):(madeCells (Value.int .i32 0).cells (n*1)).toList=List.replicate n (Value.int .i32 0):=by rw[Nat.mul_one,show(Value.int .i32 0).cells= #[Value.int .i32 0]from rfl,toList_madeCells_one]
theorem XA:(prog.info? 21).map (fun i=>(i.zero,i.size,i.bytes))=some (some (.int .i32 0),1,4):=ai
theorem wA{ops:Array Oper}{rest:List Oper}{o:Oper}{a:Act}{Q:Exit→Act→World→Prop}(mb:o.guard=none)(x y:Operand)(ho:o.op= .makeSlice 139 x y)
  (n:Nat) (w:World) (hx:a.eval x= .int .i64 (n:Nat)) (hy:a.eval y= .int .i64 (n:Nat)) (hn:n≤1000000)
  (h: ∀w',w'.heap[w.heap.size]? =some (.cells (List.replicate n (Value.int .i32 0)).toArray 21 (0,0))→w.grownBy w' none→wpList prog ops Q rest (a.put o.dst (.slice (some ⟨w.heap.size,0,none⟩) n n)) w'):wpList prog ops Q (o::rest) a w:=by
 refine wpList_plain mb fun K hK=> ?_;obtain⟨i,hi,kw,eQ,oC⟩:=info_parts XA;obtain⟨w',hr,h1,h2⟩:=run_make_full (P:=prog) w w.heap.size 139 21 i (.int .i32 0) 1 underlying139 hi kw eQ .i64 .i64 n mW fF (Nat.le_refl _);rw[Xz]at h1;unfold Oper.wp execOp;simp only[ho,hx,hy,Sem.run_bind,Sem.run_pure,Result.andThen_ok,hr];exact hK _ _ (h w' (yn h1) h2)
def four(d:List UInt8)(i:Nat):UInt8×UInt8×UInt8×UInt8:=(d.getD i 0,d.getD (i+1) 0,d.getD (i+2) 0,d.getD (i+3) 0)
def bC(d:List UInt8)(x:UInt8×UInt8×UInt8×UInt8):Nat→Int
 | 0=> -1
 | n+1=>if four d n=x then(n:Int)else bC d x n
theorem jv(d:List UInt8)(x:UInt8×UInt8×UInt8×UInt8): ∀n,-1≤bC d x n∧bC d x n<(n:Int)∨n=0∧bC d x n= -1
 | 0=> .inr ⟨rfl,rfl⟩
 | n+1=>by
  unfold bC;split;·left;omega
  ·rcases jv d x n with h | ⟨h,e⟩
   ·left;omega
   ·left;rw[e];omega
def il(d:List UInt8)(n:Nat):List Value:=(List.range n).map fun i=>Value.int .i32 (bC d (four d i) i)
def gB(w:World)(b:Nat)(d:List UInt8)(n:Nat):Prop:=
 ∃D:DataW Unit,w.ownsMap prog 212 (plainElem prog 21) b n D∧
  ∀x:UInt8×UInt8×UInt8×UInt8,(Maps.has D (Jp x.1 x.2.1 x.2.2.1 x.2.2.2)=true↔0≤bC d x n)∧(0≤bC d x n→D.atKey (Jp x.1 x.2.1 x.2.2.1 x.2.2.2) (.lit (.int .i32 0))= .lit (.int .i32 (bC d x n)))
theorem gB.aA{w w':World}{b n:Nat}{d:List UInt8}(h:gB w b d n)(hb:w'.heap[b]? =w.heap[b]?):gB w' b d n:=by obtain⟨D,⟨es,clock,h1,r⟩,h2⟩:=h;exact⟨D,⟨es,clock,hb.trans h1,r⟩,h2⟩
theorem gB.made(w:World)(d:List UInt8):gB (w.alloc (.map #[] 0)) w.heap.size d 0:=
 ⟨_,World.ownsMap_made w prog _ _,fun x=>⟨by simp[Maps.has,bC],fun h=>by simp[bC]at h⟩⟩
noncomputable abbrev LX(x:UInt8×UInt8×UInt8×UInt8):Lit:=Jp x.1 x.2.1 x.2.2.1 x.2.2.2
abbrev yo(x:UInt8×UInt8×UInt8×UInt8):Value:=qN x.1 x.2.1 x.2.2.1 x.2.2.2
theorem Nq{x y:UInt8×UInt8×UInt8×UInt8}(h:LX x=LX y):x=y:=by obtain⟨h1,h2,h3,h4⟩:=R6 h;obtain⟨a,b,c,d⟩:=x;obtain⟨a',b',c',d'⟩:=y;simp_all
theorem XB(w:World):(zeroValue 21).run prog w= .ok (.int .i32 0) w:=by first | rfl | simp[zeroValue]
theorem aa3{z:Int}(h0: -1≤z)(h1:z≤1000000):(Lit.int .i32 z).wf=true:=by have e1:IntKind.i32.min= -2147483648:=rfl;have e2:IntKind.i32.max=2147483647:=rfl;simp[Lit.wf,e1,e2];omega
def seen(d:List UInt8)(x:UInt8×UInt8×UInt8×UInt8)(n:Nat):Bool:=decide (0≤bC d x n)
theorem gB.look{w:World}{b n:Nat}{d:List UInt8}(h:gB w b d n)(x:UInt8×UInt8×UInt8×UInt8): ∃c:Int,(Instr.lookup 211 (.map (some b)) (yo x) true).run prog w= .ok (.tuple #[.int .i32 c,.bool (seen d x n)]) w∧(seen d x n=true→c=bC d x n):=by
 obtain⟨D,h1,h2⟩:=h;obtain⟨v,ps,hr,hv⟩:=h1.look_ok DN underlying211 (XB w) (plainElem_int (H:=Unit) underlying21 (aa3 aa aa)) (mE x.1 x.2.1 x.2.2.1 x.2.2.2);obtain⟨c,rfl,hc,_⟩:=plainElem_int_inv underlying21 hv;have e:Maps.has D (Jp x.1 x.2.1 x.2.2.1 x.2.2.2)=seen d x n:=by rw[Bool.eq_iff_iff,(h2 x).1];simp[seen]
 refine⟨c,by rw[hr,e],fun hs=> ?_⟩;have hs:0≤bC d x n:=by simpa [seen]using hs
 have e2:=(h2 x).2 hs;have e3:=congrArg Prod.fst hc;simp only at e3;rw[e2]at e3;injection e3 with e3;injection e3 with _ e3;exact e3.symm
theorem gB.put{w:World}{b n:Nat}{d:List UInt8}(h:gB w b d n)(hn:n≤100000): ∃w',(Instr.mapUpdate 211 (.map (some b)) (yo (four d n)) (.int .i32 (n:Nat))).run prog w= .ok () w'∧gB w' b d (n+1)∧w.mapTurned w' b:=by
 obtain⟨D,h1,h2⟩:=h;obtain⟨w',hr,ho,ht⟩:=h1.store DN underlying211 fF (mE (four d n).1 (four d n).2.1 (four d n).2.2.1 (four d n).2.2.2) (plainElem_int (H:=Unit) underlying21 (a:=(n:Nat)) (aa3 aa aa));have hk:=DN.key (mE (four d n).1 (four d n).2.1 (four d n).2.2.1 (four d n).2.2.2);refine⟨w',hr,⟨_,ho,fun x=> ?_⟩,ht⟩;by_cases hx:four d n=x;·subst hx;rw[has_put_same h1.isMap hk,atKey_put_same h1.isMap hk];simp[bC]
 ·have dH:LX x≠LX (four d n):=fun e=>hx (Nq e).symm;have e:bC d x (n+1)=bC d x n:=by rw[bC,if_neg hx]
  rw[e,has_put_other dH,atKey_put_other dH];exact h2 x
theorem uA(d:List UInt8)(k:Nat):(il d k).length=k:=by simp[il]
theorem Ch(d:List UInt8)(n k:Nat)(hk:k<n)(z:Int)(hz:z=bC d (four d k) k):((il d k)++List.replicate (n-k) (Value.int .i32 0)).set k (.int .i32 z)=il d (k+1)++List.replicate (n-(k+1)) (Value.int .i32 0):=by
 have e:n-k=(n-(k+1))+1:=aa;rw[e,List.replicate_succ,List.set_append_right _ _ (by rw[uA];exact Nat.le_refl _),uA,Nat.sub_self,List.set_cons_zero,hz];have e2:il d (k+1)=il d k++[.int .i32 (bC d (four d k) k)]:=by simp[il,List.range_succ]
 rw[e2,List.append_assoc];rfl
end
def chain(d:List UInt8)(x:UInt8×UInt8×UInt8×UInt8):Nat→List Nat
 | 0=>[]
 | n+1=>if four d n=x then n::chain d x n else chain d x n
theorem nj(d:List UInt8)(x:UInt8×UInt8×UInt8×UInt8)(n:Nat):chain d x (n+1)=if four d n=x then n::chain d x n else chain d x n:=rfl
theorem yp: ∀{n},bC d x n<0→chain d x n=[]
 | 0,_=>rfl
 | n+1,h=>by
  unfold bC at h;rw[nj];split at h;·omega
  ·rename_i hx;rw[if_neg hx];exact yp h
theorem yq: ∀{n},bC d x n=(j:Int)→chain d x n=j::chain d x j∧j<n∧four d j=x
 | 0,h=>by simp[bC]at h
 | n+1,h=>by
  unfold bC at h;rw[nj];split at h;·rename_i hx;obtain rfl:n=j:=aa;rw[if_pos hx];exact⟨rfl,aa,hx⟩
  ·rename_i hx;rw[if_neg hx];obtain⟨h1,h2,h3⟩:=yq h;exact⟨h1,aa,h3⟩
theorem kC: ∀{n},j∈chain d x n↔j<n∧four d j=x
 | 0=>by simp[chain]
 | n+1=>by
  rw[nj];split
  ·rename_i hx;rw[List.mem_cons,kC];constructor
   ·rintro(rfl | ⟨h1,h2⟩);·exact⟨aa,hx⟩
    ·exact⟨aa,h2⟩
   ·rintro⟨h1,h2⟩;rcases Nat.lt_or_ge j n with h | h;·exact .inr ⟨h,h2⟩
    ·exact .inl aa
  ·rename_i hx;rw[kC];constructor;·rintro⟨h1,h2⟩;exact⟨aa,h2⟩
   ·rintro⟨h1,h2⟩;rcases Nat.lt_or_ge j n with h | h;·exact⟨h,h2⟩
    ·obtain rfl:j=n:=(by omega);exact absurd h2 hx
theorem pa(d:List UInt8)(x:UInt8×UInt8×UInt8×UInt8): ∀n,(chain d x n).Pairwise (· > ·)
 | 0=>List.Pairwise.nil
 | n+1=>by
  rw[nj];split;·exact List.pairwise_cons.2 ⟨fun j hj=>(kC.1 hj).1,pa d x n⟩
  ·exact pa d x n
theorem F0(h:4≤bu d p q L):four d q=four d p:=by have hi:=(d9 d L p q).eq;have h0:=hi 0 aa;have h1:=hi 1 aa;have h2:=hi 2 aa;have h3:=hi 3 aa;simp only[Nat.add_zero]at h0;unfold four;rw[h0,h1,h2,h3]
theorem F1(h:2≤bu d p q L):d.getD q 0=d.getD p 0∧d.getD (q+1) 0=d.getD (p+1) 0:=by have hi:=(d9 d L p q).eq;have h0:=hi 0 aa;have h1:=hi 1 aa;simp only[Nat.add_zero]at h0;exact⟨h0.symm,h1.symm⟩
def places(d:List UInt8)(a b:UInt8)(n:Nat):List Nat:=(List.range n).filter fun i=>d.getD i 0==a&&d.getD (i+1) 0==b
theorem vC(d:List UInt8)(a b:UInt8)(n:Nat):places d a b (n+1)=places d a b n++(if d.getD n 0=a∧d.getD (n+1) 0=b then [n]else []):=by
 unfold places;rw[List.range_succ,List.filter_append];congr 1;by_cases h:d.getD n 0=a∧d.getD (n+1) 0=b
 ·have e:(d.getD n 0==a&&d.getD (n+1) 0==b)=true:=by rw[h.1,h.2];simp
  rw[if_pos h];simp only[List.filter_cons,List.filter_nil,e,if_true]
 ·rw[if_neg h];simp only[List.filter_cons,List.filter_nil];rw[if_neg];intro h2;simp at h2;exact h (by simpa using h2)
theorem nk{a b:UInt8}{i:Nat}:i∈places d a b n↔i<n∧d.getD i 0=a∧d.getD (i+1) 0=b:=by unfold places;rw[List.mem_filter,List.mem_range];simp only[Bool.and_eq_true,beq_iff_eq]
theorem vD(d:List UInt8)(a b:UInt8)(n:Nat):(places d a b n).Pairwise (· < ·):=List.Pairwise.filter _ (List.pairwise_lt_range)
def aT(b:Nat)(w:World)(v:Value):Prop:= ∃t,w.heap[b]? =some (.cells [v].toArray t (0,0))
theorem aT.cell(h:aT b w v):w.cell? ⟨b,0,none⟩=some v:=by obtain⟨t,h⟩:=h;rw[cell_of_row w b _ _ _ _ h];rfl
theorem aT.aA(h:aT b w v)(hb:w'.heap[b]? =w.heap[b]?):aT b w' v:=by obtain⟨t,h⟩:=h;exact⟨t,hb.trans h⟩
theorem aT.made(w:World)(v:Value)(t:TypeId):aT w.heap.size (w.alloc (.cells #[v] t)) v:=⟨t,heap_alloc_last _ _⟩
def R7(F:Nat)(place:Int)(w:World)(e:Ending)(w':World):Prop:= ∃b1 b2,e= .returned (.func (.func 252) #[] #[PF b1,PF b2])∧aT b1 w' (PF F)∧aT b2 w' (.int .i64 place)∧w.heap.size≤b1∧w.heap.size≤b2∧Below w.heap.size w w'
theorem yr(F:Nat)(place:Int)(w:World):Calls prog 230 #[PF F,.int .i64 place] w (R7 F place w):=by
 have⟨W1,fv⟩:=ex (w.alloc (.cells #[PF F] 97));have⟨W2,mc⟩:=ex (W1.alloc (.cells #[.int .i64 place] 3));have az:Below w.heap.size w W1:=CY;have aD:Below W1.heap.size W1 W2:=C0;have jA:aT w.heap.size W1 (PF F):=by rw[←fv];exact aT.made _ _ _
 have fL:aT W1.heap.size W2 (.int .i64 place):=by rw[←mc];exact aT.made _ _ _
 have aH:w.heap.size<W1.heap.size:=xz;have HH:=ae (And.intro az (And.intro aD (And.intro jA (And.intro fL aH))));have oQ:=ae fv;have Ay:=ae mc;have dl:Hid (W1.heap.size=w.heap.size+1):=ae xz;clear fv mc az aD jA fL aH;go_enter func230,ntmps230;go_wp2_with fail;rw[oQ.out,Ay.out];go_ret;refine⟨w.heap.size,W1.heap.size,?_,HH.out.2.2.1.aA (HH.out.2.1.block _ HH.out.2.2.2.2),HH.out.2.2.2.1,Nat.le_refl _,Nat.le_of_lt HH.out.2.2.2.2,HH.out.1.trans (HH.out.2.1.mono (Nat.le_of_lt HH.out.2.2.2.2))⟩;first | rfl | (rw[dl.out];rfl)
theorem XC(x:Int)(w:World):Calls prog 273 #[.int .i32 x] w fun e w'=>e= .returned (.bool false)∧w=w':=by go_enter func273,ntmps273;go_wp2_with fail;go_ret;exact⟨rfl,rfl⟩
theorem R9(x:Int)(w:World):Calls prog 267 #[.int .i32 x] w fun e w'=>e= .returned (.bool false)∧w=w':=by go_enter func267,ntmps267;go_wp2_with fail;go_ret;exact⟨rfl,rfl⟩
theorem Sa(x y:Int)(w:World):Calls prog 266 #[.int .i32 x,.int .i32 y] w fun e w'=>e= .returned (.bool (decide (x<y)))∧w=w':=by have HN:=ae XC;generalize hb:decide (x<y)=b;go_enter func266,ntmps266;go_wp2_with fail;refine(HN.out _ _).mono ?_;rintro e w1 ⟨rfl,rfl⟩;go_wp2_with fail;go_ret;exact⟨rfl,rfl⟩
def pc(w:World)(A:Option Addr)(l:List Nat):Prop:= ∀i (h:i<l.length),∃g,A=some ⟨g,0,none⟩∧w.cell? ⟨g,i,none⟩=some (.int .i32 (l[i]:Nat))
def Jt(l:List Nat)(x:Nat)(w:World)(e:Ending)(w':World):Prop:=(∃(i:Nat) (b:Bool),e= .returned (.tuple #[.int .i64 (i:Nat),.bool b])∧i≤l.length∧(∀q (h:q<l.length),q<i→l[q]<x)∧(∀q (h:q<l.length),i≤q→x≤l[q]))∧w=w'
theorem Ju(A:Option Addr)(l:List Nat)(c x:Nat)(w:World)(hA:pc w A l)(hl:l.length≤100000)(hc:l.length≤c)(hs:l.Pairwise (· < ·)):
  Calls prog 253 #[.slice A l.length c,.int .i32 (x:Nat)] w (Jt l x w):=by
 have qw:(l.length:Int)≤100000:=aa;have pW:(l.length:Int)≤(c:Int):=aa;have HA:=ae hA;have sH:=ae Sa;have HNA:=ae R9;have HSO:Hid (∀p q (hp:p<l.length) (hq:q<l.length),p<q→l[p]<l[q]):=ae (fun p q hp hq h=>List.pairwise_iff_getElem.1 hs p q hp hq h);clear hA hs hc;go_enter func253,ntmps253;go_wp2_with fail;go_loopw [7,8] (fun a b wr=> ∃i j:Nat,i≤j∧j≤l.length∧a= .int .i64 (i:Nat)∧b= .int .i64 (j:Nat)∧Hid (∀q (h:q<l.length),q<i→l[q]<x)∧Hid (∀q (h:q<l.length),j≤q→x≤l[q])∧wr=w) (fun a b _=>(intOf b).toNat-(intOf a).toNat);case atStart=>exact⟨0,l.length,aa,Nat.le_refl _,rfl,rfl,ae (fun q _ h=>aa),ae (fun q h h2=>aa),rfl⟩
 case round=>
  obtain⟨i,j,hij,hj,rfl,rfl,H1,H2,rfl⟩:=hrel;by_cases aH:i<j
  ·have Jv:(i:Int)<(j:Int):=(by omega);have hj4:(j:Int)≤100000:=aa;have⟨m,hm⟩:=ex ((i+j)/2:Nat);have un:m<l.length:=aa;have EN:(m:Int)<(l.length:Int):=aa;obtain⟨g,rfl,hcell⟩:=HA.out m un;have e1:((i:Int)+(j:Int))/2=(m:Int):=aa;have HH:=ae (show i≤m∧m<j by omega);have⟨y,hy⟩:=ex (l[m]);rw[hy]at hcell;have HY:=ae hy;clear hy hm;by_cases hyx:y<x
   ·have hb:decide ((y:Int)<(x:Int))=true:=decide_eq_true aa;have VK:=ae (sH.out (y:Int) (x:Int) wr);rw[hb]at VK;have H3:Hid (∀q (h:q<l.length),q<m+1→l[q]<x):=ae (fun q hq h2=>by
     rcases Nat.lt_or_ge q m with h3 | h3;·have:=HSO.out q m hq un h3;have:=HY.out;omega
     ·obtain rfl:q=m:=(by omega);have:=HY.out;omega)
    clear hb;go_wp2_with fail;refine VK.out.mono ?_;rintro e w1 ⟨rfl,rfl⟩;go_wp2_with fail;exact⟨⟨m+1,j,am HH.out,hj,aE,rfl,H3,H2,by trivial⟩,by have:=HH.out;simp[intOf];omega⟩
   ·have hb:decide ((y:Int)<(x:Int))=false:=decide_eq_false aa;have VK:=ae (sH.out (y:Int) (x:Int) wr);rw[hb]at VK;have H3:Hid (∀q (h:q<l.length),m≤q→x≤l[q]):=ae (fun q hq h2=>by
     rcases Nat.lt_or_ge m q with h3 | h3;·have:=HSO.out m q un hq h3;have:=HY.out;omega
     ·obtain rfl:q=m:=(by omega);have:=HY.out;omega)
    clear hb;go_wp2_with fail;refine VK.out.mono ?_;rintro e w1 ⟨rfl,rfl⟩;go_wp2_with fail;exact⟨⟨i,m,am HH.out,aa,rfl,rfl,H1,H3,by trivial⟩,by have:=HH.out;simp[intOf];omega⟩
  ·obtain rfl:i=j:=(by omega);have hi4:(i:Int)≤100000:=aa;by_cases hil:i<l.length
   ·have ame:(i:Int)<(l.length:Int):=(by omega);obtain⟨g,rfl,hcell⟩:=HA.out i hil;have⟨y,hy⟩:=ex (l[i]);rw[hy]at hcell;clear hy;by_cases hyx:y=x;·subst hyx;go_wp2_with fail;go_ret2;exact⟨⟨i,true,rfl,hj,H1.out,H2.out⟩,rfl⟩
    ·have hb:((y:Int)==(x:Int))=false:=(by rw[beq_eq_false_iff_ne];omega);go_wp2_with fail;refine(HNA.out _ _).mono ?_;rintro e w1 ⟨rfl,rfl⟩;go_wp2_with fail;go_ret2;exact⟨⟨i,false,rfl,hj,H1.out,H2.out⟩,rfl⟩
   ·have ame: ¬(i:Int)<(l.length:Int):=(by omega);go_wp2_with fail;go_ret2;exact⟨⟨i,false,rfl,hj,H1.out,H2.out⟩,rfl⟩
section
open Go.RowKit Go.Shelf
attribute [local go_sem] Oper.semAt_some
theorem Jw{w:World}{B n:Nat}{d:List UInt8}(h:w.heap[B]? =some (.cells (il d n).toArray 21 (0,0)))(i:Nat)(hi:i<n):w.cell? ⟨B,i,none⟩=some (.int .i32 (bC d (four d i) i)):=by rw[cell_of_row w B _ _ _ _ h];simp[il,hi]
theorem Sb(F:Fence)(n:Nat)(ot:F.fn 252)(kv:F.round=none)(hn:1≤n)(Fp:Nat)(A:Option Addr)(c:Nat)(d:List UInt8)(dict nice:Int)(mp B N:Nat)(b1 b2 place:Nat)(w:World)
  (hF:cZ w Fp A c d dict nice mp (.slice (some ⟨B,0,none⟩) N N)) (hB:w.heap[B]? =some (.cells (il d N).toArray 21 (0,0))) (jA:aT b1 w (PF Fp)) (fL:aT b2 w (.int .i64 (place:Nat))) (hp:place<N) (hN:N≤d.length):
  LO F n prog 252 #[PF b1,PF b2] (chain d (four d place) place) w:=by
 intro l J Jx W VQ hJD hXD hY h0;have oo:=VQ _ _ h0;have HC:Hid (∀W,Below w.heap.size w W→W.cell? ⟨b1,0,none⟩=some (PF Fp)∧W.cell? ⟨b2,0,none⟩=some (.int .i64 (place:Nat))∧W.cell? ⟨Fp,4,none⟩=some (.slice (some ⟨B,0,none⟩) N N)∧ ∀i,i<N→W.cell? ⟨B,i,none⟩=some (.int .i32 (bC d (four d i) i))):=ae (fun W hb=>by
  have xT:b1<w.heap.size:=by obtain⟨t,h⟩:=jA;exact(cr h)
  have wY:b2<w.heap.size:=by obtain⟨t,h⟩:=fL;exact(cr h)
  exact⟨(jA.aA (hb.block _ xT)).cell,(fL.aA (hb.block _ wY)).cell,(hF.below hb).cells.2.2.2.2,fun i hi=>Jw ((hb.block _ (cr hB)).trans hB) i hi⟩)
 have HY:=ae hY;have HJB:=ae VQ;have HJD:=ae hJD;have HXD:=ae hXD;have AU:(place:Int)<(N:Int):=aa;have hNi:(N:Int)≤100000:=am hF.small;have DJ:=ae (And.intro hp hN);obtain⟨c1,c2,c3,c4⟩:=HC.out W oo;have c5:=c4 place hp;have HLB:Hid (∀m,m≤place→ -1≤bC d (four d place) m∧bC d (four d place) m<place∨bC d (four d place) m= -1):=ae (fun m hm=>by
  rcases jv d (four d place) m with h | ⟨_,h⟩
  ·left;omega
  ·right;exact h)
 have Na:=ae h0;have⟨x,hx⟩:=ex (four d place);rw[hx]at c5 HLB ⊢;rw[hx]at HY;have VR:=ae hx;clear hF hB jA fL VQ hJD hXD hY h0 hp hN c4 hx;refine callsIn_of_wp func252 rfl ot ?_ kv;simp only[ntmps252,List.size_toArray,List.length_cons,List.length_nil,Nat.reduceAdd,Nat.reduceSub,Array.replicate_succ,Array.replicate_zero,List.push_toArray,List.append_toArray,List.nil_append,List.cons_append]
 gi_wp2
 refine wpIn_region_quiet_lit kv ai ai ?_;repeat (gi_big_quiet_step (fail))
 refine wpQuietIn_nil ?_;rintro _ ⟨nq,rfl⟩
 gi_wp2
 gi_loopw [4] (fun v wr=> ∃(pre:List Nat) (m:Nat) (q:Int),v= .int .i32 q∧Hid (q=bC d x m)∧Hid (chain d x place=pre++chain d x m)∧m≤place∧J pre wr) (fun v _=>(intOf v+1).toNat)
 case atStart=>exact⟨[],place,_,rfl,rfl,rfl,Nat.le_refl _,HJD.out _ _ _ Na.out⟩
 case round=>
  obtain⟨pre,m,q,rfl,HQ,HL,hm,wB⟩:=hrel;clear c1 c2 c3 c5;have ZI:=HLB.out m hm;rw[←HQ.out]at ZI;have HJS:=ae wB;by_cases Qe:q= -1
  ·subst Qe;have HE:Hid (pre=chain d x place):=ae (by
    rw[HL.out,yp (by rw[←HQ.out];decide),List.append_nil])
   clear ZI wB
   gi_wp2
   refine⟨(fun _ h=>nomatch h),?_⟩
   gi_wp2
   go_end0;exact⟨⟨_,rfl⟩,.inl (by rw[←HE.out];exact HJS.out)⟩
  ·obtain⟨j,rfl⟩: ∃j:Nat,q=(j:Int):=⟨q.toNat,aa⟩
   obtain⟨e1,e2,e3⟩:=yq HQ.out.symm;have Dj:(j:Int)<(place:Int):=aa;have dH:((j:Int)== -1)=false:=C1;obtain⟨fn,tmps,assign,body,hy,hR⟩:=HY.out pre j (chain d x j) wr (by rw[HL.out,e1]) wB;have Sc:Hid (chain d x place=(pre++[j])++chain d x j):=ae (by rw[HL.out,e1];simp);have HJP:Hid (j≤place):=ae aa;have HJX:Hid (four d j=x):=ae e3;clear e1 e2 e3 ZI Qe wB
   gi_wp2
   refine hR.mono ?_;rintro e W3 (⟨rfl,EW⟩ | ⟨rfl,rz⟩)
   ·obtain⟨c1,c2,c3,c4⟩:=HC.out W3 (HJB.out _ _ EW);have c5:=c4 j (by have:=HJP.out;have:=DJ.out;omega);rw[HJX.out]at c5;have hjN:(j:Int)<(N:Int):=aa;have HJ3:=ae EW;clear c4 EW;have⟨q2,WN⟩:=ex (bC d x j);have auP:q2<(j:Int):=by rcases jv d x j with h | ⟨_,h⟩<;>omega
    rw[WN]at c5;have Qf:Hid (q2=bC d x j):=ae WN.symm;clear WN
    gi_wp2
    go_roundw;case rel=>exact⟨pre++[j],j,q2,rfl,Qf,Sc,HJP.out,HJ3.out⟩
    case measure=>simp[intOf];omega
   ·have XD:=ae rz;clear rz
    gi_wp2
    go_end0;exact⟨⟨_,rfl⟩,.inr XD.out⟩
theorem XE{w:World}{a:Addr}{v:Value}(h:w.cell? a=some v):a.block<w.heap.size:=by obtain⟨o,ho,_⟩:=cells_of_cell h;exact(cr ho)
theorem pc.below{w w':World}{A:Option Addr}{l:List Nat}(h:pc w A l)(hb:Below w.heap.size w w'):pc w' A l:=by intro i hi;obtain⟨g,hA,hc⟩:=h i hi;exact⟨g,hA,(hb.cell (p:=⟨g,i,none⟩) (XE hc)).trans hc⟩
theorem Sd(F:Fence)(n:Nat)(ot:F.fn 254)(kv:F.round=none)(hn:1≤n)(A:Option Addr)(c:Nat)(l:List Nat)(b1 b2 h:Nat)(w:World)
  (hA:pc w A l) (hc:l.length≤c) (hl:l.length≤100000) (hs: ∀x∈l,x≤100000) (jA:aT b1 w (.int .i64 (h:Nat))) (fL:aT b2 w (.slice A l.length c)) (hh:h≤l.length):
  LO F n prog 254 #[PF b1,PF b2] (l.take h).reverse w:=by
 intro ll J Jx W VQ hJD hXD hY h0;have oo:=VQ _ _ h0;have HC:Hid (∀W,Below w.heap.size w W→W.cell? ⟨b1,0,none⟩=some (.int .i64 (h:Nat))∧W.cell? ⟨b2,0,none⟩=some (.slice A l.length c)∧pc W A l):=ae (fun W hb=>by
  have xT:b1<w.heap.size:=by obtain⟨t,h⟩:=jA;exact(cr h)
  have wY:b2<w.heap.size:=by obtain⟨t,h⟩:=fL;exact(cr h)
  exact⟨(jA.aA (hb.block _ xT)).cell,(fL.aA (hb.block _ wY)).cell,hA.below hb⟩)
 have HY:=ae hY;have HJB:=ae VQ;have HJD:=ae hJD;have HS:=ae (fun(i:Nat) (hi:i<l.length)=>hs _ (List.getElem_mem hi));have pW:(l.length:Int)≤(c:Int):=aa;have qw:(l.length:Int)≤100000:=aa;have Z9:(h:Int)≤(l.length:Int):=aa;obtain⟨c1,c2,_⟩:=HC.out W oo;have Na:=ae h0;clear hA jA fL VQ hJD hXD hY h0 hc hs;refine callsIn_of_wp func254 rfl ot ?_ kv;simp only[ntmps254,List.size_toArray,List.length_cons,List.length_nil,Nat.reduceAdd,Nat.reduceSub,Array.replicate_succ,Array.replicate_zero,List.push_toArray,List.append_toArray,List.nil_append,List.cons_append]
 gi_wp2
 gi_loopw [4] (fun v wr=> ∃(pre:List Nat) (m:Nat),v= .int .i64 ((m:Int)-1)∧Hid ((l.take h).reverse=pre++(l.take m).reverse)∧m≤h∧J pre wr) (fun v _=>(intOf v+1).toNat)
 case atStart=>exact⟨[],h,rfl,rfl,Nat.le_refl _,Na.out⟩
 case round=>
  obtain⟨pre,m,rfl,HL,hm,wB⟩:=hrel;clear c1 c2;have HJS:=ae wB;cases m with
  | zero=>
   have HE:Hid (pre=(l.take h).reverse):=ae (by rw[HL.out];simp);clear wB
   gi_wp2
   refine⟨(fun _ h=>nomatch h),?_⟩
   gi_wp2
   go_end0;exact⟨⟨_,rfl⟩,.inl (by rw[←HE.out];exact HJS.out)⟩
  | succ j=>
   have ub:j<l.length:=aa;have e1:(l.take (j+1)).reverse=l[j]::(l.take j).reverse:=(by rw[List.take_add_one,List.getElem?_eq_getElem ub];simp);obtain⟨_,c2,c3⟩:=HC.out wr (HJB.out _ _ wB);obtain⟨g,rfl,c4⟩:=c3 j ub;have hx:=HS.out j ub;have⟨x,hxe⟩:=ex (l[j]);rw[hxe]at e1 hx c4;obtain⟨fn,tmps,assign,body,hy,hR⟩:=HY.out pre x (l.take j).reverse wr (by rw[HL.out,e1]) wB;have Sc:Hid ((l.take h).reverse=(pre++[x])++(l.take j).reverse):=ae (by rw[HL.out,e1];simp);have Dj:(j:Int)<(l.length:Int):=aa;have Z8:(x:Int)≤100000:=aa;have ej:((j+1:Nat):Int)-1=(j:Int):=aa;rw[ej];have HJH:Hid (j≤h):=ae aa;clear e1 c3 wB hxe ej hm ub hx
   gi_wp2
   refine hR.mono ?_;rintro e W3 (⟨rfl,EW⟩ | ⟨rfl,rz⟩)
   ·have HJ3:=ae EW;clear EW
    gi_wp2
    go_roundw;case rel=>exact⟨pre++[x],j,rfl,Sc,HJH.out,HJ3.out⟩
    case measure=>simp[intOf]
   ·have XD:=ae rz;clear rz
    gi_wp2
    go_end0;exact⟨⟨_,rfl⟩,.inr XD.out⟩
end
end Go.Proofs.YtfcaoggfnkhfiaaGreatDoor
