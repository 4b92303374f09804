import Derived.Test.YtgfpocdiojifoaaGreatDoorZ01
import Derived.RangeFuncNested
import Derived.RangeFuncBound
import Derived.RangeFuncCalls
import Derived.RangeFuncLeaves
import Derived.RangeFuncKeeps
import Derived.Sort.BigQuietIn
import Derived.Test.YtgfpocdiojifoaaGreatDoorRows
import Derived.WideKeyArr
import Derived.WideKeyEntry
import Derived.Maps.OwnSet
import Derived.Lib.MinMax
import Derived.Maps.OwnOps
import Derived.Shelf.Abstract
import Derived.Shelf.RegionOpen
import Derived.OwnWalkIn
import Derived.TacticsInMore
import Derived.LoopNIn
import Derived.LoopIn
namespace Go.Proofs.YtgfpocdiojifoaaGreatDoor
set_option maxRecDepth 100000
set_option maxHeartbeats 8000000
open Go.RowKit Go.Proofs.Tryz
variable{dict nice:Int}{d:List UInt8}{D F L b c j k m mp n p q:Nat}{f:Nat→Nat}{S:Nat→Prop}{A:Option Addr}{x:UInt8×UInt8×UInt8×UInt8}{v v4:Value}{w w':World}
def aU(d:List UInt8):Nat→Nat→Nat→Nat
 | _,_,0=>0
 | p,q,L+1=>if d.getD p 0=d.getD q 0 then aU d (p+1) (q+1) L+1 else 0
structure rP(d:List UInt8)(p q L n:Nat):Prop where
 le:n≤L
 eq: ∀i,i<n→d.getD (p+i) 0=d.getD (q+i) 0
 stop:n=L∨d.getD (p+n) 0≠d.getD (q+n) 0
theorem rP.unique(h:rP d p q L n)(k:rP d p q L m):n=m:=by
 rcases Nat.lt_trichotomy n m with aF | e | aF
 ·rcases h.stop with e | e;·have:=k.le;omega
  ·exact absurd (k.eq n aF) e
 ·exact e
 ·rcases k.stop with e | e;·have:=h.le;omega
  ·exact absurd (h.eq m aF) e
theorem dO(d:List UInt8): ∀(L p q:Nat),rP d p q L (aU d p q L)
 | 0,p,q=>⟨Nat.le_refl _,(fun i h=>absurd h (Nat.not_lt_zero i)),.inl rfl⟩
 | L+1,p,q=>by
  unfold aU;by_cases h:d.getD p 0=d.getD q 0
  ·rw[if_pos h];have ih:=dO d L (p+1) (q+1);refine⟨ar ih.le,fun i hi=> ?_,?_⟩
   ·cases i with
    | zero=>exact h
    | succ i=>
     have:=ih.eq i aa;rw[show p+1+i=p+(i+1) by omega,show q+1+i=q+(i+1) by omega]at this;exact this
   ·rcases ih.stop with e | e;·exact .inl aa
    ·rw[show p+1+aU d (p+1) (q+1) L=p+(aU d (p+1) (q+1) L+1) by omega,show q+1+aU d (p+1) (q+1) L=q+(aU d (p+1) (q+1) L+1) by omega]at e;exact .inr e
  ·rw[if_neg h];exact⟨Nat.zero_le _,(fun i hi=>absurd hi (Nat.not_lt_zero i)),.inr h⟩
theorem rP.is(h:rP d p q L n):n=aU d p q L:=h.unique (dO d L p q)
def py(d:List UInt8)(p:Nat)(most:Int):Nat:=(min most ((d.length:Int)-(p:Int))).toNat
theorem ZE(d:List UInt8)(p:Nat)(most:Int)(h:p≤d.length):p+py d p most≤d.length:=by unfold py;omega
theorem ZF{most:Int}:n<py d p most↔(n:Int)<most∧(p:Int)+(n:Int)<(d.length:Int):=by unfold py;omega
def bX(f:Nat→Nat):Nat→Nat×Nat
 | 0=>(0,0)
 | D+1=>if(bX f D).1<f (D+1)then(f (D+1),D+1)else bX f D
def fU(l:List UInt8)(dict nice:Int)(p:Nat)(most:Int):Nat×Nat:=
 if(bX (fun k=>aU l p (p-k) (py l p (min nice most))) (min (p:Int) dict).toNat).1<2 then(0,0)else bX (fun k=>aU l p (p-k) (py l p (min nice most))) (min (p:Int) dict).toNat
structure wY(f:Nat→Nat)(D n k:Nat):Prop where
 le: ∀j,1≤j→j≤D→f j≤n
 lt: ∀j,1≤j→j<k→f j<n
 at_:(n=0∧k=0)∨(1≤k∧k≤D∧f k=n∧0<n)
theorem iN(f:Nat→Nat): ∀D,wY f D (bX f D).1 (bX f D).2
 | 0=>⟨fun j h1 h2=>aa,fun j h1 h2=>by simp[bX]at h2,.inl ⟨rfl,rfl⟩⟩
 | D+1=>by
  have ih:=iN f D;unfold bX;by_cases h:(bX f D).1<f (D+1)
  ·rw[if_pos h];refine⟨fun j h1 h2=> ?_,fun j h1 h2=> ?_,.inr ⟨ae,ae,rfl,by show 0<f (D+1);omega⟩⟩
   ·show f j≤f (D+1);rcases Nat.lt_or_ge j (D+1)with h3 | h3;·have:=ih.le j h1 aa;omega
    ·obtain rfl:j=D+1:=(by omega);exact Nat.le_refl _
   ·have h2:j<D+1:=h2;show f j<f (D+1);have:=ih.le j h1 aa;omega
  ·rw[if_neg h];refine⟨fun j h1 h2=> ?_,ih.lt,?_⟩
   ·rcases Nat.lt_or_ge j (D+1)with h3 | h3;·exact ih.le j h1 aa
    ·obtain rfl:j=D+1:=(by omega);omega
   ·rcases ih.at_ with e | ⟨e1,e2,e3⟩
    ·exact .inl e
    ·exact .inr ⟨e1,aa,e3⟩
theorem wY.unique{n' k':Nat}(h:wY f D n k)(h':wY f D n' k'):n=n'∧k=k':=by
 have hn:n=n':=by
  rcases h.at_ with⟨e1,e2⟩ | ⟨e1,e2,e3,e4⟩
  ·rcases h'.at_ with⟨e1',_⟩ | ⟨a1,a2,a3,a4⟩
   ·omega
   ·have:=h.le k' a1 a2;omega
  ·rcases h'.at_ with⟨a1,_⟩ | ⟨a1,a2,a3,a4⟩
   ·have:=h'.le k e1 e2;omega
   ·have b1:=h.le k' a1 a2;have b2:=h'.le k e1 e2;omega
 refine⟨hn,?_⟩;subst hn;rcases h.at_ with⟨e1,e2⟩ | ⟨e1,e2,e3,e4⟩
 ·rcases h'.at_ with⟨_,a2⟩ | ⟨a1,a2,a3,a4⟩
  ·omega
  ·omega
 ·rcases h'.at_ with⟨a1,_⟩ | ⟨a1,a2,a3,a4⟩
  ·omega
  ·rcases Nat.lt_trichotomy k k' with aF | e | aF;·have:=h'.lt k e1 aF;omega
   ·exact e
   ·have:=h.lt k' a1 aF;omega
structure dw(S:Nat→Prop)(f:Nat→Nat)(n k:Nat):Prop where
 le: ∀j,S j→f j≤n
 lt: ∀j,S j→j<k→f j<n
 at_:(n=0∧k=0)∨(S k∧f k=n∧0<n)
theorem dw.none(f:Nat→Nat):dw (fun _=>False) f 0 0:=⟨fun _ h=>h.elim,fun _ h=>h.elim,.inl ⟨rfl,rfl⟩⟩
theorem dw.iff{T:Nat→Prop}(h:dw S f n k)(e: ∀j,T j↔S j):dw T f n k:=
 ⟨fun j hj=>h.le j ((e j).1 hj),fun j hj=>h.lt j ((e j).1 hj),h.at_.imp id fun⟨a,b⟩=>⟨(e k).2 a,b⟩⟩
theorem dw.skip(h:dw S f n k)(hj: ∀s,S s→s<j)(hf:f j≤n):dw (fun x=>S x∨x=j) f n k:=by
 refine⟨?_,?_,?_⟩
 ·rintro x (hx | rfl);·exact h.le x hx
  ·exact hf
 ·rintro x (hx | rfl) aF;·exact h.lt x hx aF
  ·rcases h.at_ with⟨_,e⟩ | ⟨e,_⟩
   ·omega
   ·have:=hj k e;omega
 ·rcases h.at_ with e | ⟨e,e2⟩
  ·exact .inl e
  ·exact .inr ⟨.inl e,e2⟩
theorem dw.take(h:dw S f n k)(hj: ∀s,S s→s<j)(hf:n<f j):dw (fun x=>S x∨x=j) f (f j) j:=by
 refine⟨?_,?_,.inr ⟨.inr rfl,rfl,aa⟩⟩
 ·rintro x (hx | rfl);·have:=h.le x hx;omega
  ·exact Nat.le_refl _
 ·rintro x (hx | rfl) aF;·have:=h.le x hx;omega
  ·omega
theorem ir(d:List UInt8)(p q L:Nat):aU d p q L≤L:=(dO d L p q).le
theorem Lp(h:d.getD (q+n) 0≠d.getD (p+n) 0):aU d p q L≤n:=by
 rcases Nat.lt_or_ge n (aU d p q L)with hl | hl;·exact absurd ((dO d L p q).eq n hl).symm h
 ·exact hl
theorem dw.all(h:dw S f n k)(hS: ∀j,S j→1≤j∧j≤D)(hm: ∀j,1≤j→j≤D→m≤f j→S j)(hn:m≤n)(h0:0<m):wY f D n k:=by
 refine⟨fun j h1 h2=> ?_,fun j h1 h2=> ?_,?_⟩
 ·rcases Nat.lt_or_ge (f j) m with h3 | h3;·omega
  ·exact h.le j (hm j h1 h2 h3)
 ·rcases h.at_ with⟨e,_⟩ | ⟨e,_⟩
  ·omega
  ·have hk:=(hS k e).2;rcases Nat.lt_or_ge (f j) m with h3 | h3;·omega
   ·exact h.lt j (hm j h1 aa h3) h2
 ·rcases h.at_ with e | ⟨e,e2,e3⟩
  ·omega
  ·exact .inr ⟨(hS k e).1,(hS k e).2,e2,e3⟩
theorem Eb{M:Nat}(hM:M≤L):aU d p q M=min (aU d p q L) M:=by
 have h:=dO d L p q;refine(rP.is (n:=min (aU d p q L) M) ⟨Nat.min_le_right _ _,fun i hi=>h.eq i aa,?_⟩).symm;rcases Nat.lt_or_ge (aU d p q L) M with hl | hl
 ·rw[Nat.min_eq_left aa];rcases h.stop with e | e;·omega
  ·exact .inr e
 ·exact .inl aa
section
open Go Go.RowKit
variable{F:Fence}{n:Nat}{P:Program}
def Kf(F:Fence)(n:Nat)(P:Program)(g:Nat)(lb:Array Value)(L:List Nat)(w:World):Prop:=
 ∀(l:Nat) (J:List Nat→World→Prop) (Jx:World→Prop) (W:World),(∀s W,J s W→Below w.heap.size w W)→(∀s W m,J s W→J s (W.drewN m))→(∀W m,Jx W→Jx (W.drewN m))→
  (∀pre x t W1,L=pre++x::t→J pre W1→YieldAt F (n-1) P l #[.int .i64 (x:Nat)] W1 fun e W'=>
   (e= .returned (.bool true)∧J (pre++[x]) W')∨(e= .returned (.bool false)∧Jx W'))→
  J [] W→
  CallsIn F n P g (#[.func (.yield l) #[] #[]]++lb) W fun e W'=>(∃v,e= .returned v)∧(J L W'∨Jx W')
def P9(I:List Nat→World→Prop)(Ix:Code→World→Prop)(xs:List Nat)(W:World):Exit→Act→World→Prop
 | .normal,_,W'=>KeepsOthers W W'∧I xs W'
 | .exit id,_,W'=>KeepsOthers W W'∧Ix (.exit id) W'
 | _,_,_=>False
theorem ze{g:Operand}{ps:Array Tmp}{assign body:Code}{Q:Exit→Act→World→Prop}{a:Act}{w:World}
  (kp:F.round=none) (h1:1≤n) {gf:Nat} {lb:Array Value} (hg:a.eval g= .func (.func gf) #[] lb) (hFg:F.fn gf) (eg: ∀args w,(callFunc gf args).run P w= .ok (.enter gf args) w)
  {L:List Nat} {w0:World} (Ec:Kf F (n-1) P gf lb L w0) (C6:ps.size=1)
  (I:List Nat→World→Prop) (Ix:Code→World→Prop)
  (hIa: ∀s W o,I s W→I s (W.alloc o)) (Qa: ∀s W l o o',I s W→w.heap.size≤l→W.heap[l]? =some o→o.isCells=false→I s (W.putObj l o')) (hIb: ∀s W,I s W→Below w0.heap.size w0 W) (hId: ∀s W m,I s W→I s (W.drewN m))
  (hXp: ∀c W l o o',Ix c W→w.heap.size≤l→W.heap[l]? =some o→o.isCells=false→Ix c (W.putObj l o')) (hXd: ∀c W m,Ix c W→Ix c (W.drewN m)) (h0:I [] w) (a₁:Nat→Act)
  (rQ: ∀(l:Nat) (x:Nat) (W:World) (K:Act→World→Prop),K (a₁ x) W→
   assign.wpIn (F.inRound l) (n-1-1) P (Exit.then K (fun _ _ _=>False)) {tmps:=(ps.zip #[.int .i64 (x:Nat)]).foldl (fun t (p,v)=>t.setIfInBounds p v) a.tmps,defers:=[]} W)
  (Ed: ∀(l:Nat) (pre:List Nat) (x:Nat) (t:List Nat) (W:World),L=pre++x::t→I pre W→body.wpIn (F.inRound l) (n-1-1) P (P9 I Ix (pre++[x]) W) (a₁ x) W)
  (tV: ∀(D:Nat) (W:World),w.heap.size≤D→I L W→W.heap[D]? =some (.deferred (some []))→Q .normal {a with defers:={target:= .collected D,args:= #[]}::a.defers} W)
  (Ee: ∀(D:Nat) (c:Code) (W:World),w.heap.size≤D→Ix c W→W.heap[D]? =some (.deferred (some []))→c.wpIn F n P Q {a with defers:={target:= .collected D,args:= #[]}::a.defers} W):
  (Code.rangeFunc g ps assign body).wpIn F n P Q a w:=by
 refine wpIn_rangeFunc fun fn F3=> ?_;rw[kp];obtain⟨rec,eT⟩: ∃rec:LoopState→Option Code→Loop,rec=fun st pe=>{state:=st,pending:=pe,fn,tmps:=a.tmps,params:=ps,assign,body,defers:=w.heap.size}:=⟨_,rfl⟩
 have⟨W1,dE⟩:=ex ((w.alloc (.deferred (some []))).alloc (.loop (rec .ready none)));have UZ:W1.heap[w.heap.size+1]? =some (.loop (rec .ready none)):=by rw[←dE];have:=World.alloc_heap_new (w.alloc (.deferred (some []))) (.loop (rec .ready none));rwa [World.size_alloc]at this
 have Xw:W1.heap[w.heap.size]? =some (.deferred (some [])):=by rw[←dE];exact(Below.heap_alloc _ _ _ ae).trans (World.alloc_heap_new w _)
 have hI1:I [] W1:=Ge
 refine⟨w.heap.size+1,[{target:= .collected w.heap.size,args:= #[]}],W1,{target:= .fn (.func gf) lb,args:= #[.func (.yield (w.heap.size+1)) #[] #[]]},W1,gf,
  #[.func (.yield (w.heap.size + 1)) #[] #[]] ++ lb, W1, ?_, ?_, ?_, ?_, fun _ => h1, ?_⟩
 ·rw[←dE,eT];exact run_enterLoop_outer _ _ _ _ _
 ·simp only[resolve,hg];simp[go_sem]
 ·intro f' Xx;simp[Target.leads]at Xx;subst Xx;exact hFg
 ·simp[invoke,go_sem,eg]
 ·refine(Ec (w.heap.size+1)
   (fun pre W=>I pre W∧W.heap[w.heap.size+1]? =some (.loop (rec .ready none))∧W.heap[w.heap.size]? =some (.deferred (some [])))
   (fun W=> ∃c,Ix c W∧W.heap[w.heap.size+1]? =some (.loop (rec .done (some c)))∧W.heap[w.heap.size]? =some (.deferred (some [])))
   W1 (fun s W hs=>hIb s W hs.1) (fun s W m hs=>⟨hId s W m hs.1,hs.2.1,hs.2.2⟩) (fun W m hs=>by obtain⟨c,h⟩:=hs;exact⟨c,hXd c W m h.1,h.2.1,h.2.2⟩) ?_ ⟨hI1,UZ,Xw⟩).mono ?_
  ·rintro pre x t W jv ⟨hi,hl,hk⟩;have aF:w.heap.size+1<W.heap.size:=(cr hl)
   have hy:=run_yield (P:=P) (args:= #[.int .i64 (x:Nat)]) hl (by rw[eT];simp[C6]);rw[eT]at hy;refine⟨fn,_,assign,body,hy,roundIn_of_wpIn F3 (rQ _ x W _ ⟨_,run_beginRound hl (by rw[eT]),?_⟩)⟩;have qT:(W.putObj (w.heap.size+1) (.loop {rec .ready none with state:= .busy})).heap[w.heap.size+1]? =some (.loop {rec .ready none with state:= .busy}):=World.putObj_heap_same aF;have my:(W.putObj (w.heap.size+1) (.loop {rec .ready none with state:= .busy})).heap[w.heap.size]? =some (.deferred (some [])):=(World.putObj_heap_other aa).trans hk;refine wpIn_mono (Ed _ pre x t _ jv (Qa _ _ _ _ _ hi aa hl rfl)) ?_
   have fin: ∀(jump:Option Code) (W3:World),KeepsOthers (W.putObj (w.heap.size+1) (.loop {rec .ready none with state:= .busy})) W3→
     (Instr.endRound (w.heap.size+1) jump).run P W3= .ok (.bool jump.isNone) (W3.putObj (w.heap.size+1) (.loop (rec (if jump.isNone then .ready else .done) jump)))∧
     W3.heap[w.heap.size+1]? =some (.loop {rec .ready none with state:= .busy})∧
     (W3.putObj (w.heap.size+1) (.loop (rec (if jump.isNone then .ready else .done) jump))).heap[w.heap.size+1]? =some (.loop (rec (if jump.isNone then .ready else .done) jump))∧
     (W3.putObj (w.heap.size+1) (.loop (rec (if jump.isNone then .ready else .done) jump))).heap[w.heap.size]? =some (.deferred (some [])):=fun jump W3 qU=>by
    have rR:=qU.same _ _ qT rfl;have:=run_endRound (P:=P) jump rR;rw[eT]at this ⊢;exact⟨this,by rw[eT]at rR;exact rR,World.putObj_heap_same (cr rR),(World.putObj_heap_other aa).trans (qU.same _ _ my rfl)⟩
   rintro e a3 W3 hp;cases e with
   | normal=>
    obtain⟨qU,UU⟩:=hp;obtain⟨hr,rR,yD,TV⟩:=fin none W3 qU;exact⟨_,_,hr,.inl ⟨rfl,Qa _ _ _ _ _ UU aa rR rfl,yD,TV⟩⟩
   | exit id=>
    obtain⟨qU,UU⟩:=hp;obtain⟨hr,rR,yD,TV⟩:=fin (some (.exit id)) W3 qU;exact⟨_,_,hr,.inr ⟨rfl,.exit id,hXp _ _ _ _ _ UU aa rR rfl,yD,TV⟩⟩
   | ret=>exact hp.elim
   | goto t=>exact hp.elim
   | panic ch=>exact hp.elim
   | outgrown=>exact hp.elim
  ·rintro e W2 ⟨⟨v,rfl⟩,⟨hi,hl,hk⟩ | ⟨c,hi,hl,hk⟩⟩;·exact⟨none,_,Gf,tV _ _ (Nat.le_refl _) (Qa _ _ _ _ _ hi aa hl rfl) ((World.putObj_heap_other aa).trans hk)⟩
   ·exact⟨some c,_,Gf,Ee _ c _ (Nat.le_refl _) (hXp _ _ _ _ _ hi aa hl rfl) ((World.putObj_heap_other aa).trans hk)⟩
def rT:List Oper→Bool
 | []=>true
 | o::l=>(match o.op with | .defer _=>false | _=>true)&&rT l
theorem t6: ∀{l:List Oper},rT l=true→ ∀o∈l,∀c,o.op≠ .defer c
 | [],_,o,ho=>by cases ho
 | o'::l,h,o,ho=>by
  rw[rT,Bool.and_eq_true]at h;intro c e;rcases List.mem_cons.1 ho with rfl | ho;·have:=h.1;rw[e]at this;cases this
  ·exact t6 h.2 o ho c e
theorem zg{md:Region.Mode}{l:List Oper}{Q:Exit→Act→World→Prop}{r:Nat}(kp:F.round=none)(hd:rT l=true): ∀(fuel:Nat) (listed:Array Bool) (a:Act) (w:World),wpAnyIn F n P md l.toArray Q fuel listed a w→wpAnyIn (F.inRound r) n P md l.toArray Q fuel listed a w:=by
 intro fuel;induction fuel with
 | zero=>exact fun listed a w h=>h
 | succ fuel ih=>
  intro listed a w h;refine⟨h.1,fun i hi=> ?_⟩;have hs:=h.2 i hi;unfold wpOpIn at hs ⊢;split;·rename_i ho;simp only[ho]at hs;exact ih _ _ _ hs
  ·rename_i o ho;simp only[ho]at hs;have hm:o∈l:=(by have:l[i]? =some o:=(by simpa using ho);exact List.mem_of_getElem? this);split;·rename_i hw;simp only[hw,if_true]at hs;refine Oper.wpIn_mono (K:=wpAnyIn F n P md l.toArray Q fuel (listed.setIfInBounds i true)) (fun a w h=>ih _ _ _ h) ?_;unfold Oper.wpIn at hs ⊢;rw[kp,Oper.semAt_none]at hs;rw[Fence.inRound_round,Oper.semAt_some _ _ _ (t6 hd o hm)];exact hs
   ·rename_i hw;rw[if_neg hw]at hs;exact⟨hs.1,ih _ _ _ hs.2⟩
theorem dC{id r:Nat}{Q:Exit→Act→World→Prop}{a:Act}{w:World}{l:List Oper}(kp:F.round=none)(hm:P.follows .mixedOrders=true)(hB:Region.lexB .any l.toArray=true)(hd:rT l=true)
  (h:wpQuietIn F n P l.toArray (fun w'=> ∃n,w'=w.drewN n) (fun a'=> ∀w',(∃n,w'=w.drewN n)→Q .normal a' w') l a):(Code.region id l.toArray true).wpIn (F.inRound r) n P Q a w:=by
 have gX:=hB;simp only[Region.lexB,Bool.and_eq_true]at gX;refine wpIn_region_any hm (zg kp hd _ _ _ _ (wpAnyIn_of_quiet (C:=fun w'=> ∃n,w'=w.drewN n) (Q:=fun a'=> ∀w',(∃n,w'=w.drewN n)→Q .normal a' w') kp (fun _ w' hw' h=>h w' hw') _ _ _ _ ⟨1,rfl⟩ ?_));have:=wpAnyQIn_lex (F:=F) (n:=n) (C:=fun w'=> ∃n,w'=w.drewN n) (md:= .any) gX.1 l 0 (Array.replicate l.toArray.size false) a ae (by simpa using gX.2) h;simpa using this
end
section
open Go.Maps Go.WideMaps
theorem U0:ArrKey prog 189 5 2:=⟨underlying189,ak,vT,ak⟩
theorem adu:ArrKey prog 191 5 4:=⟨underlying191,ak,vT,ak⟩
theorem G3:Keyed prog 189:=Keyed.of_law U0.law
theorem BL:Keyed prog 191:=Keyed.of_law adu.law
def mZ(a b:UInt8):Value:= .agg #[.int .u8 (a.toNat:Nat),.int .u8 (b.toNat:Nat)]
def pS(a b c d:UInt8):Value:= .agg #[.int .u8 (a.toNat:Nat),.int .u8 (b.toNat:Nat),.int .u8 (c.toNat:Nat),.int .u8 (d.toNat:Nat)]
theorem Lq{a b a' b':UInt8}(h:mZ a b=mZ a' b'):a=a'∧b=b':=by unfold mZ at h;simp at h;exact⟨UInt8.toNat_inj.1 aa,UInt8.toNat_inj.1 aa⟩
theorem Lr{a b c d a' b' c' d':UInt8}(h:pS a b c d=pS a' b' c' d'):a=a'∧b=b'∧c=c'∧d=d':=by unfold pS at h;simp at h;exact⟨UInt8.toNat_inj.1 aa,UInt8.toNat_inj.1 aa,UInt8.toNat_inj.1 aa,UInt8.toNat_inj.1 aa⟩
theorem Qb(a:UInt8):(Lit.int .u8 (a.toNat:Nat)).wf=true:=by have h:=a.toNat_lt;have e1:IntKind.u8.min=0:=rfl;have e2:IntKind.u8.max=255:=rfl;simp[Lit.wf,e1,e2];omega
theorem kt2:prog.keyType 189=true:=ak
theorem kt4:prog.keyType 191=true:=ak
theorem Xy: ∃m,prog.types.size=m+1:=⟨prog.types.size-1,ak⟩
theorem adv(a b:UInt8): ∃l,keyOf prog 189 (mZ a b)=some l:=by obtain⟨m,hm⟩:=Xy;unfold keyOf mZ;rw[underlying189,hm];simp[kt2,Value.formed,underlying189,U0.size,Program.keyLits,underlying5,vT,Value.cells,Qb,List.range_succ,List.mapM_cons]
theorem adw(a b c d:UInt8): ∃l,keyOf prog 191 (pS a b c d)=some l:=by obtain⟨m,hm⟩:=Xy;unfold keyOf pS;rw[underlying191,hm];simp[kt4,Value.formed,underlying191,adu.size,Program.keyLits,underlying5,vT,Value.cells,Qb,List.range_succ,List.mapM_cons]
noncomputable def Ls(a b:UInt8):Lit:=Classical.choose (adv a b)
theorem jU(a b:UInt8):keyOf prog 189 (mZ a b)=some (Ls a b):=Classical.choose_spec (adv a b)
theorem Qc{a b a' b':UInt8}(h:Ls a b=Ls a' b'):a=a'∧b=b':=Lq (G3.inj (jU a b) (h▸jU a' b'))
noncomputable def G4(a b c d:UInt8):Lit:=Classical.choose (adw a b c d)
theorem lK(a b c d:UInt8):keyOf prog 191 (pS a b c d)=some (G4 a b c d):=Classical.choose_spec (adw a b c d)
theorem Qd{a b c d a' b' c' d':UInt8}(h:G4 a b c d=G4 a' b' c' d'):a=a'∧b=b'∧c=c'∧d=d':=Lr (BL.inj (lK a b c d) (h▸lK a' b' c' d'))
end
structure cZ(w:World)(F:Nat)(A:Option Addr)(c:Nat)(d:List UInt8)(dict nice:Int)(mp:Nat)(v4:Value):Prop where
 box:w.heap[F]? =some (.cells [.slice A d.length c,.int .i64 dict,.int .i64 nice,.map (some mp),v4].toArray 113 (0,0))
 bytes:Bytes w A d
 cap:d.length≤c
 small:d.length≤100000
theorem cZ.lt(h:cZ w F A c d dict nice mp v4):F<w.heap.size:=(cr h.box)
theorem cZ.below(h:cZ w F A c d dict nice mp v4)(hb:Below w.heap.size w w'):cZ w' F A c d dict nice mp v4:=
 ⟨(hb.block _ h.lt).trans h.box,h.bytes.below hb,h.cap,h.small⟩
theorem cZ.drewN(h:cZ w F A c d dict nice mp v4)(m:Nat):cZ (w.drewN m) F A c d dict nice mp v4:=h.below (below_drewN (Below.refl _ _) m)
theorem cZ.cells(h:cZ w F A c d dict nice mp v4):w.cell? ⟨F,0,none⟩=some (.slice A d.length c)∧w.cell? ⟨F,1,none⟩=some (.int .i64 dict)∧w.cell? ⟨F,2,none⟩=some (.int .i64 nice)∧w.cell? ⟨F,3,none⟩=some (.map (some mp))∧w.cell? ⟨F,4,none⟩=some v4:=by refine⟨?_,?_,?_,?_,?_⟩<;>(rw[cell_of_row w F _ _ _ _ h.box];rfl)
theorem Ef(F:Nat)(A:Option Addr)(c:Nat)(d:List UInt8)(dict nice:Int)(mp:Nat)(v4:Value)(p q:Nat)(lm:Int)(w:World)(hF:cZ w F A c d dict nice mp v4)(hp:p+lm.toNat≤d.length)(hq:q≤p):
  Calls prog 202 #[PF F,.int .i64 (p:Nat),.int .i64 (q:Nat),.int .i64 lm] w fun e w'=>e= .returned (.int .i64 (aU d p q lm.toNat:Nat))∧ ∃m,w'=w.drewN m:=by
 obtain⟨c0,_,_,_,_⟩:=hF.cells;have Qe:=hdd (fun(h:0<d.length)=>hF.bytes.addr h);have sQ:(d.length:Int)≤100000:=ar hF.small;have tY:(d.length:Int)≤(c:Int):=ar hF.cap;have⟨L,hL⟩:=ex (lm.toNat);rw[hL]at hp ⊢;have HL:Hid (∀n:Nat,n<L↔(n:Int)<lm):=hdd (fun n=>aa);have HU:=hdd (fun n (h:rP d p q L n)=>h.is);have⟨E,hE⟩:=ex (aU d p q L);rw[hE]at HU ⊢;have HPQ:=hdd (And.intro hp hq);clear hF hL hE hp hq;go_enter func202,ntmps202;go_wp2_with fail;go_loopw [9] (fun i wr=> ∃(n m:Nat),n≤L∧i= .int .i64 (n:Nat)∧Hid (∀i,i<n→d.getD (p+i) 0=d.getD (q+i) 0)∧wr=w.drewN m) (fun i _=>L-(intOf i).toNat);case atStart=>exact⟨0,0,aa,rfl,hdd (fun i h=>by cases h),rfl⟩
 case round=>
  obtain⟨n,m,hn,rfl,wZ,rfl⟩:=hrel;by_cases BM:n<L
  ·have h1:=(HL.out n).1 BM;obtain⟨b,off,rfl,_,bx⟩:=Qe.out (ar HPQ.out);have⟨x,hx⟩:=ex (p+n:Nat);have hxi:(p:Int)+(n:Int)=(x:Int):=aa;have⟨y,hy⟩:=ex (q+n:Nat);have hyi:(q:Int)+(n:Int)=(y:Int):=aa;have hxl:(x:Int)<(d.length:Int):=ar HPQ.out;have YU:(y:Int)<(d.length:Int):=ar HPQ.out;have cx:=bx x aa;have cy:=bx y aa;have HX:Hid (p+n=x∧q+n=y):=hdd ⟨hx,hy⟩;have sO:(n:Int)≤100000:=aa;have e1:=cY (d:=d) (i:=x) aa;have e2:=cY (d:=d) (i:=y) aa;generalize d[x]'aa=u at*;generalize d[y]'aa=v at*;have uL:=hdd (And.intro e1 e2);clear e1 e2 hx hy bx Qe;by_cases zh:u=v
   ·have ZG:((u.toNat:Int)==(v.toNat:Int))=true:=(by rw[zh];simp);have HQ:Hid (∀i,i<n+1→d.getD (p+i) 0=d.getD (q+i) 0):=hdd (fun i hi=>by
     rcases Nat.lt_or_ge i n with h | h;·exact wZ.out i h
     ·obtain rfl:i=n:=(by omega);rw[HX.out.1,HX.out.2,uL.out.1,uL.out.2,zh])
    clear zh;go_wp2_with fail;go_quiet (fail);go_wp2_with fail;exact⟨⟨n+1,_,aa,aq,HQ,rfl⟩,gt⟩
   ·have ZG:((u.toNat:Int)==(v.toNat:Int))=false:=(by rw[beq_eq_false_iff_ne];intro h;exact zh (UInt8.toNat_inj.1 aa));have HN:Hid (n=E):=hdd (HU.out n ⟨aa,wZ.out,.inr (by rw[HX.out.1,HX.out.2,uL.out.1,uL.out.2];exact zh)⟩);clear zh;go_wp2_with fail;go_quiet (fail);go_wp2_with fail;go_ret;exact⟨sW,_,World.drewN_drewN ..⟩
  ·obtain rfl:n=L:=(by omega);have HN:Hid (n=E):=hdd (HU.out n ⟨aa,wZ.out,.inl rfl⟩);have h1:decide ((n:Int)<lm)=false:=decide_eq_false (mt (HL.out n).2 BM);clear Qe BM hn;go_wp2_with fail;go_quiet (fail);go_wp2_with fail;go_ret;exact⟨sW,_,World.drewN_drewN ..⟩
def hasB(d:List UInt8)(place:Int):Bool:=decide (0≤place)&&decide (place<(d.length:Int))
theorem Kg(F:Nat)(A:Option Addr)(c:Nat)(d:List UInt8)(dict nice:Int)(mp:Nat)(v4:Value)(place:Int)(w:World)(hF:cZ w F A c d dict nice mp v4):
  Calls prog 198 #[PF F,.int .i64 place] w fun e w'=>e= .returned (.bool (hasB d place))∧w=w':=by
 obtain⟨c0,_,_,_,_⟩:=hF.cells;clear hF;unfold hasB;by_cases h1:0≤place
 ·by_cases h2:place<(d.length:Int);·have e:(decide (0≤place)&&decide (place<(d.length:Int)))=true:=(by simp[h1,h2]);rw[e];clear e;go_enter func198,ntmps198;go_wp2_with fail;go_ret;exact⟨rfl,rfl⟩
  ·have e:(decide (0≤place)&&decide (place<(d.length:Int)))=false:=(by simp[h2]);rw[e];clear e;go_enter func198,ntmps198;go_wp2_with fail;go_ret;exact⟨rfl,rfl⟩
 ·have e:(decide (0≤place)&&decide (place<(d.length:Int)))=false:=by simp[h1]
  rw[e];clear e;go_enter func198,ntmps198;go_wp2_with fail;go_ret;exact⟨rfl,rfl⟩
def df(d:List UInt8)(dict place de most:Int):Nat:=
 if 0≤place∧place<(d.length:Int)∧1≤de∧de≤place∧de≤dict then aU d place.toNat (place.toNat-de.toNat) (py d place.toNat (min 273 most))else 0
theorem xa(F:Nat)(A:Option Addr)(c:Nat)(d:List UInt8)(dict nice:Int)(mp:Nat)(v4:Value)(place de most:Int)(w:World)(hF:cZ w F A c d dict nice mp v4):
  Calls prog 161 #[PF F,.int .i64 place,.int .i64 de,.int .i64 most] w fun e w'=>e= .returned (.int .i64 (df d dict place de most:Nat))∧ ∃m,w'=w.drewN m:=by
 obtain⟨c0,c1,_,_,_⟩:=hF.cells;have HH:=hdd (Kg F A c d dict nice mp v4 place w hF);have sQ:(d.length:Int)≤100000:=ar hF.small;have N7:d.length≤100000:=hF.small;unfold df;by_cases h1:0≤place∧place<(d.length:Int);case neg=>
  have hh:hasB d place=false:=by
   unfold hasB;cases h:(decide (0≤place)&&decide (place<(d.length:Int)))with
   | false=>rfl
   | true=>simp at h;exact absurd h h1
  rw[hh]at HH;rw[if_neg (fun h=>h1 ⟨h.1,h.2.1⟩)];clear h1 hh hF;go_enter func161,ntmps161;go_wp2_with fail;refine HH.out.mono ?_;rintro e w1 ⟨rfl,rfl⟩;go_wp2_with fail;go_ret;exact⟨rfl,0,rfl⟩
 have hh:hasB d place=true:=by unfold hasB;simp[h1.1,h1.2]
 rw[hh]at HH;by_cases h2:1≤de;case neg=>rw[if_neg (fun h=>h2 h.2.2.1)];have b2:decide (de<1)=true:=decide_eq_true aa;clear h1 hh hF h2;go_enter func161,ntmps161;go_wp2_with fail;refine HH.out.mono ?_;rintro e w1 ⟨rfl,rfl⟩;go_wp2_with fail;go_ret;exact⟨rfl,0,rfl⟩
 have b2:decide (de<1)=false:=decide_eq_false aa;have⟨MN,hmn⟩:=ex (min place dict:Int);by_cases h3:de≤place∧de≤dict;case neg=>rw[if_neg (fun h=>h3 ⟨h.2.2.2.1,h.2.2.2.2⟩)];have b3:decide (MN<de)=true:=decide_eq_true aa;clear h1 hh hF h2 h3;go_enter func161,ntmps161;go_wp2_with fail;refine HH.out.mono ?_;rintro e w1 ⟨rfl,rfl⟩;go_wp2_with fail;go_ret;exact⟨rfl,0,rfl⟩
 have b3:decide (MN<de)=false:=decide_eq_false aa;rw[if_pos ⟨h1.1,h1.2,h2,h3.1,h3.2⟩];obtain⟨p,hp⟩: ∃p:Nat,place=(p:Int):=⟨place.toNat,aa⟩
 obtain⟨k,hk⟩: ∃k:Nat,de=(k:Int):=⟨de.toNat,aa⟩
 subst hp;subst hk;simp only[Int.toNat_natCast];have⟨q,hq⟩:=ex (p-k:Nat);have hqi:(p:Int)-(k:Int)=(q:Int):=aa;have rz:(p:Int)≤100000:=aa;have oO:(p:Int)<(d.length:Int):=h1.2;have BI:(k:Int)≤(p:Int):=h3.1;have⟨E,hE⟩:=ex (aU d p (p-k) (py d p (min 273 most)));rw[hE];have⟨X,hX⟩:=ex ((d.length:Int)-(p:Int):Int);have key: ∀M:Int,min (min 273 most) X=M→Hid (Calls prog 202 #[PF F,.int .i64 (p:Nat),.int .i64 (q:Nat),.int .i64 M] w fun e w'=>e= .returned (.int .i64 (E:Nat))∧ ∃m,w'=w.drewN m):=fun M hM=>hdd (by
  have h:=Ef F A c d dict nice mp v4 p q M w hF aa aa;have e:aU d p q M.toNat=E:=by rw[←hE,hq];congr 1;unfold py;rw[hX,hM]
  rw[e]at h;exact h)
 clear h1 hh hF h2 h3 hq hE;by_cases g1:most<273
 ·by_cases g2:X<most;·have N8:=key X aa;clear key;go_enter func161,ntmps161;go_wp2_with fail;refine HH.out.mono ?_;rintro e w1 ⟨rfl,rfl⟩;go_wp2_with fail;refine N8.out.mono ?_;rintro e w1 ⟨rfl,m,rfl⟩;go_wp2_with fail;go_ret;exact⟨rfl,_,rfl⟩
  ·have N8:=key most aa;clear key;go_enter func161,ntmps161;go_wp2_with fail;refine HH.out.mono ?_;rintro e w1 ⟨rfl,rfl⟩;go_wp2_with fail;refine N8.out.mono ?_;rintro e w1 ⟨rfl,m,rfl⟩;go_wp2_with fail;go_ret;exact⟨rfl,_,rfl⟩
 ·by_cases g2:X<273;·have N8:=key X aa;clear key;go_enter func161,ntmps161;go_wp2_with fail;refine HH.out.mono ?_;rintro e w1 ⟨rfl,rfl⟩;go_wp2_with fail;refine N8.out.mono ?_;rintro e w1 ⟨rfl,m,rfl⟩;go_wp2_with fail;go_ret;exact⟨rfl,_,rfl⟩
  ·have N8:=key 273 aa;clear key;go_enter func161,ntmps161;go_wp2_with fail;refine HH.out.mono ?_;rintro e w1 ⟨rfl,rfl⟩;go_wp2_with fail;refine N8.out.mono ?_;rintro e w1 ⟨rfl,m,rfl⟩;go_wp2_with fail;go_ret;exact⟨rfl,_,rfl⟩
section
open Go.RowKit Go.Maps
theorem xc{w:World}{base n:Nat}{t:TypeId}{g:Nat}{xs:List Value}(h:w.ownsRow base t 1 (.slice (some ⟨g,0,none⟩) n n) n xs):w.heap[g]? =some (.cells xs.toArray t (0,0)):=by
 obtain⟨hl,⟨h,_⟩ | ⟨g',cap,cur,e,_,hg,_,_,dJ,ht⟩⟩:=h;·cases h
 ·injection e with e1 _ e3;injection e1 with e1;injection e1 with e1;subst e1;subst e3;rw[Nat.mul_one]at hl dJ ht;have:cur.toList=xs:=by rw[←ht,List.take_of_length_le av]
  rw[hg,←this]
theorem U1(n:Nat):(madeCells (Value.int .i32 0).cells (n*1)).toList=List.replicate n (Value.int .i32 0):=by rw[Nat.mul_one,show(Value.int .i32 0).cells= #[Value.int .i32 0]from rfl,toList_madeCells_one]
theorem U2:(prog.info? 21).map (fun i=>(i.zero,i.size,i.bytes))=some (some (.int .i32 0),1,4):=ak
theorem uM{ops:Array Oper}{rest:List Oper}{o:Oper}{a:Act}{Q:Exit→Act→World→Prop}(qQ:o.guard=none)(x y:Operand)(ho:o.op= .makeSlice 111 x y)
  (n:Nat) (w:World) (hx:a.eval x= .int .i64 (n:Nat)) (hy:a.eval y= .int .i64 (n:Nat)) (hn:n≤1000000)
  (h: ∀w',w'.heap[w.heap.size]? =some (.cells (List.replicate n (Value.int .i32 0)).toArray 21 (0,0))→w.grownBy w' none→wpList prog ops Q rest (a.put o.dst (.slice (some ⟨w.heap.size,0,none⟩) n n)) w'):wpList prog ops Q (o::rest) a w:=by
 refine wpList_plain qQ fun K hK=> ?_;obtain⟨i,hi,nE,gU,qR⟩:=info_parts U2;obtain⟨w',hr,h1,h2⟩:=run_make_full (P:=prog) w w.heap.size 111 21 i (.int .i32 0) 1 underlying111 hi nE gU .i64 .i64 n mc gD (Nat.le_refl _);rw[U1]at h1;unfold Oper.wp execOp;simp only[ho,hx,hy,Sem.run_bind,Sem.run_pure,Result.andThen_ok,hr];exact hK _ _ (h w' (xc h1) h2)
def four(d:List UInt8)(i:Nat):UInt8×UInt8×UInt8×UInt8:=(d.getD i 0,d.getD (i+1) 0,d.getD (i+2) 0,d.getD (i+3) 0)
def bz(d:List UInt8)(x:UInt8×UInt8×UInt8×UInt8):Nat→Int
 | 0=> -1
 | n+1=>if four d n=x then(n:Int)else bz d x n
theorem i8(d:List UInt8)(x:UInt8×UInt8×UInt8×UInt8): ∀n,-1≤bz d x n∧bz d x n<(n:Int)∨n=0∧bz d x n= -1
 | 0=> .inr ⟨rfl,rfl⟩
 | n+1=>by
  unfold bz;split;·left;omega
  ·rcases i8 d x n with h | ⟨h,e⟩
   ·left;omega
   ·left;rw[e];omega
def gH(d:List UInt8)(n:Nat):List Value:=(List.range n).map fun i=>Value.int .i32 (bz d (four d i) i)
def fV(w:World)(b:Nat)(d:List UInt8)(n:Nat):Prop:=
 ∃D:DataW Unit,w.ownsMap prog 191 (plainElem prog 21) b n D∧
  ∀x:UInt8×UInt8×UInt8×UInt8,(Maps.has D (G4 x.1 x.2.1 x.2.2.1 x.2.2.2)=true↔0≤bz d x n)∧(0≤bz d x n→D.atKey (G4 x.1 x.2.1 x.2.2.1 x.2.2.2) (.lit (.int .i32 0))= .lit (.int .i32 (bz d x n)))
theorem fV.aI{w w':World}{b n:Nat}{d:List UInt8}(h:fV w b d n)(hb:w'.heap[b]? =w.heap[b]?):fV w' b d n:=by obtain⟨D,⟨es,clock,h1,r⟩,h2⟩:=h;exact⟨D,⟨es,clock,hb.trans h1,r⟩,h2⟩
theorem fV.made(w:World)(d:List UInt8):fV (w.alloc (.map #[] 0)) w.heap.size d 0:=
 ⟨_,World.ownsMap_made w prog _ _,fun x=>⟨by simp[Maps.has,bz],fun h=>by simp[bz]at h⟩⟩
noncomputable abbrev Kh(x:UInt8×UInt8×UInt8×UInt8):Lit:=G4 x.1 x.2.1 x.2.2.1 x.2.2.2
abbrev xd(x:UInt8×UInt8×UInt8×UInt8):Value:=pS x.1 x.2.1 x.2.2.1 x.2.2.2
theorem Lt{x y:UInt8×UInt8×UInt8×UInt8}(h:Kh x=Kh y):x=y:=by obtain⟨h1,h2,h3,h4⟩:=Qd h;obtain⟨a,b,c,d⟩:=x;obtain⟨a',b',c',d'⟩:=y;simp_all
theorem U3(w:World):(zeroValue 21).run prog w= .ok (.int .i32 0) w:=by first | rfl | simp[zeroValue]
theorem ZH{z:Int}(h0: -1≤z)(h1:z≤1000000):(Lit.int .i32 z).wf=true:=by have e1:IntKind.i32.min= -2147483648:=rfl;have e2:IntKind.i32.max=2147483647:=rfl;simp[Lit.wf,e1,e2];omega
def seen(d:List UInt8)(x:UInt8×UInt8×UInt8×UInt8)(n:Nat):Bool:=decide (0≤bz d x n)
theorem fV.look{w:World}{b n:Nat}{d:List UInt8}(h:fV w b d n)(x:UInt8×UInt8×UInt8×UInt8): ∃c:Int,(Instr.lookup 190 (.map (some b)) (xd x) true).run prog w= .ok (.tuple #[.int .i32 c,.bool (seen d x n)]) w∧(seen d x n=true→c=bz d x n):=by
 obtain⟨D,h1,h2⟩:=h;obtain⟨v,ps,hr,hv⟩:=h1.look_ok BL underlying190 (U3 w) (plainElem_int (H:=Unit) underlying21 (ZH aa aa)) (lK x.1 x.2.1 x.2.2.1 x.2.2.2);obtain⟨c,rfl,hc,_⟩:=plainElem_int_inv underlying21 hv;have e:Maps.has D (G4 x.1 x.2.1 x.2.2.1 x.2.2.2)=seen d x n:=by rw[Bool.eq_iff_iff,(h2 x).1];simp[seen]
 refine⟨c,by rw[hr,e],fun hs=> ?_⟩;have hs:0≤bz d x n:=by simpa [seen]using hs
 have e2:=(h2 x).2 hs;have e3:=congrArg Prod.fst hc;simp only at e3;rw[e2]at e3;injection e3 with e3;injection e3 with _ e3;exact e3.symm
theorem fV.put{w:World}{b n:Nat}{d:List UInt8}(h:fV w b d n)(hn:n≤100000): ∃w',(Instr.mapUpdate 190 (.map (some b)) (xd (four d n)) (.int .i32 (n:Nat))).run prog w= .ok () w'∧fV w' b d (n+1)∧w.mapTurned w' b:=by
 obtain⟨D,h1,h2⟩:=h;obtain⟨w',hr,ho,ht⟩:=h1.store BL underlying190 gD (lK (four d n).1 (four d n).2.1 (four d n).2.2.1 (four d n).2.2.2) (plainElem_int (H:=Unit) underlying21 (a:=(n:Nat)) (ZH aa aa));have hk:=BL.key (lK (four d n).1 (four d n).2.1 (four d n).2.2.1 (four d n).2.2.2);refine⟨w',hr,⟨_,ho,fun x=> ?_⟩,ht⟩;by_cases hx:four d n=x;·subst hx;rw[has_put_same h1.isMap hk,atKey_put_same h1.isMap hk];simp[bz]
 ·have dr:Kh x≠Kh (four d n):=fun e=>hx (Lt e).symm;have e:bz d x (n+1)=bz d x n:=by rw[bz,if_neg hx]
  rw[e,has_put_other dr,atKey_put_other dr];exact h2 x
theorem tq(d:List UInt8)(k:Nat):(gH d k).length=k:=by simp[gH]
theorem zV(d:List UInt8)(n k:Nat)(hk:k<n)(z:Int)(hz:z=bz d (four d k) k):((gH d k)++List.replicate (n-k) (Value.int .i32 0)).set k (.int .i32 z)=gH d (k+1)++List.replicate (n-(k+1)) (Value.int .i32 0):=by
 have e:n-k=(n-(k+1))+1:=aa;rw[e,List.replicate_succ,List.set_append_right _ _ (by rw[tq];exact Nat.le_refl _),tq,Nat.sub_self,List.set_cons_zero,hz];have e2:gH d (k+1)=gH d k++[.int .i32 (bz d (four d k) k)]:=by simp[gH,List.range_succ]
 rw[e2,List.append_assoc];rfl
end
def chain(d:List UInt8)(x:UInt8×UInt8×UInt8×UInt8):Nat→List Nat
 | 0=>[]
 | n+1=>if four d n=x then n::chain d x n else chain d x n
theorem mz(d:List UInt8)(x:UInt8×UInt8×UInt8×UInt8)(n:Nat):chain d x (n+1)=if four d n=x then n::chain d x n else chain d x n:=rfl
theorem xe: ∀{n},bz d x n<0→chain d x n=[]
 | 0,_=>rfl
 | n+1,h=>by
  unfold bz at h;rw[mz];split at h;·omega
  ·rename_i hx;rw[if_neg hx];exact xe h
theorem xg: ∀{n},bz d x n=(j:Int)→chain d x n=j::chain d x j∧j<n∧four d j=x
 | 0,h=>by simp[bz]at h
 | n+1,h=>by
  unfold bz at h;rw[mz];split at h;·rename_i hx;obtain rfl:n=j:=aa;rw[if_pos hx];exact⟨rfl,aa,hx⟩
  ·rename_i hx;rw[if_neg hx];obtain⟨h1,h2,h3⟩:=xg h;exact⟨h1,aa,h3⟩
theorem jV: ∀{n},j∈chain d x n↔j<n∧four d j=x
 | 0=>by simp[chain]
 | n+1=>by
  rw[mz];split
  ·rename_i hx;rw[List.mem_cons,jV];constructor
   ·rintro(rfl | ⟨h1,h2⟩);·exact⟨aa,hx⟩
    ·exact⟨aa,h2⟩
   ·rintro⟨h1,h2⟩;rcases Nat.lt_or_ge j n with h | h;·exact .inr ⟨h,h2⟩
    ·exact .inl aa
  ·rename_i hx;rw[jV];constructor;·rintro⟨h1,h2⟩;exact⟨aa,h2⟩
   ·rintro⟨h1,h2⟩;rcases Nat.lt_or_ge j n with h | h;·exact⟨h,h2⟩
    ·obtain rfl:j=n:=(by omega);exact absurd h2 hx
theorem nS(d:List UInt8)(x:UInt8×UInt8×UInt8×UInt8): ∀n,(chain d x n).Pairwise (· > ·)
 | 0=>List.Pairwise.nil
 | n+1=>by
  rw[mz];split;·exact List.pairwise_cons.2 ⟨fun j hj=>(jV.1 hj).1,nS d x n⟩
  ·exact nS d x n
theorem Eg(h:4≤aU d p q L):four d q=four d p:=by have hi:=(dO d L p q).eq;have h0:=hi 0 aa;have h1:=hi 1 aa;have h2:=hi 2 aa;have h3:=hi 3 aa;simp only[Nat.add_zero]at h0;unfold four;rw[h0,h1,h2,h3]
theorem Eh(h:2≤aU d p q L):d.getD q 0=d.getD p 0∧d.getD (q+1) 0=d.getD (p+1) 0:=by have hi:=(dO d L p q).eq;have h0:=hi 0 aa;have h1:=hi 1 aa;simp only[Nat.add_zero]at h0;exact⟨h0.symm,h1.symm⟩
def places(d:List UInt8)(a b:UInt8)(n:Nat):List Nat:=(List.range n).filter fun i=>d.getD i 0==a&&d.getD (i+1) 0==b
theorem t7(d:List UInt8)(a b:UInt8)(n:Nat):places d a b (n+1)=places d a b n++(if d.getD n 0=a∧d.getD (n+1) 0=b then [n]else []):=by
 unfold places;rw[List.range_succ,List.filter_append];congr 1;by_cases h:d.getD n 0=a∧d.getD (n+1) 0=b
 ·have e:(d.getD n 0==a&&d.getD (n+1) 0==b)=true:=by rw[h.1,h.2];simp
  rw[if_pos h];simp only[List.filter_cons,List.filter_nil,e,if_true]
 ·rw[if_neg h];simp only[List.filter_cons,List.filter_nil];rw[if_neg];intro h2;simp at h2;exact h (by simpa using h2)
theorem mA{a b:UInt8}{i:Nat}:i∈places d a b n↔i<n∧d.getD i 0=a∧d.getD (i+1) 0=b:=by unfold places;rw[List.mem_filter,List.mem_range];simp only[Bool.and_eq_true,beq_iff_eq]
theorem t8(d:List UInt8)(a b:UInt8)(n:Nat):(places d a b n).Pairwise (· < ·):=List.Pairwise.filter _ (List.pairwise_lt_range)
def aQ(b:Nat)(w:World)(v:Value):Prop:= ∃t,w.heap[b]? =some (.cells [v].toArray t (0,0))
theorem aQ.cell(h:aQ b w v):w.cell? ⟨b,0,none⟩=some v:=by obtain⟨t,h⟩:=h;rw[cell_of_row w b _ _ _ _ h];rfl
theorem aQ.aI(h:aQ b w v)(hb:w'.heap[b]? =w.heap[b]?):aQ b w' v:=by obtain⟨t,h⟩:=h;exact⟨t,hb.trans h⟩
theorem aQ.made(w:World)(v:Value)(t:TypeId):aQ w.heap.size (w.alloc (.cells #[v] t)) v:=⟨t,heap_alloc_last _ _⟩
def Qf(F:Nat)(place:Int)(w:World)(e:Ending)(w':World):Prop:= ∃b1 b2,e= .returned (.func (.func 219) #[] #[PF b1,PF b2])∧aQ b1 w' (PF F)∧aQ b2 w' (.int .i64 place)∧w.heap.size≤b1∧w.heap.size≤b2∧Below w.heap.size w w'
theorem xh(F:Nat)(place:Int)(w:World):Calls prog 200 #[PF F,.int .i64 place] w (Qf F place w):=by
 have⟨W1,dE⟩:=ex (w.alloc (.cells #[PF F] 69));have⟨W2,jT⟩:=ex (W1.alloc (.cells #[.int .i64 place] 3));have aC:Below w.heap.size w W1:=vI;have aE:Below W1.heap.size W1 W2:=vK;have ly:aQ w.heap.size W1 (PF F):=by rw[←dE];exact aQ.made _ _ _
 have jo:aQ W1.heap.size W2 (.int .i64 place):=by rw[←jT];exact aQ.made _ _ _
 have aF:w.heap.size<W1.heap.size:=vJ;have HH:=hdd (And.intro aC (And.intro aE (And.intro ly (And.intro jo aF))));have vj:=hdd dE;have vk:=hdd jT;have dJ:Hid (W1.heap.size=w.heap.size+1):=hdd vJ;clear dE jT aC aE ly jo aF;go_enter func200,ntmps200;go_wp2_with fail;rw[vj.out,vk.out];go_ret;refine⟨w.heap.size,W1.heap.size,?_,HH.out.2.2.1.aI (HH.out.2.1.block _ HH.out.2.2.2.2),HH.out.2.2.2.1,Nat.le_refl _,Nat.le_of_lt HH.out.2.2.2.2,HH.out.1.trans (HH.out.2.1.mono (Nat.le_of_lt HH.out.2.2.2.2))⟩;first | rfl | (rw[dJ.out];rfl)
theorem U4(x:Int)(w:World):Calls prog 237 #[.int .i32 x] w fun e w'=>e= .returned (.bool false)∧w=w':=by go_enter func237,ntmps237;go_wp2_with fail;go_ret;exact⟨rfl,rfl⟩
theorem Qg(x:Int)(w:World):Calls prog 233 #[.int .i32 x] w fun e w'=>e= .returned (.bool false)∧w=w':=by go_enter func233,ntmps233;go_wp2_with fail;go_ret;exact⟨rfl,rfl⟩
theorem Qh(x y:Int)(w:World):Calls prog 232 #[.int .i32 x,.int .i32 y] w fun e w'=>e= .returned (.bool (decide (x<y)))∧w=w':=by have HN:=hdd U4;generalize hb:decide (x<y)=b;go_enter func232,ntmps232;go_wp2_with fail;refine(HN.out _ _).mono ?_;rintro e w1 ⟨rfl,rfl⟩;go_wp2_with fail;go_ret;exact⟨rfl,rfl⟩
def nT(w:World)(A:Option Addr)(l:List Nat):Prop:= ∀i (h:i<l.length),∃g,A=some ⟨g,0,none⟩∧w.cell? ⟨g,i,none⟩=some (.int .i32 (l[i]:Nat))
def G5(l:List Nat)(x:Nat)(w:World)(e:Ending)(w':World):Prop:=(∃(i:Nat) (b:Bool),e= .returned (.tuple #[.int .i64 (i:Nat),.bool b])∧i≤l.length∧(∀q (h:q<l.length),q<i→l[q]<x)∧(∀q (h:q<l.length),i≤q→x≤l[q]))∧w=w'
theorem G6(A:Option Addr)(l:List Nat)(c x:Nat)(w:World)(hA:nT w A l)(hl:l.length≤100000)(hc:l.length≤c)(hs:l.Pairwise (· < ·)):
  Calls prog 220 #[.slice A l.length c,.int .i32 (x:Nat)] w (G5 l x w):=by
 have sQ:(l.length:Int)≤100000:=aa;have tY:(l.length:Int)≤(c:Int):=aa;have HA:=hdd hA;have yT:=hdd Qh;have HNA:=hdd Qg;have HSO:Hid (∀p q (hp:p<l.length) (hq:q<l.length),p<q→l[p]<l[q]):=hdd (fun p q hp hq h=>List.pairwise_iff_getElem.1 hs p q hp hq h);clear hA hs hc;go_enter func220,ntmps220;go_wp2_with fail;go_loopw [7,8] (fun a b wr=> ∃i j:Nat,i≤j∧j≤l.length∧a= .int .i64 (i:Nat)∧b= .int .i64 (j:Nat)∧Hid (∀q (h:q<l.length),q<i→l[q]<x)∧Hid (∀q (h:q<l.length),j≤q→x≤l[q])∧wr=w) (fun a b _=>(intOf b).toNat-(intOf a).toNat);case atStart=>exact⟨0,l.length,aa,Nat.le_refl _,rfl,rfl,hdd (fun q _ h=>aa),hdd (fun q h h2=>aa),rfl⟩
 case round=>
  obtain⟨i,j,hij,hj,rfl,rfl,H1,H2,rfl⟩:=hrel;by_cases aF:i<j
  ·have tr:(i:Int)<(j:Int):=(by omega);have hj4:(j:Int)≤100000:=aa;have⟨m,hm⟩:=ex ((i+j)/2:Nat);have qS:m<l.length:=aa;have th:(m:Int)<(l.length:Int):=aa;obtain⟨g,rfl,hcell⟩:=HA.out m qS;have e1:((i:Int)+(j:Int))/2=(m:Int):=aa;have HH:=hdd (show i≤m∧m<j by omega);have⟨y,hy⟩:=ex (l[m]);rw[hy]at hcell;have HY:=hdd hy;clear hy hm;by_cases hyx:y<x
   ·have hb:decide ((y:Int)<(x:Int))=true:=decide_eq_true aa;have GR:=hdd (yT.out (y:Int) (x:Int) wr);rw[hb]at GR;have H3:Hid (∀q (h:q<l.length),q<m+1→l[q]<x):=hdd (fun q hq h2=>by
     rcases Nat.lt_or_ge q m with h3 | h3;·have:=HSO.out q m hq qS h3;have:=HY.out;omega
     ·obtain rfl:q=m:=(by omega);have:=HY.out;omega)
    clear hb;go_wp2_with fail;refine GR.out.mono ?_;rintro e w1 ⟨rfl,rfl⟩;go_wp2_with fail;exact⟨⟨m+1,j,ar HH.out,hj,aq,rfl,H3,H2,by trivial⟩,by have:=HH.out;simp[intOf];omega⟩
   ·have hb:decide ((y:Int)<(x:Int))=false:=decide_eq_false aa;have GR:=hdd (yT.out (y:Int) (x:Int) wr);rw[hb]at GR;have H3:Hid (∀q (h:q<l.length),m≤q→x≤l[q]):=hdd (fun q hq h2=>by
     rcases Nat.lt_or_ge m q with h3 | h3;·have:=HSO.out m q qS hq h3;have:=HY.out;omega
     ·obtain rfl:q=m:=(by omega);have:=HY.out;omega)
    clear hb;go_wp2_with fail;refine GR.out.mono ?_;rintro e w1 ⟨rfl,rfl⟩;go_wp2_with fail;exact⟨⟨i,m,ar HH.out,aa,rfl,rfl,H1,H3,by trivial⟩,by have:=HH.out;simp[intOf];omega⟩
  ·obtain rfl:i=j:=(by omega);have hi4:(i:Int)≤100000:=aa;by_cases hil:i<l.length
   ·have ajN:(i:Int)<(l.length:Int):=(by omega);obtain⟨g,rfl,hcell⟩:=HA.out i hil;have⟨y,hy⟩:=ex (l[i]);rw[hy]at hcell;clear hy;by_cases hyx:y=x;·subst hyx;go_wp2_with fail;go_ret2;exact⟨⟨i,true,rfl,hj,H1.out,H2.out⟩,rfl⟩
    ·have hb:((y:Int)==(x:Int))=false:=(by rw[beq_eq_false_iff_ne];omega);go_wp2_with fail;refine(HNA.out _ _).mono ?_;rintro e w1 ⟨rfl,rfl⟩;go_wp2_with fail;go_ret2;exact⟨⟨i,false,rfl,hj,H1.out,H2.out⟩,rfl⟩
   ·have ajN: ¬(i:Int)<(l.length:Int):=(by omega);go_wp2_with fail;go_ret2;exact⟨⟨i,false,rfl,hj,H1.out,H2.out⟩,rfl⟩
section
open Go.RowKit Go.Shelf
attribute [local go_sem] Oper.semAt_some
theorem G7{w:World}{B n:Nat}{d:List UInt8}(h:w.heap[B]? =some (.cells (gH d n).toArray 21 (0,0)))(i:Nat)(hi:i<n):w.cell? ⟨B,i,none⟩=some (.int .i32 (bz d (four d i) i)):=by rw[cell_of_row w B _ _ _ _ h];simp[gH,hi]
theorem Qi(F:Fence)(n:Nat)(F3:F.fn 219)(kp:F.round=none)(hn:1≤n)(Fp:Nat)(A:Option Addr)(c:Nat)(d:List UInt8)(dict nice:Int)(mp B N:Nat)(b1 b2 place:Nat)(w:World)
  (hF:cZ w Fp A c d dict nice mp (.slice (some ⟨B,0,none⟩) N N)) (hB:w.heap[B]? =some (.cells (gH d N).toArray 21 (0,0))) (ly:aQ b1 w (PF Fp)) (jo:aQ b2 w (.int .i64 (place:Nat))) (hp:place<N) (hN:N≤d.length):
  Kf F n prog 219 #[PF b1,PF b2] (chain d (four d place) place) w:=by
 intro l J Jx W Ty hJD hXD hY h0;have eH:=Ty _ _ h0;have HC:Hid (∀W,Below w.heap.size w W→W.cell? ⟨b1,0,none⟩=some (PF Fp)∧W.cell? ⟨b2,0,none⟩=some (.int .i64 (place:Nat))∧W.cell? ⟨Fp,4,none⟩=some (.slice (some ⟨B,0,none⟩) N N)∧ ∀i,i<N→W.cell? ⟨B,i,none⟩=some (.int .i32 (bz d (four d i) i))):=hdd (fun W hb=>by
  have wq:b1<w.heap.size:=by obtain⟨t,h⟩:=ly;exact(cr h)
  have qT:b2<w.heap.size:=by obtain⟨t,h⟩:=jo;exact(cr h)
  exact⟨(ly.aI (hb.block _ wq)).cell,(jo.aI (hb.block _ qT)).cell,(hF.below hb).cells.2.2.2.2,fun i hi=>G7 ((hb.block _ (cr hB)).trans hB) i hi⟩)
 have HY:=hdd hY;have HJB:=hdd Ty;have HJD:=hdd hJD;have HXD:=hdd hXD;have rz:(place:Int)<(N:Int):=aa;have hNi:(N:Int)≤100000:=ar hF.small;have C8:=hdd (And.intro hp hN);obtain⟨c1,c2,c3,c4⟩:=HC.out W eH;have c5:=c4 place hp;have HLB:Hid (∀m,m≤place→ -1≤bz d (four d place) m∧bz d (four d place) m<place∨bz d (four d place) m= -1):=hdd (fun m hm=>by
  rcases i8 d (four d place) m with h | ⟨_,h⟩
  ·left;omega
  ·right;exact h)
 have KS:=hdd h0;have⟨x,hx⟩:=ex (four d place);rw[hx]at c5 HLB ⊢;rw[hx]at HY;have HXE:=hdd hx;clear hF hB ly jo Ty hJD hXD hY h0 hp hN c4 hx;refine callsIn_of_wp func219 rfl F3 ?_ kp;simp only[ntmps219,List.size_toArray,List.length_cons,List.length_nil,Nat.reduceAdd,Nat.reduceSub,Array.replicate_succ,Array.replicate_zero,List.push_toArray,List.append_toArray,List.nil_append,List.cons_append]
 gi_wp2
 refine wpIn_region_quiet_lit kp ak ak ?_;repeat (gi_big_quiet_step (fail))
 refine wpQuietIn_nil ?_;rintro _ ⟨nq,rfl⟩
 gi_wp2
 gi_loopw [4] (fun v wr=> ∃(pre:List Nat) (m:Nat) (q:Int),v= .int .i32 q∧Hid (q=bz d x m)∧Hid (chain d x place=pre++chain d x m)∧m≤place∧J pre wr) (fun v _=>(intOf v+1).toNat)
 case atStart=>exact⟨[],place,_,rfl,rfl,rfl,Nat.le_refl _,HJD.out _ _ _ KS.out⟩
 case round=>
  obtain⟨pre,m,q,rfl,HQ,HL,hm,BN⟩:=hrel;clear c1 c2 c3 c5;have YF:=HLB.out m hm;rw[←HQ.out]at YF;have HJS:=hdd BN;by_cases yE:q= -1
  ·subst yE;have HE:Hid (pre=chain d x place):=hdd (by
    rw[HL.out,xe (by rw[←HQ.out];decide),List.append_nil])
   clear YF BN
   gi_wp2
   refine⟨(fun _ h=>nomatch h),?_⟩
   gi_wp2
   go_end0;exact⟨⟨_,rfl⟩,.inl (by rw[←HE.out];exact HJS.out)⟩
  ·obtain⟨j,rfl⟩: ∃j:Nat,q=(j:Int):=⟨q.toNat,aa⟩
   obtain⟨e1,e2,e3⟩:=xg HQ.out.symm;have yL:(j:Int)<(place:Int):=aa;have dr:((j:Int)== -1)=false:=Ba;obtain⟨fn,tmps,assign,body,hy,hR⟩:=HY.out pre j (chain d x j) wr (by rw[HL.out,e1]) BN;have N9:Hid (chain d x place=(pre++[j])++chain d x j):=hdd (by rw[HL.out,e1];simp);have HJP:Hid (j≤place):=hdd aa;have HJX:Hid (four d j=x):=hdd e3;clear e1 e2 e3 YF yE BN
   gi_wp2
   refine hR.mono ?_;rintro e W3 (⟨rfl,Ki⟩ | ⟨rfl,Da⟩)
   ·obtain⟨c1,c2,c3,c4⟩:=HC.out W3 (HJB.out _ _ Ki);have c5:=c4 j (by have:=HJP.out;have:=C8.out;omega);rw[HJX.out]at c5;have hjN:(j:Int)<(N:Int):=aa;have HJ3:=hdd Ki;clear c4 Ki;have⟨q2,mq⟩:=ex (bz d x j);have asn:q2<(j:Int):=by rcases i8 d x j with h | ⟨_,h⟩<;>omega
    rw[mq]at c5;have G8:Hid (q2=bz d x j):=hdd mq.symm;clear mq
    gi_wp2
    go_roundw;case rel=>exact⟨pre++[j],j,q2,rfl,G8,N9,HJP.out,HJ3.out⟩
    case measure=>simp[intOf];omega
   ·have ZI:=hdd Da;clear Da
    gi_wp2
    go_end0;exact⟨⟨_,rfl⟩,.inr ZI.out⟩
theorem U5{w:World}{a:Addr}{v:Value}(h:w.cell? a=some v):a.block<w.heap.size:=by obtain⟨o,ho,_⟩:=cells_of_cell h;exact(cr ho)
theorem nT.below{w w':World}{A:Option Addr}{l:List Nat}(h:nT w A l)(hb:Below w.heap.size w w'):nT w' A l:=by intro i hi;obtain⟨g,hA,hc⟩:=h i hi;exact⟨g,hA,(hb.cell (p:=⟨g,i,none⟩) (U5 hc)).trans hc⟩
theorem Qj(F:Fence)(n:Nat)(F3:F.fn 221)(kp:F.round=none)(hn:1≤n)(A:Option Addr)(c:Nat)(l:List Nat)(b1 b2 h:Nat)(w:World)
  (hA:nT w A l) (hc:l.length≤c) (hl:l.length≤100000) (hs: ∀x∈l,x≤100000) (ly:aQ b1 w (.int .i64 (h:Nat))) (jo:aQ b2 w (.slice A l.length c)) (hh:h≤l.length):
  Kf F n prog 221 #[PF b1,PF b2] (l.take h).reverse w:=by
 intro ll J Jx W Ty hJD hXD hY h0;have eH:=Ty _ _ h0;have HC:Hid (∀W,Below w.heap.size w W→W.cell? ⟨b1,0,none⟩=some (.int .i64 (h:Nat))∧W.cell? ⟨b2,0,none⟩=some (.slice A l.length c)∧nT W A l):=hdd (fun W hb=>by
  have wq:b1<w.heap.size:=by obtain⟨t,h⟩:=ly;exact(cr h)
  have qT:b2<w.heap.size:=by obtain⟨t,h⟩:=jo;exact(cr h)
  exact⟨(ly.aI (hb.block _ wq)).cell,(jo.aI (hb.block _ qT)).cell,hA.below hb⟩)
 have HY:=hdd hY;have HJB:=hdd Ty;have HJD:=hdd hJD;have HS:=hdd (fun(i:Nat) (hi:i<l.length)=>hs _ (List.getElem_mem hi));have tY:(l.length:Int)≤(c:Int):=aa;have sQ:(l.length:Int)≤100000:=aa;have Ei:(h:Int)≤(l.length:Int):=aa;obtain⟨c1,c2,_⟩:=HC.out W eH;have KS:=hdd h0;clear hA ly jo Ty hJD hXD hY h0 hc hs;refine callsIn_of_wp func221 rfl F3 ?_ kp;simp only[ntmps221,List.size_toArray,List.length_cons,List.length_nil,Nat.reduceAdd,Nat.reduceSub,Array.replicate_succ,Array.replicate_zero,List.push_toArray,List.append_toArray,List.nil_append,List.cons_append]
 gi_wp2
 gi_loopw [4] (fun v wr=> ∃(pre:List Nat) (m:Nat),v= .int .i64 ((m:Int)-1)∧Hid ((l.take h).reverse=pre++(l.take m).reverse)∧m≤h∧J pre wr) (fun v _=>(intOf v+1).toNat)
 case atStart=>exact⟨[],h,rfl,rfl,Nat.le_refl _,KS.out⟩
 case round=>
  obtain⟨pre,m,rfl,HL,hm,BN⟩:=hrel;clear c1 c2;have HJS:=hdd BN;cases m with
  | zero=>
   have HE:Hid (pre=(l.take h).reverse):=hdd (by rw[HL.out];simp);clear BN
   gi_wp2
   refine⟨(fun _ h=>nomatch h),?_⟩
   gi_wp2
   go_end0;exact⟨⟨_,rfl⟩,.inl (by rw[←HE.out];exact HJS.out)⟩
  | succ j=>
   have tT:j<l.length:=aa;have e1:(l.take (j+1)).reverse=l[j]::(l.take j).reverse:=(by rw[List.take_add_one,List.getElem?_eq_getElem tT];simp);obtain⟨_,c2,c3⟩:=HC.out wr (HJB.out _ _ BN);obtain⟨g,rfl,c4⟩:=c3 j tT;have hx:=HS.out j tT;have⟨x,hxe⟩:=ex (l[j]);rw[hxe]at e1 hx c4;obtain⟨fn,tmps,assign,body,hy,hR⟩:=HY.out pre x (l.take j).reverse wr (by rw[HL.out,e1]) BN;have N9:Hid ((l.take h).reverse=(pre++[x])++(l.take j).reverse):=hdd (by rw[HL.out,e1];simp);have yL:(j:Int)<(l.length:Int):=aa;have hxi:(x:Int)≤100000:=aa;have ej:((j+1:Nat):Int)-1=(j:Int):=aa;rw[ej];have HJH:Hid (j≤h):=hdd aa;clear e1 c3 BN hxe ej hm tT hx
   gi_wp2
   refine hR.mono ?_;rintro e W3 (⟨rfl,Ki⟩ | ⟨rfl,Da⟩)
   ·have HJ3:=hdd Ki;clear Ki
    gi_wp2
    go_roundw;case rel=>exact⟨pre++[x],j,rfl,N9,HJH.out,HJ3.out⟩
    case measure=>simp[intOf]
   ·have ZI:=hdd Da;clear Da
    gi_wp2
    go_end0;exact⟨⟨_,rfl⟩,.inr ZI.out⟩
end
end Go.Proofs.YtgfpocdiojifoaaGreatDoor
