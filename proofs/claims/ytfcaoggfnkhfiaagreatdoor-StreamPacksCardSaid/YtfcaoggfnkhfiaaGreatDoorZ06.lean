import Derived.Test.YtfcaoggfnkhfiaaGreatDoorZ01
import Derived.RangeFuncNested
import Derived.RangeFuncBound
import Derived.RangeFuncCalls
import Derived.RangeFuncLeaves
import Derived.RangeFuncKeeps
import Derived.Sort.BigQuietIn
import Derived.Test.YtfcaoggfnkhfiaaGreatDoorRows
import Derived.WideKeyArr
import Derived.WideKeyEntry
import Derived.Maps.OwnSet
import Derived.Lib.MinMax
import Derived.Maps.OwnOps
import Derived.Shelf.Abstract
import Derived.Shelf.RegionOpen
import Derived.OwnWalkIn
import Derived.TacticsInMore
import Derived.LoopNIn
import Derived.LoopIn
import Derived.BigRegionIn
import Derived.Maps.OwnRows
import Derived.Deep.RegionHeld3
import Derived.Deep.DeepCutAuto
namespace Go.Proofs.YtfcaoggfnkhfiaaGreatDoor
set_option maxRecDepth 100000
set_option maxHeartbeats 8000000
open Go.RowKit Go.Proofs.Tryz
variable{dict nice:Int}{d:An}{D F L c j k m mp n p q:Nat}{f:Nat->Nat}{S:Nat->Prop}{A:As}{x:UInt8×UInt8×UInt8×UInt8}{v4:Value}{w w':Lo}
def bG(d:An):Nat->Nat->Nat->Nat
 | _,_,0=>0
 | p,q,L+1=>if d.getD p 0=d.getD q 0 then bG d (p+1) (q+1) L+1 else 0
structure vL(d:An)(p q L n:Nat):Prop where
 le:n<=L
 eq: ∀i,i<n->d.getD (p+i) 0=d.getD (q+i) 0
 stop:n=L\/d.getD (p+n) 0≠d.getD (q+n) 0
theorem vL.unique(h:vL d p q L n)(k:vL d p q L m):n=m:=by
 rcases Nat.lt_trichotomy n m with aV|e|aV
 ·rcases h.stop with e|e;·have:=k.le;omega
  ·exact absurd (k.eq n aV) e
 ·exact e
 ·rcases k.stop with e|e;·have:=h.le;omega
  ·exact absurd (h.eq m aV) e
theorem fu(d:An): ∀(L p q:Nat),vL d p q L (bG d p q L)
 | 0,p,q=>⟨aF _,(λi h=>absurd h (Nat.not_lt_zero i)),.inl rfl⟩
 | L+1,p,q=>by
  unfold bG;by_cases h:d.getD p 0=d.getD q 0
  ·rw[ax h];have ih:=fu d L (p+1) (q+1);refine⟨av ih.le,λi hi=> ?_,?_⟩
   ·cases i with
    | zero=>exact h
    | succ i=>
     have:=ih.eq i aa;rw[show p+1+i=p+(i+1) by omega,show q+1+i=q+(i+1) by omega]at this;exact this
   ·rcases ih.stop with e|e;·exact .inl aa
    ·rw[show p+1+bG d (p+1) (q+1) L=p+(bG d (p+1) (q+1) L+1) by omega,show q+1+bG d (p+1) (q+1) L=q+(bG d (p+1) (q+1) L+1) by omega]at e;exact .inr e
  ·rw[au h];exact⟨cI _,(λi hi=>absurd hi (Nat.not_lt_zero i)),.inr h⟩
theorem vL.is(h:vL d p q L n):n=bG d p q L:=h.unique (fu d L p q)
def tj(d:An)(p:Nat)(most:Int):Nat:=(min most ((d.length:Int)-(p:Int))).toNat
theorem adN(d:An)(p:Nat)(most:Int)(h:p<=d.length):p+tj d p most<=d.length:=by unfold tj;omega
theorem adO{d:An}{p n:Nat}{most:Int}:n<tj d p most↔(n:Int)<most/\(p:Int)+(n:Int)<d.length:=by unfold tj;omega
def dk(f:Nat->Nat):Nat->Nat×Nat
 | 0=>(0,0)
 | D+1=>if(dk f D).1<f (D+1)then(f (D+1),D+1)else dk f D
def iQ(l:An)(dict nice:Int)(p:Nat)(most:Int):Nat×Nat:=
 if(dk (λk=>bG l p (p-k) (tj l p (min nice most))) (min (p:Int) dict).toNat).1<2 then(0,0)else dk (λk=>bG l p (p-k) (tj l p (min nice most))) (min (p:Int) dict).toNat
structure BN(f:Nat->Nat)(D n k:Nat):Prop where
 le: ∀j,1<=j->j<=D->f j<=n
 lt: ∀j,1<=j->j<k->f j<n
 at_:(n=0/\k=0)\/(1<=k/\k<=D/\f k=n/\0<n)
theorem kD(f:Nat->Nat): ∀D,BN f D (dk f D).1 (dk f D).2
 | 0=>⟨λj h1 h2=>aa,λj h1 h2=>by simp[dk]at h2,.inl ⟨rfl,rfl⟩⟩
 | D+1=>by
  have ih:=kD f D;unfold dk;by_cases h:(dk f D).1<f (D+1)
  ·rw[ax h];refine⟨λj h1 h2=> ?_,λj h1 h2=> ?_,.inr ⟨ah,ah,rfl,by show 0<f (D+1);omega⟩⟩
   ·show f j<=f (D+1);rcases dN j (D+1)with h3|h3;·have:=ih.le j h1 aa;omega
    ·obtain rfl:j=D+1:=(by omega);exact aF _
   ·have h2:j<D+1:=h2;show f j<f (D+1);have:=ih.le j h1 aa;omega
  ·rw[au h];refine⟨λj h1 h2=> ?_,ih.lt,?_⟩
   ·rcases dN j (D+1)with h3|h3;·exact ih.le j h1 aa
    ·obtain rfl:j=D+1:=(by omega);omega
   ·rcases ih.at_ with e|⟨e1,e2,e3⟩
    ·exact .inl e
    ·exact .inr ⟨e1,aa,e3⟩
theorem BN.unique{n' k':Nat}(h:BN f D n k)(h':BN f D n' k'):n=n'/\k=k':=by
 have hn:n=n':=by
  rcases h.at_ with⟨e1,e2⟩|⟨e1,e2,e3,e4⟩
  ·rcases h'.at_ with⟨e1',_⟩|⟨a1,a2,a3,a4⟩
   ·omega
   ·have:=h.le k' a1 a2;omega
  ·rcases h'.at_ with⟨a1,_⟩|⟨a1,a2,a3,a4⟩
   ·have:=h'.le k e1 e2;omega
   ·have b1:=h.le k' a1 a2;have b2:=h'.le k e1 e2;omega
 refine⟨hn,?_⟩;subst hn;rcases h.at_ with⟨e1,e2⟩|⟨e1,e2,e3,e4⟩
 ·rcases h'.at_ with⟨_,a2⟩|⟨a1,a2,a3,a4⟩
  ·omega
  ·omega
 ·rcases h'.at_ with⟨a1,_⟩|⟨a1,a2,a3,a4⟩
  ·omega
  ·rcases Nat.lt_trichotomy k k' with aV|e|aV;·have:=h'.lt k e1 aV;omega
   ·exact e
   ·have:=h.lt k' a1 aV;omega
structure eE(S:Nat->Prop)(f:Nat->Nat)(n k:Nat):Prop where
 le: ∀j,S j->f j<=n
 lt: ∀j,S j->j<k->f j<n
 at_:(n=0/\k=0)\/(S k/\f k=n/\0<n)
theorem eE.none(f:Nat->Nat):eE (λ_=>False) f 0 0:=⟨λ_ h=>h.elim,λ_ h=>h.elim,.inl ⟨rfl,rfl⟩⟩
theorem eE.iff{T:Nat->Prop}(h:eE S f n k)(e: ∀j,T j↔S j):eE T f n k:=
 ⟨λj hj=>h.le j ((e j).1 hj),λj hj=>h.lt j ((e j).1 hj),h.at_.imp id fun⟨a,b⟩=>⟨(e k).2 a,b⟩⟩
theorem eE.skip(h:eE S f n k)(hj: ∀s,S s->s<j)(hf:f j<=n):eE (λx=>S x\/x=j) f n k:=by
 refine⟨?_,?_,?_⟩
 ·rintro x (hx|rfl);·exact h.le x hx
  ·exact hf
 ·rintro x (hx|rfl) aV;·exact h.lt x hx aV
  ·rcases h.at_ with⟨_,e⟩|⟨e,_⟩
   ·omega
   ·have:=hj k e;omega
 ·rcases h.at_ with e|⟨e,e2⟩
  ·exact .inl e
  ·exact .inr ⟨.inl e,e2⟩
theorem eE.take(h:eE S f n k)(hj: ∀s,S s->s<j)(hf:n<f j):eE (λx=>S x\/x=j) f (f j) j:=by
 refine⟨?_,?_,.inr ⟨.inr rfl,rfl,aa⟩⟩
 ·rintro x (hx|rfl);·have:=h.le x hx;omega
  ·exact aF _
 ·rintro x (hx|rfl) aV;·have:=h.le x hx;omega
  ·omega
theorem jZ(d:An)(p q L:Nat):bG d p q L<=L:=(fu d L p q).le
theorem QW(h:d.getD (q+n) 0≠d.getD (p+n) 0):bG d p q L<=n:=by
 rcases dN n (bG d p q L)with hl|hl;·exact absurd ((fu d L p q).eq n hl).symm h
 ·exact hl
theorem eE.all(h:eE S f n k)(hS: ∀j,S j->1<=j/\j<=D)(hm: ∀j,1<=j->j<=D->m<=f j->S j)(hn:m<=n)(h0:0<m):BN f D n k:=by
 refine⟨λj h1 h2=> ?_,λj h1 h2=> ?_,?_⟩
 ·rcases dN (f j) m with h3|h3;·omega
  ·exact h.le j (hm j h1 h2 h3)
 ·rcases h.at_ with⟨e,_⟩|⟨e,_⟩
  ·omega
  ·have hk:=(hS k e).2;rcases dN (f j) m with h3|h3;·omega
   ·exact h.lt j (hm j h1 aa h3) h2
 ·rcases h.at_ with e|⟨e,e2,e3⟩
  ·omega
  ·exact .inr ⟨(hS k e).1,(hS k e).2,e2,e3⟩
theorem Jm{M:Nat}(hM:M<=L):bG d p q M=min (bG d p q L) M:=by
 have h:=fu d L p q;refine(vL.is (n:=min (bG d p q L) M) ⟨Nat.min_le_right _ _,λi hi=>h.eq i aa,?_⟩).symm;rcases dN (bG d p q L) M with hl|hl
 ·rw[Nat.min_eq_left aa];rcases h.stop with e|e;·omega
  ·exact .inr e
 ·exact .inl aa
section
open Go Go.RowKit
variable{F:Fence}{n:Nat}{P:Program}
def PG(F:Fence)(n:Nat)(P:Program)(g:Nat)(lb:Array Value)(L:List Nat)(w:Lo):Prop:=
 ∀(l:Nat) (J:List Nat->World->Prop) (Jx:World->Prop) (W:Lo),(∀s W,J s W->Below w.heap.size w W)->(∀s W m,J s W->J s (W.drewN m))->(∀W m,Jx W->Jx (W.drewN m))->
  (∀pre x t W1,L=pre++x::t->J pre W1->YieldAt F (n-1) P l #[.int .i64 (x:Nat)] W1 λe W'=>
   (e= .returned (.bool true)/\J (pre++[x]) W')\/(e= .returned (.bool false)/\Jx W'))->
  J [] W->
  CallsIn F n P g (#[.func (.yield l) #[] #[]]++lb) W λe W'=>(∃v,e= .returned v)/\(J L W'\/Jx W')
def Vz(I:List Nat->World->Prop)(Ix:Code->World->Prop)(xs:List Nat)(W:Lo):Exit->Act->World->Prop
 | .normal,_,W'=>KeepsOthers W W'/\I xs W'
 | .exit id,_,W'=>KeepsOthers W W'/\Ix (.exit id) W'
 | _,_,_=>False
theorem DS{g:Operand}{ps:Array Tmp}{assign body:Code}{Q:Exit->Act->World->Prop}{a:Act}{w:Lo}
  (kM:F.round=none) (h1:1<=n) {gf:Nat} {lb:Array Value} (hg:a.eval g= .func (.func gf) #[] lb) (hFg:F.fn gf) (eg: ∀args w,(callFunc gf args).run P w= .ok (.enter gf args) w)
  {L:List Nat} {w0:Lo} (DT:PG F (n-1) P gf lb L w0) (Er:ps.size=1)
  (I:List Nat->World->Prop) (Ix:Code->World->Prop)
  (hIa: ∀s W o,I s W->I s (W.alloc o)) (MH: ∀s W l o o',I s W->w.heap.size<=l->W.heap[l]? =some o->o.isCells=false->I s (W.putObj l o')) (hIb: ∀s W,I s W->Below w0.heap.size w0 W) (hId: ∀s W m,I s W->I s (W.drewN m))
  (hXp: ∀c W l o o',Ix c W->w.heap.size<=l->W.heap[l]? =some o->o.isCells=false->Ix c (W.putObj l o')) (hXd: ∀c W m,Ix c W->Ix c (W.drewN m)) (h0:I [] w) (a₁:Nat->Act)
  (pq: ∀(l:Nat) (x:Nat) (W:Lo) (K:Act->World->Prop),K (a₁ x) W->
   assign.wpIn (F.inRound l) (n-1-1) P (Exit.then K (λ_ _ _=>False)) {tmps:=(ps.zip #[.int .i64 x]).foldl (λt (p,v)=>t.setIfInBounds p v) a.tmps,defers:=[]} W)
  (BO: ∀(l:Nat) (pre:List Nat) (x:Nat) (t:List Nat) (W:Lo),L=pre++x::t->I pre W->body.wpIn (F.inRound l) (n-1-1) P (Vz I Ix (pre++[x]) W) (a₁ x) W)
  (tC: ∀(D:Nat) (W:Lo),w.heap.size<=D->I L W->W.heap[D]? =some (.deferred (some []))->Q .normal {a with defers:={target:= .collected D,args:= #[]}::a.defers} W)
  (Jn: ∀(D:Nat) (c:Code) (W:Lo),w.heap.size<=D->Ix c W->W.heap[D]? =some (.deferred (some []))->c.wpIn F n P Q {a with defers:={target:= .collected D,args:= #[]}::a.defers} W):
  (Code.rangeFunc g ps assign body).wpIn F n P Q a w:=by
 refine wpIn_rangeFunc λfn Ew=> ?_;rw[kM];obtain⟨rec,iW⟩: ∃rec:LoopState->Option Code->Loop,rec=λst pe=>{state:=st,pending:=pe,fn,tmps:=a.tmps,params:=ps,assign,body,defers:=w.heap.size}:=⟨_,rfl⟩
 have⟨W1,ek⟩:=ex ((w.alloc (.deferred (some []))).alloc (.loop (rec .ready none)));have VA:W1.heap[w.heap.size+1]? =some (.loop (rec .ready none)):=by rw[<-ek];have:=World.alloc_heap_new (w.alloc (.deferred (some []))) (.loop (rec .ready none));rwa [pV]at this
 have hK1:W1.heap[w.heap.size]? =some (.deferred (some [])):=by rw[<-ek];exact(ee _ _ _ ah).trans (World.alloc_heap_new w _)
 have hI1:I [] W1:=FD
 refine⟨w.heap.size+1,[{target:= .collected w.heap.size,args:= #[]}],W1,{target:= .fn (.func gf) lb,args:= #[.func (.yield (w.heap.size+1)) #[] #[]]},W1,gf,
  #[.func (.yield (w.heap.size + 1)) #[] #[]] ++ lb, W1, ?_, ?_, ?_, ?_, λ_ => h1, ?_⟩
 ·rw[<-ek,iW];exact run_enterLoop_outer _ _ _ _ _
 ·simp only[resolve,hg];simp[go_sem]
 ·intro f' VB;simp[Target.leads]at VB;subst VB;exact hFg
 ·simp[invoke,go_sem,eg]
 ·refine(DT (w.heap.size+1)
   (λpre W=>I pre W/\W.heap[w.heap.size+1]? =some (.loop (rec .ready none))/\W.heap[w.heap.size]? =some (.deferred (some [])))
   (λW=> ∃c,Ix c W/\W.heap[w.heap.size+1]? =some (.loop (rec .done (some c)))/\W.heap[w.heap.size]? =some (.deferred (some [])))
   W1 (λs W hs=>hIb s W hs.1) (λs W m hs=>⟨hId s W m hs.1,hs.2.1,hs.2.2⟩) (λW m hs=>by obtain⟨c,h⟩:=hs;exact⟨c,hXd c W m h.1,h.2.1,h.2.2⟩) ?_ ⟨hI1,VA,hK1⟩).mono ?_
  ·rintro pre x t W ly ⟨hi,hl,hk⟩;have aV:w.heap.size+1<W.heap.size:=(bU hl)
   have hy:=run_yield (P:=P) (args:= #[.int .i64 x]) hl (by rw[iW];simp[Er]);rw[iW]at hy;refine⟨fn,_,assign,body,hy,roundIn_of_wpIn Ew (pq _ x W _ ⟨_,run_beginRound hl (by rw[iW]),?_⟩)⟩;have zu:(W.putObj (w.heap.size+1) (.loop {rec .ready none with state:= .busy})).heap[w.heap.size+1]? =some (.loop {rec .ready none with state:= .busy}):=World.putObj_heap_same aV;have qp:(W.putObj (w.heap.size+1) (.loop {rec .ready none with state:= .busy})).heap[w.heap.size]? =some (.deferred (some [])):=(World.putObj_heap_other aa).trans hk;refine wpIn_mono (BO _ pre x t _ ly (MH _ _ _ _ _ hi aa hl rfl)) ?_
   have fin: ∀(jump:Option Code) (W3:Lo),KeepsOthers (W.putObj (w.heap.size+1) (.loop {rec .ready none with state:= .busy})) W3->
     (Instr.endRound (w.heap.size+1) jump).run P W3= .ok (.bool jump.isNone) (W3.putObj (w.heap.size+1) (.loop (rec (if jump.isNone then .ready else .done) jump)))/\
     W3.heap[w.heap.size+1]? =some (.loop {rec .ready none with state:= .busy})/\
     (W3.putObj (w.heap.size+1) (.loop (rec (if jump.isNone then .ready else .done) jump))).heap[w.heap.size+1]? =some (.loop (rec (if jump.isNone then .ready else .done) jump))/\
     (W3.putObj (w.heap.size+1) (.loop (rec (if jump.isNone then .ready else .done) jump))).heap[w.heap.size]? =some (.deferred (some [])):=λjump W3 oR=>by
    have tJ:=oR.same _ _ zu rfl;have:=run_endRound (P:=P) jump tJ;rw[iW]at this ⊢;exact⟨this,by rw[iW]at tJ;exact tJ,World.putObj_heap_same (bU tJ),(World.putObj_heap_other aa).trans (oR.same _ _ qp rfl)⟩
   rintro e a3 W3 hp;cases e with
   | normal=>
    obtain⟨oR,Vs⟩:=hp;obtain⟨hr,tJ,Ik,ZF⟩:=fin none W3 oR;exact⟨_,_,hr,.inl ⟨rfl,MH _ _ _ _ _ Vs aa tJ rfl,Ik,ZF⟩⟩
   | exit id=>
    obtain⟨oR,Vs⟩:=hp;obtain⟨hr,tJ,Ik,ZF⟩:=fin (some (.exit id)) W3 oR;exact⟨_,_,hr,.inr ⟨rfl,.exit id,hXp _ _ _ _ _ Vs aa tJ rfl,Ik,ZF⟩⟩
   | ret=>exact hp.elim
   | goto t=>exact hp.elim
   | panic ch=>exact hp.elim
   | outgrown=>exact hp.elim
  ·rintro e W2 ⟨⟨v,rfl⟩,⟨hi,hl,hk⟩|⟨c,hi,hl,hk⟩⟩;·exact⟨none,_,LD,tC _ _ (aF _) (MH _ _ _ _ _ hi aa hl rfl) ((World.putObj_heap_other aa).trans hk)⟩
   ·exact⟨some c,_,LD,Jn _ c _ (aF _) (hXp _ _ _ _ _ hi aa hl rfl) ((World.putObj_heap_other aa).trans hk)⟩
def vM:List Oper->Bool
 | []=>true
 | o::l=>(match o.op with|.defer _=>false|_=>true)&&vM l
theorem yz: ∀{l:List Oper},vM l=true-> ∀o∈l,∀c,o.op≠ .defer c
 | [],_,o,ho=>by cases ho
 | o'::l,h,o,ho=>by
  rw[vM,tw]at h;intro c e;rcases List.mem_cons.1 ho with rfl|ho;·have:=h.1;rw[e]at this;cases this
  ·exact yz h.2 o ho c e
theorem tK{md:Region.Mode}{l:List Oper}{Q:Exit->Act->World->Prop}{r:Nat}(kM:F.round=none)(hd:vM l=true): ∀(fuel:Nat) (listed:Array Bool) (a:Act) (w:Lo),wpAnyIn F n P md l.toArray Q fuel listed a w->wpAnyIn (F.inRound r) n P md l.toArray Q fuel listed a w:=by
 intro fuel;induction fuel with
 | zero=>exact λlisted a w h=>h
 | succ fuel ih=>
  intro listed a w h;refine⟨h.1,λi hi=> ?_⟩;have hs:=h.2 i hi;unfold wpOpIn at hs ⊢;split;·rename_i ho;simp only[ho]at hs;exact ih _ _ _ hs
  ·rename_i o ho;simp only[ho]at hs;have hm:o∈l:=(by have:l[i]? =some o:=(by simpa using ho);exact List.mem_of_getElem? this);split;·rename_i hw;simp only[hw,if_true]at hs;refine Oper.wpIn_mono (K:=wpAnyIn F n P md l.toArray Q fuel (listed.setIfInBounds i true)) (λa w h=>ih _ _ _ h) ?_;unfold Oper.wpIn at hs ⊢;rw[kM,Oper.semAt_none]at hs;rw[Fence.inRound_round,Oper.semAt_some _ _ _ (yz hd o hm)];exact hs
   ·rename_i hw;rw[au hw]at hs;exact⟨hs.1,ih _ _ _ hs.2⟩
theorem eU{id r:Nat}{Q:Exit->Act->World->Prop}{a:Act}{w:Lo}{l:List Oper}(kM:F.round=none)(hm:P.follows .mixedOrders=true)(hB:Region.lexB .any l.toArray=true)(hd:vM l=true)
  (h:wpQuietIn F n P l.toArray (λw'=> ∃n,w'=w.drewN n) (λa'=> ∀w',(∃n,w'=w.drewN n)->Q .normal a' w') l a):(Code.region id l.toArray true).wpIn (F.inRound r) n P Q a w:=by
 have fq:=hB;simp only[Region.lexB,tw]at fq;refine wpIn_region_any hm (tK kM hd _ _ _ _ (wpAnyIn_of_quiet (C:=λw'=> ∃n,w'=w.drewN n) (Q:=λa'=> ∀w',(∃n,w'=w.drewN n)->Q .normal a' w') kM (λ_ w' hw' h=>h w' hw') _ _ _ _ ⟨1,rfl⟩ ?_));have:=wpAnyQIn_lex (F:=F) (n:=n) (C:=λw'=> ∃n,w'=w.drewN n) (md:= .any) fq.1 l 0 (Array.replicate l.toArray.size false) a ah (by simpa using fq.2) h;simpa using this
end
section
open Go.Maps Go.WideMaps
theorem t_:ArrKey prog 210 5 2:=⟨underlying210,ak,xA,ak⟩
theorem aja:ArrKey prog 212 5 4:=⟨underlying212,ak,xA,ak⟩
theorem MI:Keyed prog 210:=Keyed.of_law t_.law
theorem Gj:Keyed prog 212:=Keyed.of_law aja.law
def pZ(a b:UInt8):Value:= .agg #[.int .u8 a.toNat,.int .u8 b.toNat]
def tL(a b c d:UInt8):Value:= .agg #[.int .u8 a.toNat,.int .u8 b.toNat,.int .u8 c.toNat,.int .u8 d.toNat]
theorem QX{a b a' b':UInt8}(h:pZ a b=pZ a' b'):a=a'/\b=b':=by unfold pZ at h;simp at h;exact⟨UInt8.toNat_inj.1 aa,UInt8.toNat_inj.1 aa⟩
theorem QY{a b c d a' b' c' d':UInt8}(h:tL a b c d=tL a' b' c' d'):a=a'/\b=b'/\c=c'/\d=d':=by unfold tL at h;simp at h;exact⟨UInt8.toNat_inj.1 aa,UInt8.toNat_inj.1 aa,UInt8.toNat_inj.1 aa,UInt8.toNat_inj.1 aa⟩
theorem VC(a:UInt8):(Lit.int .u8 a.toNat).wf=true:=by have h:=a.toNat_lt;have e1:IntKind.u8.min=0:=rfl;have e2:IntKind.u8.max=255:=rfl;simp[Lit.wf,e1,e2];omega
theorem kt2:prog.keyType 210=true:=ak
theorem kt4:prog.keyType 212=true:=ak
theorem abX: ∃m,prog.types.size=m+1:=⟨prog.types.size-1,ak⟩
theorem ajb(a b:UInt8): ∃l,keyOf prog 210 (pZ a b)=some l:=by obtain⟨m,hm⟩:=abX;unfold keyOf pZ;rw[underlying210,hm];simp[kt2,Value.formed,underlying210,t_.size,Program.keyLits,underlying5,xA,Value.cells,VC,List.range_succ,List.mapM_cons]
theorem ajc(a b c d:UInt8): ∃l,keyOf prog 212 (tL a b c d)=some l:=by obtain⟨m,hm⟩:=abX;unfold keyOf tL;rw[underlying212,hm];simp[kt4,Value.formed,underlying212,aja.size,Program.keyLits,underlying5,xA,Value.cells,VC,List.range_succ,List.mapM_cons]
noncomputable def QZ(a b:UInt8):Lit:=Classical.choose (ajb a b)
theorem mf(a b:UInt8):keyOf prog 210 (pZ a b)=some (QZ a b):=Classical.choose_spec (ajb a b)
theorem VD{a b a' b':UInt8}(h:QZ a b=QZ a' b'):a=a'/\b=b':=QX (MI.inj (mf a b) (h▸mf a' b'))
noncomputable def MJ(a b c d:UInt8):Lit:=Classical.choose (ajc a b c d)
theorem ow(a b c d:UInt8):keyOf prog 212 (tL a b c d)=some (MJ a b c d):=Classical.choose_spec (ajc a b c d)
theorem VE{a b c d a' b' c' d':UInt8}(h:MJ a b c d=MJ a' b' c' d'):a=a'/\b=b'/\c=c'/\d=d':=QY (Gj.inj (ow a b c d) (h▸ow a' b' c' d'))
end
structure dV(w:Lo)(F:Nat)(A:As)(c:Nat)(d:An)(dict nice:Int)(mp:Nat)(v4:Value):Prop where
 box:w.heap[F]? =some (.cells [.slice A d.length c,.int .i64 dict,.int .i64 nice,.map (some mp),v4].toArray 141 (0,0))
 bytes:Bytes w A d
 cap:d.length<=c
 small:d.length<=100000
theorem dV.lt{w:Lo}{F:Nat}{A:As}{c:Nat}{d:An}{dict nice:Int}{mp:Nat}{v4:Value}(h:dV w F A c d dict nice mp v4):F<w.heap.size:=(bU h.box)
theorem dV.below(h:dV w F A c d dict nice mp v4)(hb:Below w.heap.size w w'):dV w' F A c d dict nice mp v4:=
 ⟨(hb.block _ h.lt).trans h.box,h.bytes.below hb,h.cap,h.small⟩
theorem dV.drewN(h:dV w F A c d dict nice mp v4)(m:Nat):dV (w.drewN m) F A c d dict nice mp v4:=h.below (below_drewN (aP _ _) m)
theorem dV.cells(h:dV w F A c d dict nice mp v4):w.cell? ⟨F,0,none⟩=some (.slice A d.length c)/\w.cell? ⟨F,1,none⟩=some (.int .i64 dict)/\w.cell? ⟨F,2,none⟩=some (.int .i64 nice)/\w.cell? ⟨F,3,none⟩=some (.map (some mp))/\w.cell? ⟨F,4,none⟩=some v4:=by refine⟨?_,?_,?_,?_,?_⟩<;>(rw[aC w F _ _ _ _ h.box];rfl)
theorem Jo(F:Nat)(A:As)(c:Nat)(d:An)(dict nice:Int)(mp:Nat)(v4:Value)(p q:Nat)(lm:Int)(w:Lo)(hF:dV w F A c d dict nice mp v4)(hp:p+lm.toNat<=d.length)(hq:q<=p):
  Calls prog 232 #[PF F,.int .i64 p,.int .i64 q,.int .i64 lm] w λe w'=>e= .returned (.int .i64 (bG d p q lm.toNat:Nat))/\ ∃m,w'=w.drewN m:=by
 obtain⟨c0,_,_,_,_⟩:=hF.cells;have VF:=ae (fun(h:0<d.length)=>hF.bytes.addr h);have n9:(d.length:Int)<=100000:=av hF.small;have oj:(d.length:Int)<=c:=av hF.cap;have⟨L,hL⟩:=ex (lm.toNat);rw[hL]at hp ⊢;have HL:Hid (∀n:Nat,n<L↔(n:Int)<lm):=ae (λn=>aa);have HU:=ae (λn (h:vL d p q L n)=>h.is);have⟨E,hE⟩:=ex (bG d p q L);rw[hE]at HU ⊢;have HPQ:=ae (ap hp hq);clear hF hL hE hp hq;go_enter func232,ntmps232;go_wp2_with fail;go_loopw [9] (λi wr=> ∃(n m:Nat),n<=L/\i= .int .i64 (n:Nat)/\Hid (∀i,i<n->d.getD (p+i) 0=d.getD (q+i) 0)/\wr=w.drewN m) (λi _=>L-(intOf i).toNat);·exact⟨0,0,aa,rfl,ae (λi h=>oU),rfl⟩
 ·
  obtain⟨n,m,hn,rfl,qz,rfl⟩:=hrel;by_cases DU:n<L
  ·have h1:=(HL n).1 DU;obtain⟨b,off,rfl,_,cZ⟩:=VF.out (av HPQ.out);have⟨x,hx⟩:=ex (p+n:Nat);have hxi:(p:Int)+(n:Int)=x:=aa;have⟨y,hy⟩:=ex (q+n:Nat);have hyi:(q:Int)+(n:Int)=y:=aa;have hxl:(x:Int)<d.length:=av HPQ.out;have i':(y:Int)<d.length:=av HPQ.out;have cx:=cZ x aa;have cy:=cZ y aa;have HX:Hid (p+n=x/\q+n=y):=ae ⟨hx,hy⟩;have qV:(n:Int)<=100000:=aa;have e1:=dQ (d:=d) (i:=x) aa;have e2:=dQ (d:=d) (i:=y) aa;generalize d[x]'aa=u at*;generalize d[y]'aa=v at*;have zB:=ae (ap e1 e2);clear e1 e2 hx hy cZ VF;by_cases DW:u=v
   ·have adS:((u.toNat:Int)==(v.toNat:Int))=true:=(by rw[DW];simp);have HQ:Hid (∀i,i<n+1->d.getD (p+i) 0=d.getD (q+i) 0):=ae (λi hi=>by
     rcases dN i n with h|h;·exact qz i h
     ·obtain rfl:i=n:=(by omega);rw[HX.1,HX.2,zB.1,zB.2,DW])
    clear DW;go_wp2;go_quiet (fail);go_wp2_with fail;exact⟨⟨n+1,_,aa,aA,HQ,rfl⟩,fP⟩
   ·have adS:((u.toNat:Int)==(v.toNat:Int))=false:=(by rw[gQ];intro h;exact DW (UInt8.toNat_inj.1 aa));have HN:Hid (n=E):=ae (HU n ⟨aa,qz.out,.inr (by rw[HX.1,HX.2,zB.1,zB.2];exact DW)⟩);clear DW;go_wp2;go_quiet (fail);go_wp2;go_ret;exact⟨qM,_,World.drewN_drewN ..⟩
  ·obtain rfl:n=L:=(by omega);have HN:Hid (n=E):=ae (HU n ⟨aa,qz.out,.inl rfl⟩);have h1:decide ((n:Int)<lm)=false:=du (mt (HL n).2 DU);clear VF DU hn;go_wp2;go_quiet (fail);go_wp2;go_ret;exact⟨qM,_,World.drewN_drewN ..⟩
def hasB(d:An)(place:Int):Bool:=decide (0<=place)&&decide (place<(d.length:Int))
theorem PH(F:Nat)(A:As)(c:Nat)(d:An)(dict nice:Int)(mp:Nat)(v4:Value)(place:Int)(w:Lo)(hF:dV w F A c d dict nice mp v4):
  Calls prog 228 #[PF F,.int .i64 place] w λe w'=>e= .returned (.bool (hasB d place))/\w=w':=by
 obtain⟨c0,_,_,_,_⟩:=hF.cells;clear hF;unfold hasB;by_cases h1:0<=place
 ·by_cases h2:place<(d.length:Int);·have e:(decide (0<=place)&&decide (place<(d.length:Int)))=true:=(by simp[h1,h2]);rw[e];clear e;go_enter func228,ntmps228;go_wp2;go_ret;exact⟨rfl,rfl⟩
  ·have e:(decide (0<=place)&&decide (place<(d.length:Int)))=false:=(by simp[h2]);rw[e];clear e;go_enter func228,ntmps228;go_wp2;go_ret;exact⟨rfl,rfl⟩
 ·have e:(decide (0<=place)&&decide (place<(d.length:Int)))=false:=by simp[h1]
  rw[e];clear e;go_enter func228,ntmps228;go_wp2;go_ret;exact⟨rfl,rfl⟩
def d7(d:An)(dict place d6 most:Int):Nat:=
 if 0<=place/\place<(d.length:Int)/\1<=d6/\d6<=place/\d6<=dict then bG d place.toNat (place.toNat-d6.toNat) (tj d place.toNat (min 273 most))else 0
theorem BP(F:Nat)(A:As)(c:Nat)(d:An)(dict nice:Int)(mp:Nat)(v4:Value)(place d6 most:Int)(w:Lo)(hF:dV w F A c d dict nice mp v4):
  Calls prog 192 #[PF F,.int .i64 place,.int .i64 d6,.int .i64 most] w λe w'=>e= .returned (.int .i64 (d7 d dict place d6 most:Nat))/\ ∃m,w'=w.drewN m:=by
 obtain⟨c0,c1,_,_,_⟩:=hF.cells;have HH:=ae (PH F A c d dict nice mp v4 place w hF);have n9:(d.length:Int)<=100000:=av hF.small;have hln:d.length<=100000:=hF.small;unfold d7;by_cases h1:0<=place/\place<(d.length:Int);case neg=>
  have hh:hasB d place=false:=by
   unfold hasB;cases h:(decide (0<=place)&&decide (place<(d.length:Int)))with
   | false=>rfl
   | true=>simp at h;exact absurd h h1
  rw[hh]at HH;rw[au (λh=>h1 ⟨h.1,h.2.1⟩)];clear h1 hh hF;go_enter func192,ntmps192;go_wp2_with fail;refine HH.mono ?_;rintro e w1 ⟨rfl,rfl⟩;go_wp2;go_ret;exact⟨rfl,0,rfl⟩
 have hh:hasB d place=true:=by unfold hasB;simp[h1.1,h1.2]
 rw[hh]at HH;by_cases h2:1<=d6;case neg=>rw[au (λh=>h2 h.2.2.1)];have b2:decide (d6<1)=true:=iz aa;clear h1 hh hF h2;go_enter func192,ntmps192;go_wp2_with fail;refine HH.mono ?_;rintro e w1 ⟨rfl,rfl⟩;go_wp2;go_ret;exact⟨rfl,0,rfl⟩
 have b2:decide (d6<1)=false:=du aa;have⟨MN,hmn⟩:=ex (min place dict:Int);by_cases h3:d6<=place/\d6<=dict;case neg=>rw[au (λh=>h3 ⟨h.2.2.2.1,h.2.2.2.2⟩)];have b3:decide (MN<d6)=true:=iz aa;clear h1 hh hF h2 h3;go_enter func192,ntmps192;go_wp2_with fail;refine HH.mono ?_;rintro e w1 ⟨rfl,rfl⟩;go_wp2;go_ret;exact⟨rfl,0,rfl⟩
 have b3:decide (MN<d6)=false:=du aa;rw[ax ⟨h1.1,h1.2,h2,h3.1,h3.2⟩];obtain⟨p,hp⟩: ∃p:Nat,place=(p:Int):=⟨place.toNat,aa⟩
 obtain⟨k,hk⟩: ∃k:Nat,d6=(k:Int):=⟨d6.toNat,aa⟩
 subst hp;subst hk;simp only[Int.toNat_natCast];have⟨q,hq⟩:=ex (p-k:Nat);have hqi:(p:Int)-(k:Int)=q:=aa;have ud:(p:Int)<=100000:=aa;have t8:(p:Int)<d.length:=h1.2;have xO:(k:Int)<=p:=h3.1;have⟨E,hE⟩:=ex (bG d p (p-k) (tj d p (min 273 most)));rw[hE];have⟨X,hX⟩:=ex ((d.length:Int)-(p:Int):Int);have key: ∀M:Int,min (min 273 most) X=M->Hid (Calls prog 232 #[PF F,.int .i64 p,.int .i64 q,.int .i64 M] w λe w'=>e= .returned (.int .i64 E)/\ ∃m,w'=w.drewN m):=λM hM=>ae (by
  have h:=Jo F A c d dict nice mp v4 p q M w hF aa aa;have e:bG d p q M.toNat=E:=by rw[<-hE,hq];congr 1;unfold tj;rw[hX,hM]
  rw[e]at h;exact h)
 clear h1 hh hF h2 h3 hq hE;by_cases g1:most<273
 ·by_cases g2:X<most;·have HSA:=key X aa;clear key;go_enter func192,ntmps192;go_wp2_with fail;refine HH.mono ?_;rintro e w1 ⟨rfl,rfl⟩;go_wp2_with fail;refine HSA.mono ?_;rintro e w1 ⟨rfl,m,rfl⟩;go_wp2;go_ret;exact⟨rfl,_,rfl⟩
  ·have HSA:=key most aa;clear key;go_enter func192,ntmps192;go_wp2_with fail;refine HH.mono ?_;rintro e w1 ⟨rfl,rfl⟩;go_wp2_with fail;refine HSA.mono ?_;rintro e w1 ⟨rfl,m,rfl⟩;go_wp2;go_ret;exact⟨rfl,_,rfl⟩
 ·by_cases g2:X<273;·have HSA:=key X aa;clear key;go_enter func192,ntmps192;go_wp2_with fail;refine HH.mono ?_;rintro e w1 ⟨rfl,rfl⟩;go_wp2_with fail;refine HSA.mono ?_;rintro e w1 ⟨rfl,m,rfl⟩;go_wp2;go_ret;exact⟨rfl,_,rfl⟩
  ·have HSA:=key 273 aa;clear key;go_enter func192,ntmps192;go_wp2_with fail;refine HH.mono ?_;rintro e w1 ⟨rfl,rfl⟩;go_wp2_with fail;refine HSA.mono ?_;rintro e w1 ⟨rfl,m,rfl⟩;go_wp2;go_ret;exact⟨rfl,_,rfl⟩
section
open Go.RowKit Go.Maps
theorem BQ{w:Lo}{base n:Nat}{t:TypeId}{g:Nat}{xs:List Value}(h:w.ownsRow base t 1 (.slice (some ⟨g,0,none⟩) n n) n xs):w.heap[g]? =some (.cells xs.toArray t (0,0)):=by
 obtain⟨hl,⟨h,_⟩|⟨g',cap,cur,e,_,hg,_,_,dF,ht⟩⟩:=h;·cases h
 ·injection e with e1 _ e3;injection e1 with e1;injection e1 with e1;subst e1;subst e3;rw[Nat.mul_one]at hl dF ht;have:cur.toList=xs:=by rw[<-ht,mZ aH]
  rw[hg,<-this]
theorem u_(n:Nat):(madeCells (Value.int .i32 0).cells (n*1)).toList=List.replicate n (Value.int .i32 0):=by rw[Nat.mul_one,show(Value.int .i32 0).cells= #[Value.int .i32 0]from rfl,toList_madeCells_one]
theorem v_:(prog.info? 21).map (λi=>(i.zero,i.size,i.bytes))=some (some (.int .i32 0),1,4):=ak
theorem zC{ops:Array Oper}{rest:List Oper}{o:Oper}{a:Act}{Q:Exit->Act->World->Prop}(oV:o.guard=none)(x y:Operand)(ho:o.op= .makeSlice 139 x y)
  (n:Nat) (w:Lo) (hx:a.eval x= .int .i64 n) (hy:a.eval y= .int .i64 n) (hn:n<=1000000)
  (h: ∀w',w'.heap[w.heap.size]? =some (.cells (List.replicate n (Value.int .i32 0)).toArray 21 (0,0))->w.grownBy w' none->wpList prog ops Q rest (a.put o.dst (.slice (some ⟨w.heap.size,0,none⟩) n n)) w'):wpList prog ops Q (o::rest) a w:=by
 refine wpList_plain oV λK hK=> ?_;obtain⟨i,hi,qw,kC,me⟩:=info_parts v_;obtain⟨w',hr,h1,h2⟩:=run_make_full (P:=prog) w w.heap.size 139 21 i (.int .i32 0) 1 underlying139 hi qw kC .i64 .i64 n qL iJ (aF _);rw[u_]at h1;unfold Oper.wp execOp;simp only[ho,hx,hy,Sem.run_bind,Sem.run_pure,Result.andThen_ok,hr];exact hK _ _ (h w' (BQ h1) h2)
def four(d:An)(i:Nat):UInt8×UInt8×UInt8×UInt8:=(d.getD i 0,d.getD (i+1) 0,d.getD (i+2) 0,d.getD (i+3) 0)
def cU(d:An)(x:UInt8×UInt8×UInt8×UInt8):Nat->Int
 | 0=> -1
 | n+1=>if four d n=x then(n:Int)else cU d x n
theorem kT(d:An)(x:UInt8×UInt8×UInt8×UInt8): ∀n,-1<=cU d x n/\cU d x n<(n:Int)\/n=0/\cU d x n= -1
 | 0=> .inr ⟨rfl,rfl⟩
 | n+1=>by
  unfold cU;split;·left;omega
  ·rcases kT d x n with h|⟨h,e⟩
   ·left;omega
   ·left;rw[e];omega
def jF(d:An)(n:Nat):List Value:=(List.range n).map λi=>Value.int .i32 (cU d (four d i) i)
def iR(w:Lo)(b:Nat)(d:An)(n:Nat):Prop:=
 ∃D:DataW Unit,w.ownsMap prog 212 (plainElem prog 21) b n D/\
  ∀x:UInt8×UInt8×UInt8×UInt8,(Maps.has D (MJ x.1 x.2.1 x.2.2.1 x.2.2.2)=true↔0<=cU d x n)/\(0<=cU d x n->D.atKey (MJ x.1 x.2.1 x.2.2.1 x.2.2.2) (.lit (.int .i32 0))= .lit (.int .i32 (cU d x n)))
theorem iR.aU{w w':Lo}{b n:Nat}{d:An}(h:iR w b d n)(hb:w'.heap[b]? =w.heap[b]?):iR w' b d n:=by obtain⟨D,⟨es,clock,h1,r⟩,h2⟩:=h;exact⟨D,⟨es,clock,hb.trans h1,r⟩,h2⟩
theorem iR.made(w:Lo)(d:An):iR (w.alloc (.map #[] 0)) w.heap.size d 0:=
 ⟨_,World.ownsMap_made w prog _ _,λx=>⟨by simp[Maps.has,cU],λh=>by simp[cU]at h⟩⟩
noncomputable abbrev PI(x:UInt8×UInt8×UInt8×UInt8):Lit:=MJ x.1 x.2.1 x.2.2.1 x.2.2.2
abbrev BR(x:UInt8×UInt8×UInt8×UInt8):Value:=tL x.1 x.2.1 x.2.2.1 x.2.2.2
theorem Q0{x y:UInt8×UInt8×UInt8×UInt8}(h:PI x=PI y):x=y:=by obtain⟨h1,h2,h3,h4⟩:=VE h;obtain⟨a,b,c,d⟩:=x;obtain⟨a',b',c',d'⟩:=y;simp_all
theorem w_(w:Lo):(zeroValue 21).run prog w= .ok (.int .i32 0) w:=by first|rfl|simp[zeroValue]
theorem adU{z:Int}(h0: -1<=z)(h1:z<=1000000):(Lit.int .i32 z).wf=true:=by have e1:IntKind.i32.min= -2147483648:=rfl;have e2:IntKind.i32.max=2147483647:=rfl;simp[Lit.wf,e1,e2];omega
def seen(d:An)(x:UInt8×UInt8×UInt8×UInt8)(n:Nat):Bool:=decide (0<=cU d x n)
theorem iR.look{w:Lo}{b n:Nat}{d:An}(h:iR w b d n)(x:UInt8×UInt8×UInt8×UInt8): ∃c:Int,(Instr.lookup 211 (.map (some b)) (BR x) true).run prog w= .ok (.tuple #[.int .i32 c,.bool (seen d x n)]) w/\(seen d x n=true->c=cU d x n):=by
 obtain⟨D,h1,h2⟩:=h;obtain⟨v,ps,hr,hv⟩:=h1.look_ok Gj underlying211 (w_ w) (plainElem_int (H:=Unit) underlying21 (adU aa aa)) (ow x.1 x.2.1 x.2.2.1 x.2.2.2);obtain⟨c,rfl,hc,_⟩:=plainElem_int_inv underlying21 hv;have e:Maps.has D (MJ x.1 x.2.1 x.2.2.1 x.2.2.2)=seen d x n:=by rw[Bool.eq_iff_iff,(h2 x).1];simp[seen]
 refine⟨c,by rw[hr,e],λhs=> ?_⟩;have hs:0<=cU d x n:=by simpa [seen]using hs
 have e2:=(h2 x).2 hs;have e3:=aR Prod.fst hc;simp only at e3;rw[e2]at e3;injection e3 with e3;injection e3 with _ e3;exact e3.symm
theorem iR.put{w:Lo}{b n:Nat}{d:An}(h:iR w b d n)(hn:n<=100000): ∃w',(Instr.mapUpdate 211 (.map (some b)) (BR (four d n)) (.int .i32 n)).run prog w= .ok () w'/\iR w' b d (n+1)/\w.mapTurned w' b:=by
 obtain⟨D,h1,h2⟩:=h;obtain⟨w',hr,ho,ht⟩:=h1.store Gj underlying211 iJ (ow (four d n).1 (four d n).2.1 (four d n).2.2.1 (four d n).2.2.2) (plainElem_int (H:=Unit) underlying21 (a:=(n:Nat)) (adU aa aa));have hk:=Gj.key (ow (four d n).1 (four d n).2.1 (four d n).2.2.1 (four d n).2.2.2);refine⟨w',hr,⟨_,ho,λx=> ?_⟩,ht⟩;by_cases hx:four d n=x;·subst hx;rw[has_put_same h1.isMap hk,atKey_put_same h1.isMap hk];simp[cU]
 ·have fj:PI x≠PI (four d n):=λe=>hx (Q0 e).symm;have e:cU d x (n+1)=cU d x n:=by rw[cU,au hx]
  rw[e,has_put_other fj,atKey_put_other fj];exact h2 x
theorem xR(d:An)(k:Nat):(jF d k).length=k:=by simp[jF]
theorem Ex(d:An)(n k:Nat)(hk:k<n)(z:Int)(hz:z=cU d (four d k) k):((jF d k)++List.replicate (n-k) (Value.int .i32 0)).set k (.int .i32 z)=jF d (k+1)++List.replicate (n-(k+1)) (Value.int .i32 0):=by
 have e:n-k=(n-(k+1))+1:=aa;rw[e,List.replicate_succ,List.set_append_right _ _ (by rw[xR];exact aF _),xR,lJ,List.set_cons_zero,hz];have e2:jF d (k+1)=jF d k++[.int .i32 (cU d (four d k) k)]:=by simp[jF,List.range_succ]
 rw[e2,eY];rfl
end
def chain(d:An)(x:UInt8×UInt8×UInt8×UInt8):Nat->List Nat
 | 0=>[]
 | n+1=>if four d n=x then n::chain d x n else chain d x n
theorem pr(d:An)(x:UInt8×UInt8×UInt8×UInt8)(n:Nat):chain d x (n+1)=if four d n=x then n::chain d x n else chain d x n:=rfl
theorem BS: ∀{n},cU d x n<0->chain d x n=[]
 | 0,_=>rfl
 | n+1,h=>by
  unfold cU at h;rw[pr];split at h;·omega
  ·rename_i hx;rw[au hx];exact BS h
theorem BT: ∀{n},cU d x n=(j:Int)->chain d x n=j::chain d x j/\j<n/\four d j=x
 | 0,h=>by simp[cU]at h
 | n+1,h=>by
  unfold cU at h;rw[pr];split at h;·rename_i hx;obtain rfl:n=j:=aa;rw[ax hx];exact⟨rfl,aa,hx⟩
  ·rename_i hx;rw[au hx];obtain⟨h1,h2,h3⟩:=BT h;exact⟨h1,aa,h3⟩
theorem mg: ∀{n},j∈chain d x n↔j<n/\four d j=x
 | 0=>by simp[chain]
 | n+1=>by
  rw[pr];split
  ·rename_i hx;rw[dc,mg];constructor
   ·rintro(rfl|⟨h1,h2⟩);·exact⟨aa,hx⟩
    ·exact⟨aa,h2⟩
   ·rintro⟨h1,h2⟩;rcases dN j n with h|h;·exact .inr ⟨h,h2⟩
    ·exact .inl aa
  ·rename_i hx;rw[mg];constructor;·rintro⟨h1,h2⟩;exact⟨aa,h2⟩
   ·rintro⟨h1,h2⟩;rcases dN j n with h|h;·exact⟨h,h2⟩
    ·obtain rfl:j=n:=(by omega);exact absurd h2 hx
theorem rt(d:An)(x:UInt8×UInt8×UInt8×UInt8): ∀n,(chain d x n).Pairwise (· > ·)
 | 0=>List.Pairwise.nil
 | n+1=>by
  rw[pr];split;·exact List.pairwise_cons.2 ⟨λj hj=>(mg.1 hj).1,rt d x n⟩
  ·exact rt d x n
theorem Jp(h:4<=bG d p q L):four d q=four d p:=by have hi:=(fu d L p q).eq;have h0:=hi 0 aa;have h1:=hi 1 aa;have h2:=hi 2 aa;have h3:=hi 3 aa;simp only[Nat.add_zero]at h0;unfold four;rw[h0,h1,h2,h3]
theorem Jq(h:2<=bG d p q L):d.getD q 0=d.getD p 0/\d.getD (q+1) 0=d.getD (p+1) 0:=by have hi:=(fu d L p q).eq;have h0:=hi 0 aa;have h1:=hi 1 aa;simp only[Nat.add_zero]at h0;exact⟨h0.symm,h1.symm⟩
def places(d:An)(a b:UInt8)(n:Nat):List Nat:=(List.range n).filter λi=>d.getD i 0==a&&d.getD (i+1) 0==b
theorem yA(d:An)(a b:UInt8)(n:Nat):places d a b (n+1)=places d a b n++(if d.getD n 0=a/\d.getD (n+1) 0=b then [n]else []):=by
 unfold places;rw[List.range_succ,List.filter_append];congr 1;by_cases h:d.getD n 0=a/\d.getD (n+1) 0=b
 ·have e:(d.getD n 0==a&&d.getD (n+1) 0==b)=true:=by rw[h.1,h.2];simp
  rw[ax h];simp only[List.filter_cons,List.filter_nil,e,if_true]
 ·rw[au h];simp only[List.filter_cons,List.filter_nil];rw[au];intro h2;simp at h2;exact h (by simpa using h2)
theorem pu{a b:UInt8}{i:Nat}:i∈places d a b n↔i<n/\d.getD i 0=a/\d.getD (i+1) 0=b:=by unfold places;rw[List.mem_filter,List.mem_range];simp only[tw,beq_iff_eq]
theorem yB(d:An)(a b:UInt8)(n:Nat):(places d a b n).Pairwise (· < ·):=List.Pairwise.filter _ (List.pairwise_lt_range)
def br(b:Nat)(w:Lo)(v:Value):Prop:= ∃t,w.heap[b]? =some (.cells [v].toArray t (0,0))
theorem br.cell{b:Nat}{w:Lo}{v:Value}(h:br b w v):w.cell? ⟨b,0,none⟩=some v:=by obtain⟨t,h⟩:=h;rw[aC w b _ _ _ _ h];rfl
theorem br.aU{b:Nat}{v:Value}(h:br b w v)(hb:w'.heap[b]? =w.heap[b]?):br b w' v:=by obtain⟨t,h⟩:=h;exact⟨t,hb.trans h⟩
theorem br.made(w:Lo)(v:Value)(t:TypeId):br w.heap.size (w.alloc (.cells #[v] t)) v:=⟨t,bz _ _⟩
def VG(F:Nat)(place:Int)(w:Lo)(e:Ending)(w':Lo):Prop:= ∃b1 b2,e= .returned (.func (.func 252) #[] #[PF b1,PF b2])/\br b1 w' (PF F)/\br b2 w' (.int .i64 place)/\w.heap.size<=b1/\w.heap.size<=b2/\Below w.heap.size w w'
theorem BU(F:Nat)(place:Int)(w:Lo):Calls prog 230 #[PF F,.int .i64 place] w (VG F place w):=by
 have⟨W1,ek⟩:=ex (w.alloc (.cells #[PF F] 97));have⟨W2,gH⟩:=ex (W1.alloc (.cells #[.int .i64 place] 3));have aI:Below w.heap.size w W1:=AV;have aK:Below W1.heap.size W1 W2:=tZ;have ks:br w.heap.size W1 (PF F):=by rw[<-ek];exact br.made _ _ _
 have fK:br W1.heap.size W2 (.int .i64 place):=by rw[<-gH];exact br.made _ _ _
 have aV:w.heap.size<W1.heap.size:=xt;have HH:=ae (ap aI (ap aK (ap ks (ap fK aV))));have xd:=ae ek;have rf:=ae gH;have dF:Hid (W1.heap.size=w.heap.size+1):=ae xt;clear ek gH aI aK ks fK aV;go_enter func230,ntmps230;go_wp2_with fail;rw[xd.out,rf.out];go_ret;refine⟨w.heap.size,W1.heap.size,?_,HH.2.2.1.aU (HH.2.1.block _ HH.2.2.2.2),HH.2.2.2.1,aF _,Nat.le_of_lt HH.2.2.2.2,HH.1.trans (HH.2.1.mono (Nat.le_of_lt HH.2.2.2.2))⟩;first|rfl|(rw[dF.out];rfl)
theorem x_(x:Int)(w:Lo):Calls prog 273 #[.int .i32 x] w λe w'=>e= .returned (.bool false)/\w=w':=by go_enter func273,ntmps273;go_wp2;go_ret;exact⟨rfl,rfl⟩
theorem VH(x:Int)(w:Lo):Calls prog 267 #[.int .i32 x] w λe w'=>e= .returned (.bool false)/\w=w':=by go_enter func267,ntmps267;go_wp2;go_ret;exact⟨rfl,rfl⟩
theorem VI(x y:Int)(w:Lo):Calls prog 266 #[.int .i32 x,.int .i32 y] w λe w'=>e= .returned (.bool (decide (x<y)))/\w=w':=by have HN:=ae x_;generalize hb:decide (x<y)=b;go_enter func266,ntmps266;go_wp2_with fail;refine(HN _ _).mono ?_;rintro e w1 ⟨rfl,rfl⟩;go_wp2;go_ret;exact⟨rfl,rfl⟩
def ru(w:Lo)(A:As)(l:List Nat):Prop:= ∀i (h:i<l.length),∃g,A=some ⟨g,0,none⟩/\w.cell? ⟨g,i,none⟩=some (.int .i32 (l[i]:Nat))
def MK(l:List Nat)(x:Nat)(w:Lo)(e:Ending)(w':Lo):Prop:=(∃(i:Nat) (b:Bool),e= .returned (.tuple #[.int .i64 i,.bool b])/\i<=l.length/\(∀q (h:q<l.length),q<i->l[q]<x)/\(∀q (h:q<l.length),i<=q->x<=l[q]))/\w=w'
theorem ML(A:As)(l:List Nat)(c x:Nat)(w:Lo)(hA:ru w A l)(hl:l.length<=100000)(hc:l.length<=c)(hs:l.Pairwise (· < ·)):
  Calls prog 253 #[.slice A l.length c,.int .i32 x] w (MK l x w):=by
 have n9:(l.length:Int)<=100000:=aa;have oj:(l.length:Int)<=c:=aa;have HA:=ae hA;have ue:=ae VI;have HNA:=ae VH;have HSO:Hid (∀p q (hp:p<l.length) (hq:q<l.length),p<q->l[p]<l[q]):=ae (λp q hp hq h=>List.pairwise_iff_getElem.1 hs p q hp hq h);clear hA hs hc;go_enter func253,ntmps253;go_wp2_with fail;go_loopw [7,8] (λa b wr=> ∃i j:Nat,i<=j/\j<=l.length/\a= .int .i64 i/\b= .int .i64 j/\Hid (∀q (h:q<l.length),q<i->l[q]<x)/\Hid (∀q (h:q<l.length),j<=q->x<=l[q])/\wr=w) (λa b _=>(intOf b).toNat-(intOf a).toNat);·exact⟨0,l.length,aa,aF _,rfl,rfl,ae (λq _ h=>aa),ae (λq h h2=>aa),rfl⟩
 ·
  obtain⟨i,j,hij,hj,rfl,rfl,H1,H2,rfl⟩:=hrel;by_cases aV:i<j
  ·have Jr:(i:Int)<j:=(by omega);have hj4:(j:Int)<=100000:=aa;have⟨m,hm⟩:=ex ((i+j)/2:Nat);have vu:m<l.length:=aa;have tF:(m:Int)<l.length:=aa;obtain⟨g,rfl,hcell⟩:=HA.out m vu;have e1:((i:Int)+(j:Int))/2=(m:Int):=aa;have HH:=ae (show i<=m/\m<j by omega);have⟨y,hy⟩:=ex (l[m]);rw[hy]at hcell;have HY:=ae hy;clear hy hm;by_cases hyx:y<x
   ·have hb:decide ((y:Int)<x)=true:=iz aa;have Mt:=ae (ue (y:Int) (x:Int) wr);rw[hb]at Mt;have H3:Hid (∀q (h:q<l.length),q<m+1->l[q]<x):=ae (λq hq h2=>by
     rcases dN q m with h3|h3;·have:=HSO.out q m hq vu h3;have:=HY.out;omega
     ·obtain rfl:q=m:=(by omega);have:=HY.out;omega)
    clear hb;go_wp2_with fail;refine Mt.mono ?_;rintro e w1 ⟨rfl,rfl⟩;go_wp2_with fail;exact⟨⟨m+1,j,av HH.out,hj,aA,rfl,H3,H2,by trivial⟩,by have:=HH.out;simp[intOf];omega⟩
   ·have hb:decide ((y:Int)<x)=false:=du aa;have Mt:=ae (ue (y:Int) (x:Int) wr);rw[hb]at Mt;have H3:Hid (∀q (h:q<l.length),m<=q->x<=l[q]):=ae (λq hq h2=>by
     rcases dN m q with h3|h3;·have:=HSO.out m q vu hq h3;have:=HY.out;omega
     ·obtain rfl:q=m:=(by omega);have:=HY.out;omega)
    clear hb;go_wp2_with fail;refine Mt.mono ?_;rintro e w1 ⟨rfl,rfl⟩;go_wp2_with fail;exact⟨⟨i,m,av HH.out,aa,rfl,rfl,H1,H3,by trivial⟩,by have:=HH.out;simp[intOf];omega⟩
  ·obtain rfl:i=j:=(by omega);have hi4:(i:Int)<=100000:=aa;by_cases Zj:i<l.length
   ·have apW:(i:Int)<l.length:=(by omega);obtain⟨g,rfl,hcell⟩:=HA.out i Zj;have⟨y,hy⟩:=ex (l[i]);rw[hy]at hcell;clear hy;by_cases hyx:y=x;·subst hyx;go_wp2;go_ret2;exact⟨⟨i,true,rfl,hj,H1.out,H2.out⟩,rfl⟩
    ·have hb:((y:Int)==(x:Int))=false:=(by rw[gQ];omega);go_wp2_with fail;refine(HNA _ _).mono ?_;rintro e w1 ⟨rfl,rfl⟩;go_wp2;go_ret2;exact⟨⟨i,false,rfl,hj,H1.out,H2.out⟩,rfl⟩
   ·have apW: ¬(i:Int)<l.length:=(by omega);go_wp2;go_ret2;exact⟨⟨i,false,rfl,hj,H1.out,H2.out⟩,rfl⟩
section
open Go.RowKit Go.Shelf
attribute [local go_sem] Oper.semAt_some
theorem MM{w:Lo}{B n:Nat}{d:An}(h:w.heap[B]? =some (.cells (jF d n).toArray 21 (0,0)))(i:Nat)(hi:i<n):w.cell? ⟨B,i,none⟩=some (.int .i32 (cU d (four d i) i)):=by rw[aC w B _ _ _ _ h];simp[jF,hi]
theorem VJ(F:Fence)(n:Nat)(Ew:F.fn 252)(kM:F.round=none)(hn:1<=n)(Fp:Nat)(A:As)(c:Nat)(d:An)(dict nice:Int)(mp B N:Nat)(b1 b2 place:Nat)(w:Lo)
  (hF:dV w Fp A c d dict nice mp (.slice (some ⟨B,0,none⟩) N N)) (hB:w.heap[B]? =some (.cells (jF d N).toArray 21 (0,0))) (ks:br b1 w (PF Fp)) (fK:br b2 w (.int .i64 place)) (hp:place<N) (hN:N<=d.length):
  PG F n prog 252 #[PF b1,PF b2] (chain d (four d place) place) w:=by
 intro l J Jx W Zk hJD hXD hY h0;have fV:=Zk _ _ h0;have HC:Hid (∀W,aq w W->W.cell? ⟨b1,0,none⟩=some (PF Fp)/\W.cell? ⟨b2,0,none⟩=some (.int .i64 place)/\W.cell? ⟨Fp,4,none⟩=some (.slice (some ⟨B,0,none⟩) N N)/\ ∀i,i<N->W.cell? ⟨B,i,none⟩=some (.int .i32 (cU d (four d i) i))):=ae (λW hb=>by
  have zq:b1<w.heap.size:=by obtain⟨t,h⟩:=ks;exact(bU h)
  have zu:b2<w.heap.size:=by obtain⟨t,h⟩:=fK;exact(bU h)
  exact⟨(ks.aU (hb.block _ zq)).cell,(fK.aU (hb.block _ zu)).cell,(hF.below hb).cells.2.2.2.2,λi hi=>MM ((hb.block _ (bU hB)).trans hB) i hi⟩)
 have HY:=ae hY;have HJB:=ae Zk;have HJD:=ae hJD;have HXD:=ae hXD;have ud:(place:Int)<N:=aa;have hNi:(N:Int)<=100000:=av hF.small;have xg:=ae (ap hp hN);obtain⟨c1,c2,c3,c4⟩:=HC.out W fV;have c5:=c4 place hp;have HLB:Hid (∀m,m<=place-> -1<=cU d (four d place) m/\cU d (four d place) m<place\/cU d (four d place) m= -1):=ae (λm hm=>by
  rcases kT d (four d place) m with h|⟨_,h⟩
  ·left;omega
  ·right;exact h)
 have LN:=ae h0;have⟨x,hx⟩:=ex (four d place);rw[hx]at c5 HLB ⊢;rw[hx]at HY;have HXE:=ae hx;clear hF hB ks fK Zk hJD hXD hY h0 hp hN c4 hx;refine callsIn_of_wp func252 rfl Ew ?_ kM;simp only[ntmps252,List.size_toArray,el,List.length_nil,Nat.reduceAdd,Nat.reduceSub,Array.replicate_succ,Array.replicate_zero,List.push_toArray,List.append_toArray,fL,List.cons_append]
 gi_wp2
 refine wpIn_region_quiet_lit kM ak ak ?_;repeat (gi_big_quiet_step (fail))
 refine wpQuietIn_nil ?_;rintro _ ⟨nq,rfl⟩
 gi_wp2
 gi_loopw [4] (λv wr=> ∃(pre:List Nat) (m:Nat) (q:Int),v= .int .i32 q/\Hid (q=cU d x m)/\Hid (chain d x place=pre++chain d x m)/\m<=place/\J pre wr) (λv _=>(intOf v+1).toNat)
 ·exact⟨[],place,_,rfl,rfl,rfl,aF _,HJD.out _ _ _ LN.out⟩
 ·
  obtain⟨pre,m,q,rfl,HQ,HL,hm,zD⟩:=hrel;clear c1 c2 c3 c5;have hqb:=HLB.out m hm;rw[<-HQ.out]at hqb;have HJS:=ae zD;by_cases tM:q= -1
  ·subst tM;have HE:Hid (pre=chain d x place):=ae (by
    rw[HL.out,BS (by rw[<-HQ.out];decide),iV])
   clear hqb zD
   gi_wp2
   refine⟨(λ_ h=>nomatch h),?_⟩
   gi_wp2
   go_end0;exact⟨⟨_,rfl⟩,.inl (by rw[<-HE.out];exact HJS.out)⟩
  ·obtain⟨j,rfl⟩: ∃j:Nat,q=(j:Int):=⟨q.toNat,aa⟩
   obtain⟨e1,e2,e3⟩:=BT HQ.symm;have zo:(j:Int)<place:=aa;have fj:((j:Int)== -1)=false:=(by rw[gQ];omega);obtain⟨fn,tmps,assign,body,hy,hR⟩:=HY.out pre j (chain d x j) wr (by rw[HL.out,e1]) zD;have PJ:Hid (chain d x place=(pre++[j])++chain d x j):=ae (by rw[HL.out,e1];simp);have HJP:Hid (j<=place):=ae aa;have HJX:Hid (four d j=x):=ae e3;clear e1 e2 e3 hqb tM zD
   gi_wp2
   refine hR.mono ?_;rintro e W3 (⟨rfl,Hy⟩|⟨rfl,tN⟩)
   ·obtain⟨c1,c2,c3,c4⟩:=HC.out W3 (HJB _ _ Hy);have c5:=c4 j (by have:=HJP.out;have:=xg.out;omega);rw[HJX.out]at c5;have hjN:(j:Int)<N:=aa;have HJ3:=ae Hy;clear c4 Hy;have⟨q2,oP⟩:=ex (cU d x j);have ayF:q2<(j:Int):=by rcases kT d x j with h|⟨_,h⟩<;>omega
    rw[oP]at c5;have yC:Hid (q2=cU d x j):=ae oP.symm;clear oP
    gi_wp2
    go_roundw;case rel=>exact⟨pre++[j],j,q2,rfl,yC,PJ,HJP.out,HJ3.out⟩
    case measure=>simp[intOf];omega
   ·have Q1:=ae tN;clear tN
    gi_wp2
    go_end0;exact⟨⟨_,rfl⟩,.inr Q1.out⟩
theorem y_{w:Lo}{a:Addr}{v:Value}(h:w.cell? a=some v):a.block<w.heap.size:=by obtain⟨o,ho,_⟩:=cells_of_cell h;exact(bU ho)
theorem ru.below{w w':Lo}{A:As}{l:List Nat}(h:ru w A l)(hb:Below w.heap.size w w'):ru w' A l:=by intro i hi;obtain⟨g,hA,hc⟩:=h i hi;exact⟨g,hA,(hb.cell (p:=⟨g,i,none⟩) (y_ hc)).trans hc⟩
theorem VK(F:Fence)(n:Nat)(Ew:F.fn 254)(kM:F.round=none)(hn:1<=n)(A:As)(c:Nat)(l:List Nat)(b1 b2 h:Nat)(w:Lo)
  (hA:ru w A l) (hc:l.length<=c) (hl:l.length<=100000) (hs: ∀x∈l,x<=100000) (ks:br b1 w (.int .i64 (h:Nat))) (fK:br b2 w (.slice A l.length c)) (hh:h<=l.length):
  PG F n prog 254 #[PF b1,PF b2] (l.take h).reverse w:=by
 intro ll J Jx W Zk hJD hXD hY h0;have fV:=Zk _ _ h0;have HC:Hid (∀W,aq w W->W.cell? ⟨b1,0,none⟩=some (.int .i64 (h:Nat))/\W.cell? ⟨b2,0,none⟩=some (.slice A l.length c)/\ru W A l):=ae (λW hb=>by
  have zq:b1<w.heap.size:=by obtain⟨t,h⟩:=ks;exact(bU h)
  have zu:b2<w.heap.size:=by obtain⟨t,h⟩:=fK;exact(bU h)
  exact⟨(ks.aU (hb.block _ zq)).cell,(fK.aU (hb.block _ zu)).cell,hA.below hb⟩)
 have HY:=ae hY;have HJB:=ae Zk;have HJD:=ae hJD;have HS:=ae (fun(i:Nat) (hi:i<l.length)=>hs _ (lF hi));have oj:(l.length:Int)<=c:=aa;have n9:(l.length:Int)<=100000:=aa;have Ll:(h:Int)<=(l.length:Int):=aa;obtain⟨c1,c2,_⟩:=HC.out W fV;have LN:=ae h0;clear hA ks fK Zk hJD hXD hY h0 hc hs;refine callsIn_of_wp func254 rfl Ew ?_ kM;simp only[ntmps254,List.size_toArray,el,List.length_nil,Nat.reduceAdd,Nat.reduceSub,Array.replicate_succ,Array.replicate_zero,List.push_toArray,List.append_toArray,fL,List.cons_append]
 gi_wp2
 gi_loopw [4] (λv wr=> ∃(pre:List Nat) (m:Nat),v= .int .i64 ((m:Int)-1)/\Hid ((l.take h).reverse=pre++(l.take m).reverse)/\m<=h/\J pre wr) (λv _=>(intOf v+1).toNat)
 ·exact⟨[],h,rfl,rfl,aF _,LN.out⟩
 ·
  obtain⟨pre,m,rfl,HL,hm,zD⟩:=hrel;clear c1 c2;have HJS:=ae zD;cases m with
  | zero=>
   have HE:Hid (pre=(l.take h).reverse):=ae (by rw[HL.out];simp);clear zD
   gi_wp2
   refine⟨(λ_ h=>nomatch h),?_⟩
   gi_wp2
   go_end0;exact⟨⟨_,rfl⟩,.inl (by rw[<-HE.out];exact HJS.out)⟩
  | succ j=>
   have qu:j<l.length:=aa;have e1:(l.take (j+1)).reverse=l[j]::(l.take j).reverse:=(by rw[List.take_add_one,dS qu];simp);obtain⟨_,c2,c3⟩:=HC.out wr (HJB _ _ zD);obtain⟨g,rfl,c4⟩:=c3 j qu;have hx:=HS.out j qu;have⟨x,hxe⟩:=ex (l[j]);rw[hxe]at e1 hx c4;obtain⟨fn,tmps,assign,body,hy,hR⟩:=HY.out pre x (l.take j).reverse wr (by rw[HL.out,e1]) zD;have PJ:Hid ((l.take h).reverse=(pre++[x])++(l.take j).reverse):=ae (by rw[HL.out,e1];simp);have zo:(j:Int)<(l.length:Int):=aa;have hxi:(x:Int)<=100000:=aa;have ej:((j+1:Nat):Int)-1=(j:Int):=aa;rw[ej];have HJH:Hid (j<=h):=ae aa;clear e1 c3 zD hxe ej hm qu hx
   gi_wp2
   refine hR.mono ?_;rintro e W3 (⟨rfl,Hy⟩|⟨rfl,tN⟩)
   ·have HJ3:=ae Hy;clear Hy
    gi_wp2
    go_roundw;case rel=>exact⟨pre++[x],j,rfl,PJ,HJH.out,HJ3.out⟩
    case measure=>simp[intOf]
   ·have Q1:=ae tN;clear tN
    gi_wp2
    go_end0;exact⟨⟨_,rfl⟩,.inr Q1.out⟩
end
section
open Go.RowKit Go.Shelf
attribute [local go_sem] Oper.semAt_some
theorem eE.more{S T:Nat->Prop}{f:Nat->Nat}{n k:Nat}(h:eE S f n k)(hST: ∀j,S j->T j)(hT: ∀j,T j->S j\/(f j<=n/\ ∀s,S s->s<j)):eE T f n k:=by
 refine⟨λj hj=> ?_,λj hj aV=> ?_,h.at_.imp id fun⟨a,b⟩=>⟨hST k a,b⟩⟩
 ·rcases hT j hj with e|⟨e,_⟩
  ·exact h.le j e
  ·exact e
 ·rcases hT j hj with e|⟨_,e⟩
  ·exact h.lt j e aV
  ·rcases h.at_ with⟨_,rfl⟩|⟨e2,_⟩
   ·omega
   ·have:=e k e2;omega
def iM(place:Nat)(L:List Nat)(j:Nat):Prop:= ∃x∈L,j=place-x
theorem Q2{place j:Nat}: ¬iM place [] j:=fun⟨_,h,_⟩=>oU
theorem BW{place:Nat}{L:List Nat}{x j:Nat}:iM place (L++[x]) j↔iM place L j\/j=place-x:=by
 unfold iM;constructor
 ·rintro⟨y,hy,rfl⟩;rcases List.mem_append.1 hy with h|h;·exact .inl ⟨y,h,rfl⟩
  ·rw[List.mem_singleton]at h;subst h;exact .inr rfl
 ·rintro(⟨y,hy,rfl⟩|rfl);·exact⟨y,List.mem_append_left _ hy,rfl⟩
  ·exact⟨x,ah,rfl⟩
theorem KeepsOthers.drewN(W:Lo)(m:Nat):KeepsOthers W (W.drewN m):=⟨aF _,λ_ _ h _=>h⟩
structure gD(w:Lo)(b0 b1 b2 b3 b4:Nat)(f:Nat->Nat)(place lm:Nat)(Fp:Nat)(n k:Nat)(S:Nat->Prop)(W:Lo):Prop where
 below:Below w.heap.size w W
 bf:br b0 W (PF Fp)
 bp:br b1 W (.int .i64 place)
 bl:br b2 W (.int .i64 lm)
 bn:br b3 W (.int .i64 n)
 bd:br b4 W (.int .i64 k)
 Js:eE S f n k
 le:n<=lm
 kl:k<=place
theorem br.lt{b:Nat}{w:Lo}{v:Value}(h:br b w v):b<w.heap.size:=by obtain⟨t,h⟩:=h;exact(bU h)
theorem br.set{b:Nat}{w:Lo}{v:Value}(h:br b w v)(u:Value):br b (w.setCell ⟨b,0,none⟩ u) u:=by obtain⟨t,h⟩:=h;exact⟨t,by rw[heap_setCell_same w b 0 _ _ u h];rfl⟩
theorem br.frozen{b:Nat}{w:Lo}{v:Value}(h:br b w v):w.frozen? ⟨b,0,none⟩=false:=by obtain⟨t,h⟩:=h;exact aS w b 0 _ _ h
theorem br.other{b b':Nat}{w:Lo}{v:Value}(h:br b w v)(u:Value)(fj:b≠b'):br b (w.setCell ⟨b',0,none⟩ u) v:=h.aU (af _ _ _ _ fj)
section
variable{w W W':Lo}{b0 b1 b2 b3 b4:Nat}{f:Nat->Nat}{place lm:Nat}{Fp n k:Nat}{S:Nat->Prop}
theorem gD.aU(h:gD w b0 b1 b2 b3 b4 f place lm Fp n k S W)(hb:Below w.heap.size w W')(hk: ∀i v,br i W v->W'.heap[i]? =W.heap[i]?):gD w b0 b1 b2 b3 b4 f place lm Fp n k S W':=
 ⟨hb,h.bf.aU (hk _ _ h.bf),h.bp.aU (hk _ _ h.bp),h.bl.aU (hk _ _ h.bl),h.bn.aU (hk _ _ h.bn),h.bd.aU (hk _ _ h.bd),h.Js,h.le,h.kl⟩
theorem gD.to{T:Nat->Prop}(h:gD w b0 b1 b2 b3 b4 f place lm Fp n k S W)(hb:eE T f n k):gD w b0 b1 b2 b3 b4 f place lm Fp n k T W:=
 ⟨h.below,h.bf,h.bp,h.bl,h.bn,h.bd,hb,h.le,h.kl⟩
theorem gD.alloc(h:gD w b0 b1 b2 b3 b4 f place lm Fp n k S W)(o:Obj):gD w b0 b1 b2 b3 b4 f place lm Fp n k S (W.alloc o):=
 h.aU (h.below.alloc h.below.size _) λ_ _ hi=>ee _ _ _ hi.lt
theorem gD.drewN(h:gD w b0 b1 b2 b3 b4 f place lm Fp n k S W)(m:Nat):gD w b0 b1 b2 b3 b4 f place lm Fp n k S (W.drewN m):=
 h.aU (below_drewN h.below m) λ_ _ hi=>(below_drewN (aP _ _) m:aq W (W.drewN m)).block _ hi.lt
theorem gD.putObj(h:gD w b0 b1 b2 b3 b4 f place lm Fp n k S W)(l:Nat)(o o':Obj)(hl:w.heap.size<=l)(yr:W.heap[l]? =some o)(ho:o.isCells=false):gD w b0 b1 b2 b3 b4 f place lm Fp n k S (W.putObj l o'):=by refine h.aU (h.below.grown (grownBy_putObj' W l o') h.below.size (λk e=>t6)) λi v hi=>World.putObj_heap_other ?_;rintro rfl;obtain⟨t,hv⟩:=hi;rw[hv]at yr;cases yr;cases ho
theorem gD.cells(h:gD w b0 b1 b2 b3 b4 f place lm Fp n k S W):W.cell? ⟨b0,0,none⟩=some (PF Fp)/\W.cell? ⟨b1,0,none⟩=some (.int .i64 place)/\W.cell? ⟨b2,0,none⟩=some (.int .i64 lm)/\W.cell? ⟨b3,0,none⟩=some (.int .i64 n)/\W.cell? ⟨b4,0,none⟩=some (.int .i64 k):=
 ⟨h.bf.cell,h.bp.cell,h.bl.cell,h.bn.cell,h.bd.cell⟩
end
def BZ(d:An)(place lm:Nat)(dict:Int)(L:List Nat)(w:Lo)(e:Ending)(w':Lo):Prop:= ∃n k,e= .returned (.tuple #[.int .i64 (n:Nat),.int .i64 (k:Nat)])/\eE (λj=>(j:Int)<=dict/\iM place L j) (λj=>bG d place (place-j) lm) n k/\Below w.heap.size w w'
theorem adX(w:Lo)(v0 v1 v2 v3 v4:Value)(t0 t1 t2 t3 t4:TypeId)(W:Lo)(hW:((((w.alloc (.cells #[v0] t0)).alloc (.cells #[v1] t1)).alloc (.cells #[v2] t2)).alloc (.cells #[v3] t3)).alloc (.cells #[v4] t4)=W):
  Below w.heap.size w W/\br w.heap.size W v0/\br (w.heap.size+1) W v1/\br (w.heap.size+1+1) W v2/\br (w.heap.size+1+1+1) W v3/\br (w.heap.size+1+1+1+1) W v4:=by
 subst hW;have up: ∀{b:Nat} {W:Lo} {v:Value} (o:Obj),br b W v->br b (W.alloc o) v:=λo h=>h.aU (ee _ _ _ h.lt);have mk: ∀(W:Lo) (v:Value) (t:TypeId) (b:Nat),b=W.heap.size->br b (W.alloc (.cells #[v] t)) v:=λW v t b e=>by subst e;exact br.made W v t
 refine⟨?_,up _ (up _ (up _ (up _ (mk _ _ _ _ rfl)))),up _ (up _ (up _ (mk _ _ _ _ ah))),up _ (up _ (mk _ _ _ _ ah)),up _ (mk _ _ _ _ ah),mk _ _ _ _ ah⟩;refine m7 ?_ aH _;refine m7 ?_ aH _;refine m7 ?_ aH _;refine m7 ?_ ah _;exact az
theorem yD(Fp:Nat)(A:As)(c:Nat)(d:An)(dict nice:Int)(mp:Nat)(v4:Value)(place lm:Nat)(gf:Nat)(lb:Array Value)(L:List Nat)(w:Lo)
  (hF:dV w Fp A c d dict nice mp v4) (hp:place+lm<=d.length) (h1:1<=lm) (hL: ∀x∈L,x<place) (ab0:L.Pairwise (· > ·)) (eg: ∀args w,(callFunc gf args).run prog w= .ok (.enter gf args) w)
  (DT:PG Fence.wide 3 prog gf lb L w):
  Calls prog 229 #[PF Fp,.int .i64 place,.int .i64 lm,.func (.func gf) #[] lb] w (BZ d place lm dict L w):=by
 have ud:(place:Int)<=100000:=av hF.small;have n9:(lm:Int)<=100000:=av hF.small;have Jt:(d.length:Int)<=100000:=av hF.small;have oj:(d.length:Int)<=c:=av hF.cap;have HF:=ae hF;have apX:=ae DT;have HEG:=ae eg;have HL:=ae hL;have aje:=ae ab0;have HP:=ae hp;clear hF DT eg hL ab0 hp;refine(callsIn_wide (n:=4)).1 ?_;refine callsIn_of_wp_marks func229 rfl trivial ?_ rfl;simp only[ntmps229,List.size_toArray,el,List.length_nil,Nat.reduceAdd,Nat.reduceSub,Array.replicate_succ,Array.replicate_zero,List.push_toArray,List.append_toArray,fL,List.cons_append]
 gi_wp2
 generalize xC:((((w.alloc _).alloc _).alloc _).alloc _).alloc _=W0;obtain⟨fV,x0,x1,x2,x3,x4⟩:=adX _ _ _ _ _ _ _ _ _ _ _ _ xC;have Ey:Hid (w.heap.size<w.heap.size+1):=ae aa;have fj:(w.heap.size≠w.heap.size+1+1+1/\w.heap.size+1≠w.heap.size+1+1+1/\w.heap.size+1+1≠w.heap.size+1+1+1)/\(w.heap.size≠w.heap.size+1+1+1+1/\w.heap.size+1≠w.heap.size+1+1+1+1/\w.heap.size+1+1≠w.heap.size+1+1+1+1)/\w.heap.size+1+1+1≠w.heap.size+1+1+1+1:=aa;have Dk:w.heap.size<=w.heap.size+1+1+1/\w.heap.size<=w.heap.size+1+1+1+1:=aa;have⟨s,hs⟩:=ex (w.heap.size);obtain⟨b4,bc⟩: ∃b,s+1+1+1+1=b:=⟨_,rfl⟩
 obtain⟨b3,bm⟩: ∃b,s+1+1+1=b:=⟨_,rfl⟩
 obtain⟨b2,aK⟩: ∃b,s+1+1=b:=⟨_,rfl⟩
 obtain⟨b1,aI⟩: ∃b,s+1=b:=⟨_,rfl⟩
 rw[hs]at fj Dk x0 x1 x2 x3 x4 ⊢;rw[bc]at fj Dk x4 ⊢;rw[bm]at fj Dk x3 ⊢;rw[aK]at fj x2 ⊢;rw[aI]at fj x1 ⊢;have Gk:=ae fj;have qP:Hid (w.heap.size<=b3/\w.heap.size<=b4):=ae (by rw[hs];exact Dk);clear xC Ey aI aK bm bc fj Dk
 refine DS rfl ar (gf:=gf) (lb:=lb) rfl trivial HEG.out apX.out rfl
  (λpre W=> ∃n k,gD w s b1 b2 b3 b4 (λj=>bG d place (place-j) lm) place lm Fp n k (iM place pre) W/\ ∀y∈pre,(place:Int)-(y:Int)<=dict)
  (λe W=>e=Code.exit 0/\ ∃n k,gD w s b1 b2 b3 b4 (λj=>bG d place (place-j) lm) place lm Fp n k (λj=>(j:Int)<=dict/\iM place L j) W)
  (λs W o ⟨n,k,h,hd⟩=>⟨n,k,h.alloc o,hd⟩) (λs W l o o' ⟨n,k,h,hd⟩ hl yr ho=>⟨n,k,h.putObj l o o' (a8 fV.size hl) yr ho,hd⟩) (λs W ⟨n,k,h,hd⟩=>h.below) (λs W m ⟨n,k,h,hd⟩=>⟨n,k,h.drewN m,hd⟩)
  (λe W l o o' ⟨he,n,k,h⟩ hl yr ho=>⟨he,n,k,h.putObj l o o' (a8 fV.size hl) yr ho⟩) (λe W m ⟨he,n,k,h⟩=>⟨he,n,k,h.drewN m⟩)
  ⟨0,0,⟨fV,x0,x1,x2,x3,x4,(eE.none _).iff λj=>⟨λh=>Q2 h,λh=>h.elim⟩,cI _,cI _⟩,λy hy=>by cases hy⟩
  (λx=>{tmps:= #[PF Fp,.int .i64 place,.int .i64 lm,.func (.func gf) #[] lb,.pointer (some ⟨s,0,none⟩),.pointer (some ⟨b1,0,none⟩),.pointer (some ⟨b2,0,none⟩),undef,.int .i64 0,.int .i64 0,.pointer (some ⟨b3,0,none⟩),.pointer (some ⟨b4,0,none⟩),.int .i64 (x:Nat),undef,.func (.func gf) #[] lb,.int .i64 (x:Nat),undef,undef,undef,undef,undef,undef,undef,undef,undef,undef,undef,undef,undef,undef,undef,undef,undef,undef,undef,undef,undef,undef,undef,undef,undef,undef,undef,undef,undef,undef,undef,undef,undef,undef,undef,undef,undef,undef,undef,undef,undef,undef,undef,undef,undef,undef],defers:=[]}) ?assign ?body ?done ?stop
 case assign=>
  intro l x W K hK
  gi_wp2
  exact hK
 case body=>
  rintro l pre x t W ly ⟨n,k,hI,B5⟩;have hx:x<place:=HL.out x (by rw[ly];simp);have xj:=aje.out;rw[ly,List.pairwise_append]at xj;have ajf: ∀y∈pre,x<y:=λy hy=>xj.2.2 y hy x ah;have ku: ∀y∈t,y<x:=(List.pairwise_cons.1 xj.2.1).1;have Ez: ∀s,iM place pre s->s<place-x:=by rintro _ ⟨y,hy,rfl⟩;have:=ajf y hy;have:=HL.out y (by rw[ly];simp[hy]);omega
  have hDL: ∀j,iM place L j↔iM place pre j\/j=place-x\/iM place t j:=by
   intro j;rw[ly];constructor
   ·rintro⟨y,hy,rfl⟩;rcases List.mem_append.1 hy with h|h;·exact .inl ⟨y,h,rfl⟩
    ·rcases List.mem_cons.1 h with rfl|h;·exact .inr (.inl rfl)
     ·exact .inr (.inr ⟨y,h,rfl⟩)
   ·rintro(⟨y,hy,rfl⟩|rfl|⟨y,hy,rfl⟩);·exact⟨y,by simp[hy],rfl⟩
    ·exact⟨x,ah,rfl⟩
    ·exact⟨y,by simp[hy],rfl⟩
  have ab1: ∀j,iM place t j->place-x<j:=by rintro _ ⟨y,hy,rfl⟩;have:=ku y hy;omega
  have TE: ∀j,iM place pre j->(j:Int)<=dict:=by rintro _ ⟨y,hy,rfl⟩;have:=B5 y hy;have:=HL.out y (by rw[ly];simp[hy]);omega
  obtain⟨cf,cp,cl,cn,cd⟩:=hI.cells;have hFW:=HF.below hI.below;obtain⟨f0,f1,_,_,_⟩:=hFW.cells;have hxi:(x:Int)<place:=aa;have hle:=hI.le;have DU:(n:Int)<=lm:=aa;have HI:=ae hI;have Dp:=ae hDL;have Ju:=ae Ez;have ab2:=ae ab1;have MO:=ae TE;have ajg:=ae B5;have HX:=ae hx;have z_:=ae hFW;clear hI hDL Ez ab1 TE xj ajf ku B5 ly hx hFW hle;by_cases hd:dict<(place:Int)-(x:Int)
  ·have Jn:Hid (∃n k,gD w s b1 b2 b3 b4 (λj=>bG d place (place-j) lm) place lm Fp n k (λj=>(j:Int)<=dict/\iM place L j) W):=ae ⟨n,k,HI.to (HI.Js.iff λj=>by
    rw[Dp.out];constructor
    ·rintro⟨h1,h|rfl|h⟩;·exact h
     ·have:=HX.out;omega
     ·have:=ab2.out j h;have:=HX.out;omega
    ·exact λh=>⟨MO.out j h,.inl h⟩)⟩
   gi_wp2
   refine eU rfl ak ak ak ?_;repeat (gi_big_quiet_step (fail))
   refine wpQuietIn_nil ?_;rintro _ ⟨nq,rfl⟩
   gi_wp2
   obtain⟨n',k',da⟩:=Jn.out;exact⟨KeepsOthers.drewN _ _,rfl,n',k',da.drewN _⟩
  ·have hd':decide (dict<(place:Int)-(x:Int))=false:=(by simp;omega);have Lf: ¬dict<(place:Int)-(x:Int):=hd;by_cases hn:n=lm
   ·have Jn:Hid (∃n k,gD w s b1 b2 b3 b4 (λj=>bG d place (place-j) lm) place lm Fp n k (λj=>(j:Int)<=dict/\iM place L j) W):=ae ⟨n,k,HI.to (HI.Js.more (λj hj=>⟨MO.out j hj,(Dp j).2 (.inl hj)⟩) λj hj=>by
     rcases(Dp j).1 hj.2 with h|h;·exact .inl h
     ·refine .inr ⟨by rw[hn];exact jZ _ _ _ _,λs hs=> ?_⟩;have h1:=Ju.out s hs;rcases h with rfl|h;·exact h1
      ·have:=ab2.out j h;omega)⟩
    have he:((n:Int)==(lm:Int))=true:=(by rw[hn];simp);clear hn
    gi_wp2
    refine eU rfl ak ak ak ?_;repeat (gi_big_quiet_step (fail))
    refine wpQuietIn_nil ?_;rintro _ ⟨nq,rfl⟩
    gi_wp2
    obtain⟨n',k',da⟩:=Jn.out;exact⟨KeepsOthers.drewN _ _,rfl,n',k',da.drewN _⟩
   ·have he:((n:Int)==(lm:Int))=false:=(by rw[gQ];omega);have apZ:(n:Int)<lm:=aa;have VL:Hid (∀y∈pre++[x],(place:Int)-(y:Int)<=dict):=ae (λy hy=>by
     rcases List.mem_append.1 hy with h|h;·exact ajg y h
     ·rw[List.mem_singleton]at h;subst h;omega)
    have HM:Hid (∀m,Calls prog 232 #[PF Fp,.int .i64 place,.int .i64 (x:Nat),.int .i64 lm] (W.drewN m) λe w'=>e= .returned (.int .i64 (bG d place x lm:Nat))/\ ∃q,w'=(W.drewN m).drewN q):=ae (λm=>by
     have:=Jo Fp A c d dict nice mp v4 place x (lm:Int) _ (z_.drewN m) (by have:=HP.out;simpa using this) (av HX.out);simpa only[Int.toNat_natCast]using this)
    have⟨g,hg⟩:=ex (bG d place x lm);have tB:(g:Int)<=lm:=av (jZ d place x lm);rw[hg]at HM;have HG:=ae hg;clear hg;obtain⟨b,off,rfl,_,cZ⟩:=z_.bytes.addr (av HP.out);have⟨y,hy⟩:=ex (place+n:Nat);have hyi:(place:Int)+(n:Int)=(y:Int):=aa;have⟨z,hz⟩:=ex (x+n:Nat);have hzi:(x:Int)+(n:Int)=z:=aa;have i':(y:Int)<d.length:=av HP.out;have hzl:(z:Int)<d.length:=av HP.out;have cy:=cZ y aa;have cz:=cZ z aa;have e1:=dQ (d:=d) (i:=y) aa;have e2:=dQ (d:=d) (i:=z) aa;generalize d[y]'aa=u at*;generalize d[z]'aa=v at*;have zB:=ae (ap (hy▸e1:d.getD (place+n) 0=u) (hz▸e2:d.getD (x+n) 0=v));have Em:Hid (place-(place-x)=x):=ae aa;have sA:Hid (∀m,gD w s b1 b2 b3 b4 (λj=>bG d place (place-j) lm) place lm Fp n k (iM place pre) (W.drewN m)):=ae (λm=>HI.drewN m);have HSK:Hid (bG d place x lm<=n-> ∀m,∃n k,gD w s b1 b2 b3 b4 (λj=>bG d place (place-j) lm) place lm Fp n k (iM place (pre++[x])) (W.drewN m)):=ae (λh m=>⟨n,k,(sA m).to (((sA m).Js.skip Ju.out (by show bG d place (place-(place-x)) lm<=n;rw[Em.out];exact h)).iff λj=>BW)⟩);clear hn hy hz e1 e2 cZ;by_cases DW:v=u
    ·have fj:((v.toNat:Int) !=(u.toNat:Int))=false:=(by rw[DW];simp);have ajh:((v.toNat:Int)==(u.toNat:Int))=true:=(by rw[DW];simp);clear DW;have HGN:Hid (n<g->eE (iM place (pre++[x])) (λj=>bG d place (place-j) lm) g (place-x)):=ae (λh=>by
      have e:bG d place (place-(place-x)) lm=g:=(by rw[Em.out];exact HG.out);have:=HI.Js.take (j:=place-x) Ju.out (by show n<bG d place (place-(place-x)) lm;rw[e];exact h);rw[e]at this;exact this.iff λj=>BW)
     gi_wp2
     refine eU rfl ak ak ak ?_;repeat (gi_big_quiet_step (fail))
     refine wpQuietIn_nil ?_;rintro _ ⟨nq,rfl⟩
     gi_wp2
     refine eU rfl ak ak ak ?_;repeat (gi_big_quiet_step (fail))
     refine wpQuietIn_nil ?_;rintro _ ⟨nr,rfl⟩
     gi_wp2
     refine⟨trivial,(CallsIn.inRound _ (callsIn_wide.2 (HM _))).mono ?_⟩;rintro e w' ⟨rfl,ns,rfl⟩;by_cases Jv:n<g
     ·have ap1:decide ((n:Int)<g)=true:=(by simp;omega);have ap2:(n:Int)<g:=aa;obtain⟨⟨n03,n13,n23⟩,⟨n04,n14,n24⟩,n34⟩:=Gk.out;have n31:=n13.symm;have n43:=n34.symm;have n41:=n14.symm;have fn:=HI.bn.frozen;have fd:=HI.bd.frozen;have⟨k2,qp⟩:=ex (place-x);have ayN:(k2:Int)<=100000:=aa;have hpx:(place:Int)-(x:Int)=k2:=aa;have ub:IntKind.i64.wrap (k2:Int)=k2:=em _ aa;have j5:Hid (∀m,KeepsOthers W (((W.drewN m).setCell ⟨b3,0,none⟩ (.int .i64 g)).setCell ⟨b4,0,none⟩ (.int .i64 k2))/\ ∃n k,gD w s b1 b2 b3 b4 (λj=>bG d place (place-j) lm) place lm Fp n k (iM place (pre++[x])) (((W.drewN m).setCell ⟨b3,0,none⟩ (.int .i64 g)).setCell ⟨b4,0,none⟩ (.int .i64 k2))):=ae (λm=>by
       have h:=sA.out m;exact⟨((KeepsOthers.drewN _ _).trans (KeepsOthers.setCell _ _ _)).trans (KeepsOthers.setCell _ _ _),g,k2,(h.below.setCell qP.1 _).setCell qP.2 _,(h.bf.other _ n03).other _ n04,(h.bp.other _ n13).other _ n14,(h.bl.other _ n23).other _ n24,(h.bn.set _).other _ n34,(h.bd.other _ n43).set _,by rw[<-qp];exact HGN Jv,aa,aa⟩)
      clear qp
      gi_wp2
      gi_region
      all_goals gi_wp2
      all_goals(obtain⟨hk,n',k',da⟩:=j5.out (nq+nr+ns+1);exact⟨hk,n',k',da,VL.out⟩)
     ·have ap1:decide ((n:Int)<g)=false:=(by simp;omega);have ap2: ¬(n:Int)<g:=aa
      gi_wp2
      obtain⟨n',k',da⟩:=HSK.out (by rw[HG.out];omega) (nq+nr+ns);exact⟨KeepsOthers.drewN _ _,n',k',da,VL.out⟩
    ·have fj:((v.toNat:Int) !=(u.toNat:Int))=true:=(by rw[bne_iff_ne];intro h;exact DW (UInt8.toNat_inj.1 aa));have ajh:((v.toNat:Int)==(u.toNat:Int))=false:=(by rw[gQ];intro h;exact DW (UInt8.toNat_inj.1 aa));have hcut:Hid (bG d place x lm<=n):=ae (QW (by rw[zB.1,zB.2];exact DW));clear DW
     gi_wp2
     refine eU rfl ak ak ak ?_;repeat (gi_big_quiet_step (fail))
     refine wpQuietIn_nil ?_;rintro _ ⟨nq,rfl⟩
     gi_wp2
     refine eU rfl ak ak ak ?_;repeat (gi_big_quiet_step (fail))
     refine wpQuietIn_nil ?_;rintro _ ⟨nr,rfl⟩
     gi_wp2
     rw[World.drewN_drewN];obtain⟨n',k',da⟩:=HSK.out hcut.out (nq+nr);exact⟨KeepsOthers.drewN _ _,n',k',da,VL.out⟩
 case done=>
  rintro D W hD ⟨n,k,hI,B5⟩ hK;have A_:Hid (gD w s b1 b2 b3 b4 (λj=>bG d place (place-j) lm) place lm Fp n k (λj=>(j:Int)<=dict/\iM place L j) W):=ae (hI.to (hI.Js.iff λj=>by
   constructor;·exact λh=>h.2
   ·rintro⟨y,hy,rfl⟩;have h1:=B5 y hy;have h2:=HL.out y hy;exact⟨aa,y,hy,rfl⟩))
  obtain⟨cf,cp,cl,cn,cd⟩:=A_.cells;clear hI B5
  gi_wp2
  refine wpIn_region_quiet_lit rfl ak ak ?_;repeat (gi_big_quiet_step (fail))
  refine wpQuietIn_nil ?_;rintro _ ⟨nq,rfl⟩
  gi_wp2
  refine⟨ah,.inl ⟨_,_,rfl,run_takeDeferred (b:=D) (ds:=[]) hK,?_⟩⟩;refine⟨_,results_tmp2 rfl _ _ _,n,k,rfl,A_.Js,?_⟩;have hbq:=(A_.drewN nq).below;exact hbq.grown (grownBy_putObj' (W.drewN nq) D (.deferred none)) hbq.size (λk e=>by cases e;exact a8 fV.size hD)
 case stop=>
  rintro D _ W hD ⟨rfl,n,k,hI⟩ hK;obtain⟨cf,cp,cl,cn,cd⟩:=hI.cells;have A_:=ae hI;clear hI
  gi_wp2
  refine wpIn_region_quiet_lit rfl ak ak ?_;repeat (gi_big_quiet_step (fail))
  refine wpQuietIn_nil ?_;rintro _ ⟨nq,rfl⟩
  gi_wp2
  refine⟨ah,.inl ⟨_,_,rfl,run_takeDeferred (b:=D) (ds:=[]) hK,?_⟩⟩;refine⟨_,results_tmp2 rfl _ _ _,n,k,rfl,A_.Js,?_⟩;have hbq:=(A_.drewN nq).below;exact hbq.grown (grownBy_putObj' (W.drewN nq) D (.deferred none)) hbq.size (λk e=>by cases e;exact a8 fV.size hD)
end
section
section
variable{d:An}{place:Nat}{dict:Int}
def vN(d:An)(place L:Nat)(j:Nat):Nat:=bG d place (place-j) L
def depth(place:Nat)(dict:Int):Nat:=(min (place:Int) dict).toNat
def S4(d:An)(place:Nat)(dict:Int)(j:Nat):Prop:=(j:Int)<=dict/\iM place (chain d (four d place) place) j
theorem ajj{j:Nat}(h:S4 d place dict j):1<=j/\j<=depth place dict:=by obtain⟨h1,x,hx,rfl⟩:=h;have:=(mg.1 hx).1;unfold depth;omega
theorem ab3{L j:Nat}(h1:1<=j)(h2:j<=depth place dict)(h:4<=vN d place L j):S4 d place dict j:=by unfold depth at h2;refine⟨aa,place-j,mg.2 ⟨aa,Jp h⟩,aa⟩
def S2(L2:List Nat)(place:Nat)(dict:Int)(j:Nat):Prop:=(j:Int)<=dict/\iM place L2 j
theorem Q3{L n k:Nat}(h:eE (S4 d place dict) (vN d place L) n k)(h4:4<=n):(n,k)=dk (vN d place L) (depth place dict):=by have h1:=h.all (m:=4) (λj hj=>ajj hj) (λj a b c=>ab3 a b c) h4 ar;obtain⟨e1,e2⟩:=h1.unique (kD _ _);rw[e1,e2]
theorem B_{L n k:Nat}(h:eE (S4 d place dict) (vN d place L) n k)(h4:n<4): ∀j,1<=j->j<=depth place dict->vN d place L j<=3:=by
 intro j h1 h2;rcases dN (vN d place L j) 4 with h3|h3;·omega
 ·have:=h.le j (ab3 h1 h2 h3);omega
theorem EA{L2:List Nat}{L M n k:Nat}(hL2: ∀x,x∈L2↔x<place/\d.getD x 0=d.getD place 0/\d.getD (x+1) 0=d.getD (place+1) 0)(hM:2<=M)(hML:M<=L)(hf: ∀j,1<=j->j<=depth place dict->vN d place L j<=M)
  (h:eE (S2 L2 place dict) (vN d place M) n k):(n,k)=if(dk (vN d place L) (depth place dict)).1<2 then(0,0)else dk (vN d place L) (depth place dict):=by
 have TE: ∀j,S2 L2 place dict j->1<=j/\j<=depth place dict:=by rintro _ ⟨h1,x,hx,rfl⟩;have:=((hL2 x).1 hx).1;unfold depth;omega
 have he: ∀j,1<=j->j<=depth place dict->vN d place M j=vN d place L j:=λj h1 h2=>by have:=hf j h1 h2;unfold vN at this ⊢;rw[Jm hML];omega
 have hof: ∀j,1<=j->j<=depth place dict->2<=vN d place L j->S2 L2 place dict j:=λj h1 h2 h3=>by unfold depth at h2;obtain⟨p1,p2⟩:=Jq h3;exact⟨aa,place-j,(hL2 _).2 ⟨aa,p1,p2⟩,aa⟩
 have h2:eE (S2 L2 place dict) (vN d place L) n k:=by
  refine⟨λj hj=> ?_,λj hj aV=> ?_,h.at_.imp id fun⟨a,b,c⟩=>⟨a,?_,c⟩⟩;·obtain⟨a,b⟩:=TE j hj;rw[<-he j a b];exact h.le j hj
  ·obtain⟨a,b⟩:=TE j hj;rw[<-he j a b];exact h.lt j hj aV
  ·obtain⟨a',b'⟩:=TE k a;rw[<-he k a' b'];exact b
 have hB:=kD (vN d place L) (depth place dict);by_cases hn:2<=n;·obtain⟨e1,e2⟩:=(h2.all (m:=2) TE hof hn ar).unique hB;rw[au aa,e1,e2]
 ·have b_:n=0/\k=0:=by
   rcases h2.at_ with e|⟨a,b,c⟩
   ·exact e
   ·exfalso;obtain⟨_,x,hx,e⟩:=a;obtain⟨x1,x2,x3⟩:=(hL2 x).1 hx;have:2<=vN d place L k:=by
     have hk:place-k=x:=aa;unfold vN;rw[hk];have hl:=fu d L place x;rcases dN (bG d place x L) 2 with g|g
     ·exfalso;rcases hl.stop with e1|e1;·omega
      ·have:bG d place x L=0\/bG d place x L=1:=(by omega);rcases this with e2|e2<;>rw[e2]at e1;·exact e1 x2.symm
       ·exact e1 x3.symm
     ·exact g
    omega
  have:(dk (vN d place L) (depth place dict)).1<2:=by
   rcases hB.at_ with⟨e,_⟩|⟨a,b,c,e⟩
   ·omega
   ·rcases dN (dk (vN d place L) (depth place dict)).1 2 with g|g;·exact g
    ·have:=h2.le _ (hof _ a b aa);omega
  rw[ax this,b_.1,b_.2]
theorem Q5{x y:UInt8}{h:Nat}(hx:d.getD place 0=x)(hy:d.getD (place+1) 0=y)(hp:place+1<d.length)(hh:h<=(places d x y (d.length-1)).length)
  (yr: ∀q (_:q<(places d x y (d.length-1)).length),q<h->(places d x y (d.length-1))[q]<place) (Ll: ∀q (_:q<(places d x y (d.length-1)).length),h<=q->place<=(places d x y (d.length-1))[q]):
  (∀z,z∈((places d x y (d.length-1)).take h).reverse↔z<place/\d.getD z 0=d.getD place 0/\d.getD (z+1) 0=d.getD (place+1) 0)/\((places d x y (d.length-1)).take h).reverse.Pairwise (· > ·):=by
 constructor
 ·intro z;rw[List.mem_reverse,hx,hy];constructor;·intro hz;obtain⟨q,hq,e⟩:=List.mem_iff_getElem.1 hz;rw[eZ]at hq;rw[List.getElem_take]at e;have h1:=yr q aa aa;have h2:=pu.1 (List.mem_of_mem_take hz);exact⟨aa,h2.2⟩
  ·rintro⟨h1,h2,h3⟩;have hm:z∈places d x y (d.length-1):=pu.2 ⟨aa,h2,h3⟩;obtain⟨q,hq,e⟩:=List.mem_iff_getElem.1 hm;rcases dN q h with g|g;·refine List.mem_iff_getElem.2 ⟨q,tY,?_⟩;rw[List.getElem_take];exact e
   ·have:=Ll q hq g;omega
 ·rw[List.pairwise_reverse];exact((yB d x y (d.length-1)).sublist (List.take_sublist _ _)).imp λh=>h
end
end
section
open Go.ChangeMaps Go.MapKept Go.ChangeShapes Go.RowKit
open Go.WideElems (Fit rd rg pl rd_val elemAt)
open Go.Maps (Keyed)
open Go.WideMaps (KeyLaw)
section
variable{H:Type}{P:Program}{w w':Lo}{t k E e:TypeId}{R:Value->Option (DataW H×List MemPlace)}{b:Nat}{es es':Array MapEntry}{clock Gl:Nat}
theorem xS{l:List MapEntry}(hn:(l.map (·.key)).Nodup){i j:Nat}{x y:MapEntry}(hx:l[i]? =some x)(hy:l[j]? =some y)(e:x.key=y.key):i=j:=by have hi:=(List.getElem?_eq_some_iff.1 hx).1;refine(List.getElem?_inj (l:=l.map (·.key)) jP hn).1 ?_;simp[hx,hy,e]
theorem Q6{l:List MapEntry}(hn:(l.map (·.key)).Nodup){x y:MapEntry}(hx:x∈l)(hy:y∈l)(e:x.key=y.key):x=y:=by obtain⟨i,hi⟩:=List.getElem?_of_mem hx;obtain⟨j,hj⟩:=List.getElem?_of_mem hy;have:=xS hn hi hj e;subst this;rw[hi]at hj;exact Option.some.inj hj
theorem ox(hb:w.heap[b]? =some (.map es clock)){a a':Array MapEntry}{c c':Nat}(h:(Result.ok () (setBlock w b (.map a c)):Result Unit)= .ok () (setBlock w b (.map a' c'))):a=a'/\c=c':=by
 have h1:setBlock w b (.map a c)=setBlock w b (.map a' c'):=by injection h
 have h2:=heap_setBlock_same hb (.map a c);rw[h1,heap_setBlock_same hb]at h2;simp at h2;exact⟨h2.1.symm,h2.2.symm⟩
theorem Gm(K:KeyLaw P k)(ht:P.underlying t=some (.map k e))(F:Fit P k R es clock)(hb:w.heap[b]? =some (.map es clock))(yE:w'.heap[b]? =some (.map es clock)){key val:Value}{kl:Lit}(mV:keyOf P k key=some kl)
  (h:(Instr.mapUpdate t (.map (some b)) key val).run P w= .ok () (setBlock w b (.map es' Gl))):(Instr.mapUpdate t (.map (some b)) key val).run P w'= .ok () (setBlock w' b (.map es' Gl)):=by
 obtain⟨_,_,s3⟩:=F.stamped;rcases K.find w mV es.toList F.keys with⟨h1,h2⟩|⟨j,e0,h1,h2,h3⟩
 ·have e1:(Instr.mapUpdate t (.map (some b)) key val).run P w= .ok () (setBlock w b (.map (es.push ⟨key,val,clock⟩) (clock+1))):=by simp[Instr.mapUpdate,run_underlying ht,MapKept.run_getObj_map hb,K.check w false mV,h1,MapKept.run_setObj_map _ hb,Result.andThen,setBlock]
  obtain⟨rfl,rfl⟩:=ox hb (h.symm.trans e1);rcases K.find w' mV es.toList F.keys with⟨g1,g2⟩|⟨j',e0',g1,g2,g3⟩
  ·simp[Instr.mapUpdate,run_underlying ht,MapKept.run_getObj_map yE,K.check w' false mV,g1,MapKept.run_setObj_map _ yE,Result.andThen,setBlock]
  ·exact absurd g3 (h2 _ (List.mem_of_getElem? g2))
 ·have hj:es[j]? =some e0:=by simpa using h2
  have e1:(Instr.mapUpdate t (.map (some b)) key val).run P w= .ok () (setBlock w b (.map (es.modify j (λe'=>{e' with key:=key,val:=val})) clock)):=by simp[Instr.mapUpdate,run_underlying ht,MapKept.run_getObj_map hb,K.check w false mV,h1,hj,h3,K.stays w mV,MapKept.run_setObj_map _ hb,Result.andThen,setBlock]
  obtain⟨rfl,rfl⟩:=ox hb (h.symm.trans e1);rcases K.find w' mV es.toList F.keys with⟨g1,g2⟩|⟨j',e0',g1,g2,g3⟩
  ·exact absurd h3 (g2 _ (List.mem_of_getElem? h2))
  ·have:=xS s3 h2 g2 (h3.trans g3.symm);subst this;rw[h2]at g2;obtain rfl:=Option.some.inj g2;simp[Instr.mapUpdate,run_underlying ht,MapKept.run_getObj_map yE,K.check w' false mV,g1,hj,h3,K.stays w' mV,MapKept.run_setObj_map _ yE,Result.andThen,setBlock]
theorem MP(K:KeyLaw P k)(ht:P.underlying t=some (.map k e)){z:Value}(hz: ∀u:Lo,(zeroValue e).run P u= .ok z u)(F:Fit P k R es clock)(hb:w.heap[b]? =some (.map es clock))(yE:w'.heap[b]? =some (.map es clock)){key v:Value}{kl:Lit}(mV:keyOf P k key=some kl)
  (h:(Instr.lookup t (.map (some b)) key false).run P w= .ok v w):(Instr.lookup t (.map (some b)) key false).run P w'= .ok v w':=by
 obtain⟨_,_,s3⟩:=F.stamped;rcases K.find w mV es.toList F.keys with⟨h1,h2⟩|⟨j,e0,h1,h2,h3⟩
 ·have e1:(Instr.lookup t (.map (some b)) key false).run P w= .ok z w:=by simp[Instr.lookup,run_underlying ht,MapKept.run_getObj_map hb,K.check w _ mV,h1,hz,Result.andThen]
  rw[e1]at h;obtain rfl:z=v:=by injection h
  rcases K.find w' mV es.toList F.keys with⟨g1,g2⟩|⟨j',e0',g1,g2,g3⟩
  ·simp[Instr.lookup,run_underlying ht,MapKept.run_getObj_map yE,K.check w' _ mV,g1,hz,Result.andThen]
  ·exact absurd g3 (h2 _ (List.mem_of_getElem? g2))
 ·have e1:(Instr.lookup t (.map (some b)) key false).run P w= .ok e0.val w:=by simp[Instr.lookup,run_underlying ht,MapKept.run_getObj_map hb,K.check w _ mV,h1,Result.andThen]
  rw[e1]at h;obtain rfl:e0.val=v:=by injection h
  rcases K.find w' mV es.toList F.keys with⟨g1,g2⟩|⟨j',e0',g1,g2,g3⟩
  ·exact absurd h3 (g2 _ (List.mem_of_getElem? h2))
  ·have:=xS s3 h2 g2 (h3.trans g3.symm);subst this;rw[h2]at g2;obtain rfl:=Option.some.inj g2;simp[Instr.lookup,run_underlying ht,MapKept.run_getObj_map yE,K.check w' _ mV,g1,Result.andThen]
theorem B6(w:Lo)(b:Nat)(o o':Obj):setBlock (setBlock w b o) b o'=setBlock w b o':=by simp[setBlock]
variable{base n:Nat}{q:IntKind}{D:DataW H}
theorem Gn(h:w.ownsGroups (H:=H) P k base e q b n D)(K:KeyLaw P k)(ht:P.underlying t=some (.map k E))(hz: ∀u:Lo,(zeroValue E).run P u= .ok (.slice none 0 0) u)(hn:n<maxLen){key:Value}{kl:Lit}(mV:keyOf P k key=some kl):
  ∃(v:Value) (zs:List Int) (st:Nat) (w1:Lo),(Instr.mapEntry t (.map (some b)) key).run P w= .ok (.tuple #[v,goInt st]) w1/\w.grownBy w1 (some b)/\D.atKey kl .nil=rowDatum q v zs/\w1.ownsInts base e q v zs/\zs.length<=n/\
   ∀(w2:Lo) (v':Value) (zs':List Int),w1.grownBy w2 v.ownBlock->w2.ownsInts base e q v' zs'->zs'.length<=n+1->(v'.ownBlock=v.ownBlock\/ ∃g,v'.ownBlock=some g/\w.heap.size<=g)->
    ∃w3,(Instr.entryStore t (.map (some b)) (goInt st) v').run P w2= .ok () w3/\w3.ownsGroups (H:=H) P k base e q b (n+1) (D.put kl (rowDatum q v' zs'))/\w2.grownBy w3 (some b):=by
 obtain⟨es,clock,hb,F,hs,rfl,fE,hlen,hap⟩:=h;have IB:b<w.heap.size:=(bU hb)
 obtain⟨_,_,s3⟩:=F.stamped;obtain⟨v0,st,es1,B7,FZ,Lk,adZ⟩:=WideElems.entry_then_store K ht hz hb F mV;have lN:w.grownBy (setBlock w b (.map es1 B7)) (some b):=⟨rfl,rfl,rfl,by simp[setBlock],λi _ hi=>heap_setBlock_other hb _ (λe1=>hi (by rw[e1]))⟩
 have ajm: ∃zs,(DataW.map ((es.toList.map (rg P k (rowElem (H:=H) w base e q))).foldr DataW.insert [])).atKey kl .nil=rowDatum q v0 zs/\w.ownsInts base e q v0 zs/\zs.length<=n/\
   (∀x∈es.toList,x.key≠key->x.val.ownBlock=none\/x.val.ownBlock≠v0.ownBlock)/\v0.ownBlock≠some b:=by
  rcases Maps.fit_look false (Keyed.of_law K) ht (hz w) hb F mV with⟨_,sE,cZ⟩|⟨e0,y,Gp,h3,_,hR,cZ,_⟩
  ·rcases Lk with⟨e0,he0,hk0,_⟩|⟨_,rfl⟩
   ·exact absurd hk0 (sE e0 he0)
   ·exact⟨[],cZ _,World.ownsInts_nil _ _ _ _,cI _,λx _ _=>by cases x.val.ownBlock<;>simp[Value.ownBlock],AW⟩
  ·rcases Lk with⟨e1,he1,ln,rfl⟩|⟨sE,_⟩
   ·obtain rfl:=Q6 s3 Gp he1 (h3.trans ln.symm);obtain⟨zs,ho,rfl⟩:=rowElem_inv hR;exact⟨zs,cZ _,ho,hlen e0 Gp zs ho,λx hx fj=>hap x hx e0 Gp (by rw[h3];exact fj),λe1=>by have:=(ho.1.lt b e1).1;omega⟩
   ·exact absurd h3 (sE e0 Gp)
 obtain⟨zs,cZ,hoi,hzl,ad1,hvb⟩:=ajm;have Pp:=groups_back (Keyed.of_law K) ht hb F hs hn fE hlen hap mV ad1 hvb;have ap5:v0.ownBlock=none\/v0.ownBlock≠some b:= .inr hvb;refine⟨v0,zs,st,_,FZ,lN,cZ,hoi.kept lN ap5,hzl,λw2 v' zs' hg aL hl xP=> ?_⟩;have aI:(setBlock w b (.map es1 B7)).heap[b]? =some (.map es1 B7):=heap_setBlock_same hb _;have Gq:(setBlock w b (.map es1 B7)).heap.size=w.heap.size:=by simp[setBlock]
 have aK:w2.heap[b]? =some (.map es1 B7):=(hg.block b (by rw[Gq];exact IB) (λe1=>hvb e1.symm)).trans aI;obtain⟨es',Gl,da,hup⟩:=adZ w2 v' aK;have hbR:(setBlock w2 b (.map es clock)).heap[b]? =some (.map es clock):=heap_setBlock_same aK _;have sJ:w.grownBy (setBlock w2 b (.map es clock)) v0.ownBlock:=by
  refine⟨hg.os,hg.tape,hg.output,?_,λi hi fj=> ?_⟩;·have:=hg.size;rw[Gq]at this;simpa [setBlock]using this
  ·by_cases hib:i=b;·subst hib;rw[hbR,hb]
   ·rw[heap_setBlock_other aK _ hib,hg.block i (by rw[Gq];exact hi) fj,heap_setBlock_other hb _ hib]
 have ap7:w2.grownBy (setBlock w2 b (.map es clock)) (some b):=⟨rfl,rfl,rfl,by simp[setBlock],λi _ hi=>heap_setBlock_other aK _ (λe1=>hi (by rw[e1]))⟩
 have ap8:v'.ownBlock=none\/v'.ownBlock≠some b:=by
  cases TQ:v'.ownBlock with
  | none=>exact .inl rfl
  | some g=>
   refine .inr λe1=> ?_;have:=(aL.1.lt g TQ).1;cases e1;omega
 obtain⟨wu,hu1,hu2,_⟩:=Pp _ v' zs' sJ (aL.kept ap7 ap8) hl xP;have hu3:=Gm K ht F hb hbR mV hup;rw[hu1,B6]at hu3;have hu4:wu=setBlock w2 b (.map es' Gl):=by injection hu3
 subst hu4;exact⟨_,da,hu2,⟨rfl,rfl,rfl,by simp[setBlock],λi _ hi=>heap_setBlock_other aK _ (λe1=>hi (by rw[e1]))⟩⟩
end
end
section
open Go.RowKit Go.Maps Go.ChangeShapes
def sK(L:List Nat):DataW Unit:=if L=[]then .nil else .slice (lits .i32 (L.map Int.ofNat)) []
def dA(w:Lo)(b:Nat)(d:An)(n:Nat):Prop:=
 ∃D:DataW Unit,w.ownsGroups prog 210 (b+1) 21 .i32 b n D/\ ∀x y:UInt8,D.atKey (QZ x y) .nil=sK (places d x y n)
theorem VM{q:IntKind}{a b:List Int}(h:lits (H:=Unit) q a=lits q b):a=b:=by unfold lits at h;refine(List.map_inj_right (λx y e=> ?_)).1 h;simpa using e
theorem tO{w:Lo}{base:Nat}{e:TypeId}{v:Value}{zs:List Int}{L:List Nat}(h:w.ownsInts base e .i32 v zs)(he:sK L=rowDatum .i32 v zs):zs=L.map Int.ofNat:=by
 unfold sK at he;split at he
 ·rename_i hL;subst hL;by_cases hz:zs=[];·rw[hz];rfl
  ·rw[h.datum_pos hz]at he;cases he
 ·rcases h.datum (H:=Unit)with⟨h1,_⟩|h1;·rw[h1]at he;cases he
  ·rw[h1]at he;injection he with he;exact(VM he).symm
theorem xT{w:Lo}{base:Nat}{e:TypeId}{v:Value}{L:List Nat}(h:w.ownsInts base e .i32 v (L.map Int.ofNat))(hL:L≠[]):rowDatum .i32 v (L.map Int.ofNat)=sK L:=by unfold sK;rw[au hL,h.datum_pos (by simpa using hL)]
theorem dA.made(w:Lo)(d:An):dA (w.alloc (.map #[] 0)) w.heap.size d 0:=
 ⟨_,World.ownsGroups_made w prog _ _ _,λx y=>by simp only[sK,places,List.range_zero,List.filter_nil,if_true];rfl⟩
theorem Gr{w:Lo}{P:Program}{k:TypeId}{base:Nat}{e:TypeId}{q:IntKind}{b n:Nat}{D:DataW Unit}(h:w.ownsGroups P k base e q b n D): ∃l,D= .map l:=by obtain⟨_,_,_,_,_,rfl,_⟩:=h;exact⟨_,rfl⟩
theorem yF{w w':Lo}{P:Program}{k:TypeId}{base:Nat}{e:TypeId}{q:IntKind}{b n:Nat}{D:DataW Unit}{row:Option Nat}(h:w.ownsGroups P k base e q b n D)(hg:w.grownBy w' row)(aY: ∀j,row=some j->j<b):w'.ownsGroups P k base e q b n D:=by
 obtain⟨es,clock,hb,F,hs,rfl,fE,hlen,hap⟩:=h;have hk: ∀{v:Value} {zs:List Int},w.ownsInts base e q v zs->w'.ownsInts base e q v zs:=fun{v zs} ho=>ho.kept hg (by
  cases hv:v.ownBlock with
  | none=>exact .inl rfl
  | some g=>
   refine .inr λe1=> ?_;have h1:=(ho.1.lt g hv).1;have h2:=aY g e1.symm;omega)
 have kQ: ∀x∈es.toList,∀z,rowElem (H:=Unit) w base e q x.val=some z->rowElem w' base e q x.val=some z:=by intro x _ z hz;obtain⟨ys,ho,rfl⟩:=rowElem_inv hz;exact rowElem_mk (hk ho)
 obtain⟨F2,ajp,_⟩:=F.stay kQ;refine⟨es,clock,(hg.block b (bU hb) (λe1=>av (aY b e1.symm))).trans hb,F2,hs,by rw[ajp],fE,λx hx ys ho=> ?_,hap⟩;obtain⟨y,hy⟩:=F.reads x hx;obtain⟨z,hz,_⟩:=WideElems.rd_val hy;obtain⟨ys',Fw,_⟩:=rowElem_inv hz;rw[ho.unique (hk Fw)];exact hlen x hx ys' Fw
theorem dA.below{w w':Lo}{b n:Nat}{d:An}(h:dA w b d n)(hb:Below w.heap.size w w'):dA w' b d n:=by obtain⟨D,h1,h2⟩:=h;exact⟨D,yF (row:=none) h1 ⟨hb.os,hb.tape,hb.output,hb.size,λk hk _=>hb.block k hk⟩ (λj e=>eK),h2⟩
theorem dA.set{w:Lo}{b n:Nat}{d:An}(h:dA w b d n)(a:Addr)(v:Value)(ha:a.block<b):dA (w.setCell a v) b d n:=by obtain⟨D,h1,h2⟩:=h;refine⟨D,yF (row:=some a.block) h1 ⟨rfl,rfl,rfl,by simp[World.setCell],λk _ hk=>af _ _ _ _ (λe=>hk (by rw[e]))⟩ (λj e=>xu),h2⟩
theorem uk(d:An)(x y:UInt8)(n:Nat):(places d x y n).length<=n:=by unfold places;have:=List.length_filter_le (λi=>d.getD i 0==x&&d.getD (i+1) 0==y) (List.range n);simpa using this
theorem dA.lt{w:Lo}{b n:Nat}{d:An}(h:dA w b d n):b<w.heap.size:=by obtain⟨D,⟨es,clock,hb,_⟩,_⟩:=h;exact(bU hb)
theorem dA.entry{w:Lo}{b n:Nat}{d:An}(h:dA w b d n)(hn:n<=100000):
  ∃(v:Value) (st:Nat) (w1:Lo),(Instr.mapEntry 138 (.map (some b)) (pZ (d.getD n 0) (d.getD (n+1) 0))).run prog w= .ok (.tuple #[v,goInt st]) w1/\w.grownBy w1 (some b)/\
   aZ 21 (b+1) w1 v ((places d (d.getD n 0) (d.getD (n+1) 0) n).map λi=> .int .i32 (i:Nat))/\
   ∀(w2:Lo) (v':Value),w1.grownBy w2 v.ownBlock->aZ 21 (b+1) w2 v' ((places d (d.getD n 0) (d.getD (n+1) 0) n).map (λi=> .int .i32 (i:Nat))++[.int .i32 n])->(v'.ownBlock=v.ownBlock\/ ∃g,v'.ownBlock=some g/\w.heap.size<=g)->
    ∃w3,(Instr.entryStore 138 (.map (some b)) (goInt st) v').run prog w2= .ok () w3/\dA w3 b d (n+1)/\w2.grownBy w3 (some b):=by
 obtain⟨D,h1,h2⟩:=h;have⟨x,hx⟩:=ex (d.getD n 0);have⟨y,hy⟩:=ex (d.getD (n+1) 0);rw[hx,hy];have hz: ∀u:Lo,(zeroValue 139).run prog u= .ok (.slice none 0 0) u:=λu=>by first|rfl|simp[zeroValue]
 obtain⟨v,zs,st,w1,hr,hg,cZ,ho,hzl,da⟩:=Gn h1 t_.law underlying138 hz iJ (mf x y);have Ze:=tO ho ((h2 x y).symm.trans cZ);subst Ze;have hlen:(places d x y n).length<=n:=by simpa using hzl
 have hP:places d x y (n+1)=places d x y n++[n]:=by rw[yA,ax ⟨hx,hy⟩]
 refine⟨v,st,w1,hr,hg,?_,λw2 v' gB dz xP=> ?_⟩;·have:=ho.1;unfold aZ;simpa [List.map_map,Function.comp_def]using this
 ·have aL:w2.ownsInts (b+1) 21 .i32 v' ((places d x y (n+1)).map Int.ofNat):=by
   refine⟨?_,λz hz=> ?_⟩;·unfold aZ at dz;rw[hP];simpa [List.map_map,Function.comp_def]using dz
   ·obtain⟨i,hi,rfl⟩:=List.mem_map.1 hz;have:=(pu.1 hi).1;exact adU ah aH
  obtain⟨w3,hs,hG,kg⟩:=da w2 v' _ gB aL (by rw[hP];simp;exact hlen) xP;refine⟨w3,hs,⟨_,hG,λx' y'=> ?_⟩,kg⟩;have hk:=MI.key (mf x y);by_cases hxy:x'=x/\y'=y;·obtain⟨rfl,rfl⟩:=hxy;rw[atKey_put_same (Gr h1) hk];exact xT aL (by rw[hP];simp)
  ·have fj:QZ x' y'≠QZ x y:=λe=>hxy (VD e);rw[atKey_put_other fj,h2 x' y',yA,au (by rw[hx,hy];exact λe=>hxy ⟨e.1.symm,e.2.symm⟩),iV]
theorem dA.VN{w w':Lo}{b n:Nat}{d:An}(h:dA w b d n)(hb:w'.heap[b]? =w.heap[b]?){x y:UInt8}{v:Value}(hr:(Instr.lookup 138 (.map (some b)) (pZ x y) false).run prog w= .ok v w):(Instr.lookup 138 (.map (some b)) (pZ x y) false).run prog w'= .ok v w':=by
 obtain⟨D,⟨es,clock,fV,F,_⟩,_⟩:=h;have hz: ∀u:Lo,(zeroValue 139).run prog u= .ok (.slice none 0 0) u:=λu=>by first|rfl|simp[zeroValue]
 exact MP t_.law underlying138 hz F fV (hb.trans fV) (mf x y) hr
theorem dA.look{w:Lo}{b n:Nat}{d:An}(h:dA w b d n)(hn:n<=100000)(x y:UInt8):
  ∃(A:As) (c:Nat),(Instr.lookup 138 (.map (some b)) (pZ x y) false).run prog w= .ok (.slice A (places d x y n).length c) w/\ru w A (places d x y n)/\(places d x y n).length<=c/\c<=9223372036854775807:=by
 obtain⟨D,h1,h2⟩:=h;have hz:(zeroValue 139).run prog w= .ok (.slice none 0 0) w:=by first|rfl|simp[zeroValue]
 obtain⟨v,zs,hr,cZ,ho,_,_⟩:=h1.at MI underlying138 hz iJ (mf x y);have Ze:=tO ho ((h2 x y).symm.trans cZ);subst Ze;have hv:aZ 21 (b+1) w v ((places d x y n).map λi=> .int .i32 (i:Nat)):=by have:=ho.1;unfold aZ;simpa [List.map_map,Function.comp_def]using this
 obtain⟨A,c,rfl,hc,hm,hcell⟩:=hv.read;rw[cX]at hr hc;refine⟨A,c,hr,λi hi=> ?_,hc,hm⟩;obtain⟨g,hA,hg⟩:=hcell i (by rw[cX];exact hi);exact⟨g,hA,by rw[hg];simp⟩
end
section
open Go.RowKit Go.Maps
theorem ad2:Elem 139 21 (.int .i32 0) 4:=⟨underlying139,ak,rfl⟩
theorem B9(A:As)(l:An)(c n:Nat)(w:Lo)(hB:Bytes w A l)(hc:l.length<=c)(hl:l.length<=100000)(hn:n=l.length-1):
  Calls prog 103 #[.slice A l.length c] w λe w'=>e= .returned (.map (some w.heap.size))/\dA w' w.heap.size l n/\Below w.heap.size w w':=by
 have oj:(l.length:Int)<=c:=aa;have n9:(l.length:Int)<=100000:=aa;have qV:(n:Int)<=100000:=aa;have gx:=ae hB;have HN:=ae hn;have Iz: ∀w:Lo,(Instr.makeMap 138 none).run prog w= .ok (.map (some w.heap.size)) (w.alloc (.map #[] 0)):=λw=>run_makeMap _ w;clear hB hn hl hc;go_enter func103,ntmps103;go_wp2_with fail;have HMP:Hid (dA (w.alloc (.map #[] 0)) w.heap.size l 0):=ae (dA.made w l);have bF:Hid (Below w.heap.size w (w.alloc (.map #[] 0))):=ae (az);clear Iz;go_loopw [10] (λi wr=> ∃k:Nat,k<=n/\i= .int .i64 k/\Hid (dA wr w.heap.size l k)/\Hid (Below w.heap.size w wr)) (λi _=>n-(intOf i).toNat);·exact⟨0,aa,rfl,HMP,bF⟩
 ·
  obtain⟨k,hk,rfl,HL,HB⟩:=hrel;by_cases tk:k<n
  ·have xO:(k:Int)<(l.length:Int)-1:=av HN.out;obtain⟨b,off,rfl,eX,cZ⟩:=(gx.below HB.out).addr aa;have uX:=cZ k aa;have ks:=cZ (k+1) aa;have e0:=dQ (d:=l) (i:=k) aa;have e1:=dQ (d:=l) (i:=k+1) aa;generalize l[k]'aa=z0 at*;generalize l[k+1]'aa=z1 at*;obtain⟨y1,C_⟩: ∃y:Nat,k+1=y:=⟨_,rfl⟩
   rw[C_]at ks;have k1:(k:Int)+1=(y1:Int):=aa;have l1:(y1:Int)<l.length:=aa;have l0:(k:Int)<l.length:=aa;have HC:=ae (fun(wx:Lo) (h:wx.heap[b]? =wr.heap[b]?)=>(show wx.cell? ⟨b,off+k,none⟩=some (.int .u8 z0.toNat)/\wx.cell? ⟨b,off+y1,none⟩=some (.int .u8 z1.toNat)from by
    refine⟨?_,?_⟩;·rw[<-uX];unfold World.cell?;rw[h]
    ·rw[<-ks];unfold World.cell?;rw[h]))
   have v1:IntKind.i64.wrap (y1:Int)=y1:=em _ aa;have HE:=ae (ap e0 e1);clear cZ e0 e1 C_ uX ks;go_wp2_with fail;refine wp_region_held_drew (S:=λw2=>w2.heap[b]? =wr.drew.heap[b]?) ak rfl (λhS=> ?_);refine cC 0 HC.out hS (h:=cC 1 HC.out hS (h:=cC 2 HC.out hS (h:=cC 3 HC.out hS (h:=cC 4 HC.out hS (h:=cC 5 HC.out hS (h:=cC 6 HC.out hS (h:=cC 7 HC.out hS (h:=cC 8 HC.out hS (h:=cC 9 HC.out hS (h:= ?_))))))))));refine aO 10 (λK hK=> ?_);go_simp;refine hK _ _ (ee _ _ _ eX) (λ_=> ?_);clear hK K;refine aO 11 (λK hK=> ?_);go_simp;refine hK _ _ (ee _ _ _ eX) (λ_=> ?_);clear hK K;refine wpAnyH_done ak ?_ _;have⟨W2,gH⟩:=ex ((wr.alloc (.cells #[.int .u8 z0.toNat,.int .u8 z1.toNat] 210)).drew);rw[gH];have aK:Below wr.heap.size wr W2:=(by rw[<-gH];have h:=(aP wr.heap.size wr).alloc (aF _) (.cells #[.int .u8 z0.toNat,.int .u8 z1.toNat] 210);exact⟨h.os,h.tape,h.output,h.size,h.block⟩);have yx:W2.heap[wr.heap.size]? =some (.cells #[.int .u8 z0.toNat,.int .u8 z1.toNat] 210 (0,0)):=(by rw[<-gH];exact bz _ _);have x0:W2.cell? ⟨wr.heap.size,0,none⟩=some (.int .u8 z0.toNat):=(by rw[aC W2 _ _ _ _ _ yx];rfl);have x1:W2.cell? ⟨wr.heap.size,1,none⟩=some (.int .u8 z1.toNat):=(by rw[aC W2 _ _ _ _ _ yx];rfl);have⟨W3,jE⟩:=ex (W2.alloc (.cells #[.int .i32 k] 21));have bm:Below wr.heap.size wr W3:=(by rw[<-jE];exact aK.alloc aK.size _);have ad3:W3.heap.size=W2.heap.size+1:=(by rw[<-jE];simp);have TR:W3.heap[W2.heap.size]? =some (.cells #[.int .i32 k] 21 (0,0)):=(by rw[<-jE];exact bz _ _);have ja:=HB.size;have tJ:=HL.below bm;have aV:=tJ.lt;obtain⟨v,st,w1,hme,lN,eh,da⟩:=tJ.entry aa;rw[HE.1,HE.2,<-jE]at hme;simp only[pZ,goInt]at hme;have hlen:=uk l (l.getD k 0) (l.getD (k+1) 0) k;rw[HE.1,HE.2]at eh da hlen;have Jw:((places l z0 z1 k).map (λi=>Value.int .i32 (i:Nat))).length<=100000:=(by rw[cX];omega);have⟨PL,Zl⟩:=ex ((places l z0 z1 k).map (λi=>Value.int .i32 (i:Nat)));rw[Zl]at eh da Jw;have qT:=aK.size;have ajq:w1.heap[W2.heap.size]? =some (.cells #[.int .i32 k] 21 (0,0)):=(lN.block _ aa (by
    have TK:w.heap.size<wr.heap.size:=HL.lt;intro e;injection e with e;omega)).trans TR
   have vC: ∀i (h:i<[Value.int .i32 k].length),w1.cell? ⟨W2.heap.size,i,none⟩=some [Value.int .i32 k][i]:=(by intro i hi;obtain rfl:i=0:=jP;rw[aC _ _ _ _ _ _ ajq];rfl);have jm:=ae da;have cW:Hid (Below w.heap.size w w1):=ae (am (HB.trans (bm.mono ja)) lN (a8 ja bm.size) (λg e=>xu));have DM:=ae eh;have F5:=ae vC;have aqa:Hid (w.heap.size+1<=w1.heap.size):=ae (a8 aa lN.size);have gC:=ae Jw;have aqb:=ae lN.size;clear gH aK hS yx jE bm ad3 TR tJ lN eh da hlen Jw Zl qT ajq vC aV ja;have ajr:IntKind.i32.wrap (k:Int)=k:=by have e1:IntKind.i32.min= -2147483648:=rfl;have e2:IntKind.i32.max=2147483647:=rfl;first|exact IntWalk.i32_in _ aa|(unfold IntKind.wrap;simp;omega)
   go_wp2_with (at_builtin;refine bB ad2 rfl (.tmp 25) (.tmp 28) rfl (w.heap.size+1) w1 v PL rfl DM.out W2.heap.size 1 1 [.int .i32 k] rfl rfl F5.out oY (av gC.out) (av gC.out) aqa.out ?_;intro v' w2 cG gB xP;obtain⟨w3,hes,TS,kg⟩:=jm.out w2 v' gB cG (xP.imp id λe=>⟨_,e,aqb.out⟩);simp only[goInt]at hes;have Hz:=ae TS;have ft:Hid (Below w.heap.size w w3):=ae (am (am cW.out gB cW.size (λg e=>by have:=(DM.lt g e).1;omega)) kg (a8 cW.size gB.size) (λg e=>xu));clear cG gB xP TS kg)
   exact⟨⟨k+1,aa,by rw[<-k1];rfl,Hz,ft⟩,fP⟩
  ·obtain rfl:k=n:=(by omega);have xO: ¬(k:Int)<(l.length:Int)-1:=av HN.out;have ayW:decide ((k:Int)<(l.length:Int)-1)=false:=du xO;clear HMP bF;go_wp2;go_ret;exact⟨rfl,HL.out,HB.out⟩
end
section
open Go.RowKit Go.Maps
def Jy(L:List Nat)(place:Nat)(w:Lo)(e:Ending)(w':Lo):Prop:= ∃(b1 b2:Nat) (A:As) (c h:Nat),e= .returned (.func (.func 254) #[] #[PF b1,PF b2])/\br b1 w' (.int .i64 h)/\br b2 w' (.slice A L.length c)/\
 ru w' A L/\L.length<=c/\h<=L.length/\(∀q (_:q<L.length),q<h->L[q]<place)/\(∀q (_:q<L.length),h<=q->place<=L[q])/\Below w.heap.size w w'
theorem rx(Fp:Nat)(A:As)(c:Nat)(d:An)(dict nice:Int)(mp:Nat)(v4:Value)(place:Nat)(w:Lo)(hF:dV w Fp A c d dict nice mp v4)(hP:dA w mp d (d.length-1))(hp:place+1<d.length):
  Calls prog 231 #[PF Fp,.int .i64 place] w (Jy (places d (d.getD place 0) (d.getD (place+1) 0) (d.length-1)) place w):=by
 have n9:(d.length:Int)<=100000:=av hF.small;have hln:d.length<=100000:=hF.small;have oj:(d.length:Int)<=c:=av hF.cap;obtain⟨y1,C_⟩: ∃y:Nat,place+1=y:=⟨_,rfl⟩
 have k1:(place:Int)+1=(y1:Int):=aa;have l1:(y1:Int)<d.length:=aa;have l0:(place:Int)<d.length:=aa;obtain⟨b,off,rfl,eX,_⟩:=hF.bytes.addr aa;have HC0:Hid (∀w2:Lo,Below w.heap.size w w2->w2.cell? ⟨b,off+place,none⟩=some (.int .u8 ((d.getD place 0).toNat:Nat))/\w2.cell? ⟨b,off+y1,none⟩=some (.int .u8 ((d.getD y1 0).toNat:Nat))):=ae (λw2 hb=>by
  obtain⟨b',zn,e,_,cZ⟩:=(hF.below hb).bytes.addr aa;injection e with e;injection e with e1 e2;subst e1;subst e2;have h0:=cZ place aa;have h1:=cZ y1 aa;rw[<-dQ (d:=d) (i:=place) aa]at h0;rw[<-dQ (d:=d) (i:=y1) aa]at h1;exact⟨h0,h1⟩)
 rw[C_];generalize d.getD place 0=z0 at*;generalize d.getD y1 0=z1 at*;obtain⟨PA,cp,VO,Il,Ae,oT⟩:=hP.look aa z0 z1;have Ez:=yB d z0 z1 (d.length-1);have hlen:=uk d z0 z1 (d.length-1);have Mk:Hid (∀w2:Lo,Below w.heap.size w w2->(Instr.lookup 138 (.map (some mp)) (pZ z0 z1) false).run prog w2= .ok (.slice PA (places d z0 z1 (d.length-1)).length cp) w2):=ae (λw2 hb=>by
  have yE:w2.heap[mp]? =w.heap[mp]? :=hb.block _ hP.lt;exact hP.VN yE VO)
 have⟨L,hL⟩:=ex (places d z0 z1 (d.length-1));rw[hL]at VO Il Ae Ez hlen Mk ⊢;have HC:=ae (fun(w2:Lo) (hb:Below w.heap.size w w2)=>(show w2.cell? ⟨Fp,0,none⟩=some (.slice (some ⟨b,off,none⟩) d.length c)/\w2.cell? ⟨Fp,3,none⟩=some (.map (some mp))/\w2.cell? ⟨b,off+place,none⟩=some (.int .u8 z0.toNat)/\w2.cell? ⟨b,off+y1,none⟩=some (.int .u8 z1.toNat)/\(Instr.lookup 138 (.map (some mp)) (.agg #[.int .u8 z0.toNat,.int .u8 z1.toNat]) false).run prog w2= .ok (.slice PA L.length cp) w2 from by
  obtain⟨f0,_,_,f3,_⟩:=(hF.below hb).cells;exact⟨f0,f3,(HC0 w2 hb).1,(HC0 w2 hb).2,Mk.out w2 hb⟩))
 have ab4:=ae Il;have Ju:=ae Ez;have HCP:=ae Ae;have ajr:IntKind.i32.wrap (place:Int)=place:=by have e1:IntKind.i32.min= -2147483648:=rfl;have e2:IntKind.i32.max=2147483647:=rfl;first|exact IntWalk.i32_in _ aa|(unfold IntKind.wrap;simp;omega)
 have xa:L.length<=100000:=aa;have vk:=ae xa;have v1:IntKind.i64.wrap (y1:Int)=y1:=em _ aa;clear hF hP VO Il Ez hlen Ae hL eX C_ HC0 Mk xa hp oT;go_enter func231,ntmps231;go_wp2_with fail;refine wp_region_held_drew (S:=λw2=>Below w.heap.size w w2) ak ⟨rfl,rfl,rfl,aF _,λ_ _=>rfl⟩ (λhS=> ?_);refine cC 0 HC.out hS (h:=cC 1 HC.out hS (h:=cC 2 HC.out hS (h:=cC 3 HC.out hS (h:=cC 4 HC.out hS (h:=cC 5 HC.out hS (h:=cC 6 HC.out hS (h:=cC 7 HC.out hS (h:=cC 8 HC.out hS (h:=cC 9 HC.out hS (h:=cC 10 HC.out hS (h:=cC 11 HC.out hS (h:= ?_))))))))))));refine cC 12 HC.out hS (h:=cC 13 HC.out hS (h:=cC 14 HC.out hS (h:=cC 15 HC.out hS (h:=cC 16 HC.out hS (h:=cC 17 HC.out hS (h:=cC 18 HC.out hS (h:=cC 19 HC.out hS (h:=cC 20 HC.out hS (h:= ?_)))))))));refine aO 21 (λK hK=> ?_);go_simp;refine hK _ _ (m7 hS hS.size _) (λ_=> ?_);clear hK K;refine aO 22 (λK hK=> ?_);go_simp;refine hK _ _ (m7 hS hS.size _) (λ_=> ?_);clear hK K;refine wpAnyH_done ak ?_ _;have⟨W2,gH⟩:=ex ((w.alloc (.cells #[.slice PA L.length cp] 139)).drew);rw[gH];have aK:Below w.heap.size w W2:=by rw[<-gH];have h:=(aP w.heap.size w).alloc (aF _) (.cells #[.slice PA L.length cp] 139);exact⟨h.os,h.tape,h.output,h.size,h.block⟩
 have fK:br w.heap.size W2 (.slice PA L.length cp):=⟨_,xv⟩
 have c5:=fK.cell;have Q7:=ae (ML PA L cp place W2 (ab4.below aK) vk.out HCP.out Ju.out);have dG:=ae aK;have HX2:=ae fK;have D_:Hid (W2.heap.size=w.heap.size+1):=ae (by rw[<-gH];simp[World.drew]);clear gH aK fK hS;go_wp2_with fail;refine Q7.mono ?_;rintro e w3 ⟨⟨i,bb,rfl,hi,yr,Ll⟩,rfl⟩;have HI:=ae (ap hi (ap yr Ll));have⟨W4,lP⟩:=ex (W2.alloc (.cells #[.int .i64 i] 3));have bc:Below W2.heap.size W2 W4:=by rw[<-lP];exact az
 have F6:br W2.heap.size W4 (.int .i64 i):=by rw[<-lP];exact br.made _ _ _
 have Mj:=ae lP;have H4:=ae (ap bc F6);clear hi yr Ll lP bc F6;go_wp2_with fail;rw[Mj.out];go_ret;have ajs:=aQ dG.out H4.1;refine⟨_,_,PA,cp,i,rfl,H4.2,HX2.aU (H4.1.block _ (by rw[D_.out];omega)),ab4.below ajs,HCP.out,HI.1,HI.2.1,HI.2.2,ajs⟩
end
theorem E_(d:Nat)(A:As)(n c:Nat)(w:Lo):(Op.equalIn (d+1) 22 (.slice A n c) (.slice none 0 0)).run prog w= .ok A.isNone w:=by cases A<;>simp[Op.equalIn,run_underlying underlying22]
theorem ab5(A:As)(n c:Nat)(w:Lo):(binOp .eql 22 (.slice A n c) (.slice none 0 0)).run prog w= .ok (.bool A.isNone) w:=by have e:Op.maxDepth=9999+1:=rfl;simp only[binOp,Op.equal,e,Sem.run_bind,Sem.run_pure,E_,Result.andThen_ok]
def Q8(l:An)(w:Lo)(e:Ending)(w':Lo):Prop:= ∃v,e= .returned v/\Own w.heap.size w' v l/\Below w.heap.size w w'
theorem Q9(A:As)(l:An)(c:Nat)(w:Lo)(hB:Bytes w A l)(hc:l.length<=c)(hl:l.length<=100000):
  Calls prog 102 #[.slice A l.length c] w (Q8 l w):=by
 cases A with
 | none=>
  obtain rfl:l=[]:=by
   rcases Nat.eq_zero_or_pos l.length with h|h;·exact mm h
   ·obtain⟨_,_,e,_⟩:=hB.addr h;cases e
  clear hB;have hq:=ab5 none 0 c w;simp only[Option.isNone]at hq;go_enter func102,ntmps102;go_wp2;go_ret;exact⟨_,rfl,Own.nil _ _,aP _ _⟩
 | some a=>
  have hlen:([]:An).length+l.length<=140737488355328:=aH;have ho:=Own.lit (base:=w.heap.size) w [] (aF _) ah;have fV:Below w.heap.size w (w.alloc (.cells (([]:An).map B8).toArray 5)):=az;have Ey:=fV.size;have HB:=ae hB;clear hB;have hq:=ab5 (some a) l.length c w;simp only[Option.isNone]at hq;go_enter func102,ntmps102;go_wp2_with (at_builtin;refine aj rfl (.tmp 5) (.tmp 6) rfl w.heap.size _ _ [] rfl ho (some a) l c rfl (HB.below fV) hlen Ey ?_;intro v1 w1 kE lN;have aI:Below w.heap.size w w1:=am fV lN Ey (λg e=>(ho.ay g e).1))
  go_ret;exact⟨_,rfl,by simpa using kE,aI⟩
end Go.Proofs.YtfcaoggfnkhfiaaGreatDoor
