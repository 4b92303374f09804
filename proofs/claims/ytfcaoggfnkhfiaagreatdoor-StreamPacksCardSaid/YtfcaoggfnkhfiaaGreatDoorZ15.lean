import Derived.RangeFuncNested
import Derived.RangeFuncBound
import Derived.RangeFuncCalls
import Derived.RangeFuncLeaves
import Derived.RangeFuncKeeps
import Derived.Test.YtfcaoggfnkhfiaaGreatDoorRows
import Derived.Shelf.Abstract
import Derived.Shelf.RegionOpen
import Derived.OwnWalkIn
import Derived.TacticsInMore
import Derived.LoopNIn
import Derived.LoopIn
import Derived.RangeFuncBox
import Derived.Maps.AppendAt
import Derived.Test.YtfcaoggfnkhfiaaGreatDoorZ14
import Derived.Test.YtfcaoggfnkhfiaaGreatDoorZ12
import Derived.Deep.RegionHeld3
import Derived.RowKit3
import Derived.Deep.DeepCutAuto
namespace Go.Proofs.YtfcaoggfnkhfiaaGreatDoor
set_option maxRecDepth 100000
set_option maxHeartbeats 8000000
open Go.RowKit Go.Proofs.Tryz
variable{a:Act}{K:Act->World->Prop}{ops:Array Oper}{Q:Exit->Act->World->Prop}{l m r:An}{b base bo c f g gz n off:Nat}{o:Oper}{A:As}{x:UInt8}{u v:Value}{w w' w1 wx:Lo}
section
open Go Go.RowKit
def jA{β:Type}(bn:Nat)(J:β->World->Prop):Prop:= ∀s W v,J s W->J s (W.setCell ⟨bn,0,none⟩ v)
def fX(bn:Nat)(W W':Lo):Prop:=W'.cell? ⟨bn,0,none⟩=W.cell? ⟨bn,0,none⟩/\W'.frozen? ⟨bn,0,none⟩=W.frozen? ⟨bn,0,none⟩
theorem fX.trans{bn:Nat}{A B C:Lo}(h:fX bn A B)(k:fX bn B C):fX bn A C:=⟨k.1.trans h.1,k.2.trans h.2⟩
theorem jq{bn l:Nat}(W:Lo)(o:Obj)(h:bn≠l):fX bn W (W.putObj l o):=by have e:=World.putObj_heap_other (w:=W) (o:=o) h;exact⟨f5 (a:=⟨bn,0,none⟩) e,World.frozen?_of_block (a:=⟨bn,0,none⟩) e⟩
def XO{α:Type}(F:Fence)(n:Nat)(P:Program)(g:Nat)(lb:Array Value)(yh:α->Array Value)(bn:Nat)(S:List α->Prop)(N:Nat)(w:Lo):Prop:=
 ∀(l:Nat) (J:List α->World->Prop) (W:Lo),Below w.heap.size w W->jA bn J->
  (∀pre x W1,J pre W1->pre.length<N->YieldAt F (n-1) P l (yh x) W1 λe W'=>e= .returned (.bool true)/\J (pre++[x]) W'/\fX bn W1 W')->
  J [] W->
  CallsIn F n P g (#[.func (.yield l) #[] #[]]++lb) W λe W'=>(∃v,e= .returned v)/\ ∃xs,S xs/\J xs W'
def P7{α:Type}(bn:Nat)(I:List α->World->Prop)(xs:List α)(W:Lo):Exit->Act->World->Prop
 | .normal,_,W'=>KeepsOthers W W'/\fX bn W W'/\I xs W'
 | _,_,_=>False
variable{F:Fence}{n:Nat}{P:Program}
theorem CP{α:Type}{g:Operand}{ps:Array Tmp}{assign body:Code}{Q:Exit->Act->World->Prop}{a:Act}{w:Lo}
  (kM:F.round=none) (h1:1<=n) {gf:Nat} {lb:Array Value} (hg:a.eval g= .func (.func gf) #[] lb) (hFg:F.fn gf) (eg: ∀args w,(callFunc gf args).run P w= .ok (.enter gf args) w)
  {yh:α->Array Value} {bn:Nat} {S:List α->Prop} {N:Nat} (DT:XO F (n-1) P gf lb yh bn S N w) (Qy:bn<w.heap.size) (Er: ∀x,(yh x).size=ps.size)
  (I:List α->World->Prop) (hIa: ∀s W o,I s W->I s (W.alloc o)) (MH: ∀s W l o o',I s W->w.heap.size<=l->W.heap[l]? =some o->o.isCells=false->I s (W.putObj l o')) (hIc:jA bn I) (h0:I [] w) (a₁:α->Act)
  (pq: ∀(l:Nat) (x:α) (W:Lo) (K:Act->World->Prop),K (a₁ x) W->
   assign.wpIn (F.inRound l) (n-1-1) P (Exit.then K (λ_ _ _=>False)) {tmps:=(ps.zip (yh x)).foldl (λt (p,v)=>t.setIfInBounds p v) a.tmps,defers:=[]} W)
  (BO: ∀(l:Nat) (pre:List α) (x:α) (W:Lo),I pre W->pre.length<N->body.wpIn (F.inRound l) (n-1-1) P (P7 bn I (pre++[x]) W) (a₁ x) W)
  (tC: ∀(D:Nat) (xs:List α) (W:Lo),w.heap.size<=D->S xs->I xs W->W.heap[D]? =some (.deferred (some []))->Q .normal {a with defers:={target:= .collected D,args:= #[]}::a.defers} W):
  (Code.rangeFunc g ps assign body).wpIn F n P Q a w:=by
 refine wpIn_rangeFunc λfn Ew=> ?_;rw[kM];let kH:LoopState->Loop:=λst=>{state:=st,pending:=none,fn,tmps:=a.tmps,params:=ps,assign,body,defers:=w.heap.size}
 have⟨W1,ek⟩:=ex ((w.alloc (.deferred (some []))).alloc (.loop (kH .ready)));have aI:Below w.heap.size w W1:=by rw[<-ek];exact((aP _ w).alloc (aF _) _).alloc ah _
 have VA:W1.heap[w.heap.size+1]? =some (.loop (kH .ready)):=by rw[<-ek];have:=World.alloc_heap_new (w.alloc (.deferred (some []))) (.loop (kH .ready));rwa [pV]at this
 have hK1:W1.heap[w.heap.size]? =some (.deferred (some [])):=by rw[<-ek];exact(ee _ _ _ ah).trans (World.alloc_heap_new w _)
 have hI1:I [] W1:=FD
 refine⟨w.heap.size+1,[{target:= .collected w.heap.size,args:= #[]}],W1,{target:= .fn (.func gf) lb,args:= #[.func (.yield (w.heap.size+1)) #[] #[]]},W1,gf,
  #[.func (.yield (w.heap.size + 1)) #[] #[]] ++ lb, W1, ?_, ?_, ?_, ?_, λ_ => h1, ?_⟩
 ·rw[<-ek];exact run_enterLoop_outer _ _ _ _ _
 ·simp only[resolve,hg];simp[go_sem]
 ·intro f' VB;simp[Target.leads]at VB;subst VB;exact hFg
 ·simp[invoke,go_sem,eg]
 ·refine(DT (w.heap.size+1) (λpre W=>I pre W/\W.heap[w.heap.size+1]? =some (.loop (kH .ready))/\W.heap[w.heap.size]? =some (.deferred (some []))) W1 aI ?_ ?_ ⟨hI1,VA,hK1⟩).mono ?_;·intro s W v hs;exact⟨hIc s W v hs.1,(heap_setCell_other _ _ _ _ (by show w.heap.size+1≠bn;omega)).trans hs.2.1,(heap_setCell_other _ _ _ _ (by show w.heap.size≠bn;omega)).trans hs.2.2⟩
  ·rintro pre x W ⟨hi,hl,hk⟩ hlen;have aV:w.heap.size+1<W.heap.size:=(bU hl)
   have hy:=run_yield (P:=P) (args:=yh x) hl (Er x);refine⟨fn,_,assign,body,hy,roundIn_of_wpIn Ew (pq _ x W _ ⟨_,run_beginRound hl rfl,?_⟩)⟩;have zu:(W.putObj (w.heap.size+1) (.loop (kH .busy))).heap[w.heap.size+1]? =some (.loop (kH .busy)):=World.putObj_heap_same aV;have qp:(W.putObj (w.heap.size+1) (.loop (kH .busy))).heap[w.heap.size]? =some (.deferred (some [])):=(World.putObj_heap_other aa).trans hk;have ei:fX bn W (W.putObj (w.heap.size+1) (.loop (kH .busy))):=jq _ _ aa;refine wpIn_mono (BO _ pre x _ (MH _ _ _ _ _ hi aa hl rfl) hlen) ?_;rintro e a3 W3 hp;cases e with
   | normal=>
    obtain⟨oR,hkc,Vs⟩:=hp;have tJ:=oR.same _ _ zu rfl;have RG:=run_endRound (P:=P) none tJ;exact⟨_,_,RG,rfl,⟨MH _ _ _ _ _ Vs aa tJ rfl,World.putObj_heap_same (bU tJ),(World.putObj_heap_other aa).trans (oR.same _ _ qp rfl)⟩,(ei.trans hkc).trans (jq _ _ aa)⟩
   | ret=>exact hp.elim
   | exit id=>exact hp.elim
   | goto t=>exact hp.elim
   | panic ch=>exact hp.elim
   | outgrown=>exact hp.elim
  ·rintro e W2 ⟨⟨v,rfl⟩,xs,hS,hi,hl,hk⟩;exact⟨none,_,run_endLoop (P:=P) hl (by simp[kH]),tC _ xs _ (aF _) hS (MH _ _ _ _ _ hi aa hl rfl) ((World.putObj_heap_other aa).trans hk)⟩
end
namespace Vl
def put:Nat->Nat->List UInt8
 | 0,n=>[UInt8.ofNat n]
 | f+1,n=>if n<128 then [UInt8.ofNat n]else UInt8.ofNat (n%128+128)::put f (n/128)
theorem ml(h:n<128):put f n=[UInt8.ofNat n]:=by
 cases f with
 | zero=>rfl
 | succ f=>rw[put,ax h]
theorem AD(h: ¬n<128):put (f+1) n=UInt8.ofNat (n%128+128)::put f (n/128):=by rw[put,au h]
theorem bE(f n:Nat):1<=(put f n).length/\(put f n).length<=f+1:=by
 induction f generalizing n with
 | zero=>exact⟨aF _,aF _⟩
 | succ f ih=>
  by_cases h:n<128;·rw[ml h];simp
  ·rw[AD h];have:=ih (n/128);simp;omega
theorem P8: ∀k:Fin 256,k.val ||| 128=k.val%128+128:=m9
end Vl
section
open Go.RowKit Go.Shelf
attribute [local go_sem] Oper.semAt_some
def NY(bn:Nat)(wr:Lo):Nat:=(intOf ((wr.cell? ⟨bn,0,none⟩).getD undef)).toNat
theorem E7{bn m:Nat}{wr:Lo}(h:wr.cell? ⟨bn,0,none⟩=some (.int .u64 m)):NY bn wr=m:=by unfold NY;rw[h];simp[intOf]
theorem aaI(m:Nat):bits .or .u8 ((m:Int)%256) 128=(((UInt8.ofNat (m%128+128)).toNat:Nat):Int):=by have h:m%256 ||| 128=m%256%128+128:=Vl.P8 ⟨m%256,Nat.mod_lt _ aa⟩;rw[show(m:Int)%256=((m%256:Nat):Int) by omega,show(128:Int)=((128:Nat):Int)from rfl,u8_or_nat _ _ aa aa,h,fN];omega
theorem XP(m:Nat)(h:m<128):B8 (UInt8.ofNat m)= .int .u8 m:=by have e:(UInt8.ofNat m).toNat=m:=nL;show Value.int .u8 _=_;rw[e]
theorem aaJ(F:Fence)(n:Nat)(h11:F.fn 118)(kM:F.round=none)(hn:1<=n)(bn nv:Nat)(w:Lo)(hb:bn<w.heap.size)(hc:w.cell? ⟨bn,0,none⟩=some (.int .u64 nv))(hf:w.frozen? ⟨bn,0,none⟩=false)(hv:nv<128^10)(afh:nv<18446744073709551616):
  XO F n prog 118 #[.pointer (some ⟨bn,0,none⟩)] (λx:UInt8=> #[B8 x]) bn (λxs=>xs=Vl.put 9 nv) 10 w:=by
 intro l J W hW hJ hY h0;have hcW:=(hW.cell (p:=⟨bn,0,none⟩) hb).trans hc;have hfW:=(hW.frozen (p:=⟨bn,0,none⟩) hb).trans hf;have HY:=ae hY;have HJ:=ae hJ;clear hY hJ hc hf;refine callsIn_of_wp func118 rfl h11 ?_ kM;simp only[ntmps118,List.size_toArray,el,List.length_nil,Nat.reduceAdd,Nat.reduceSub,Array.replicate_succ,Array.replicate_zero,List.push_toArray,List.append_toArray,fL,List.cons_append]
 gi_wp2
 gi_loopw [4] (λ_ wr=> ∃(pre:An) (m f:Nat),Hid (Vl.put 9 nv=pre++Vl.put f m)/\Hid (m<128^(f+1))/\m<18446744073709551616/\pre.length+f=9/\wr.cell? ⟨bn,0,none⟩=some (.int .u64 m)/\wr.frozen? ⟨bn,0,none⟩=false/\J pre wr) (λ_ wr=>NY bn wr)
 ·exact⟨[],nv,9,rfl,hv,afh,rfl,hcW,hfW,h0⟩
 ·
  obtain⟨pre,m,f,Nt,hm,aAv,hlen,oT,hfm,zD⟩:=hrel;clear hcW hfW;have ak7:=ae (E7 oT);by_cases aV:m<128
  ·have Ui: ¬128<=(m:Int):=(by omega);obtain⟨fn,tmps,assign,body,hy,hR⟩:=HY.out pre (UInt8.ofNat m) wr zD aa;rw[XP m aV]at hy;have Cn:=ae (Vl.ml (f:=f) aV);generalize UInt8.ofNat m=X at*
   gi_wp2
   refine hR.mono ?_;rintro e W3 ⟨rfl,Hy,oR⟩
   gi_wp2
   go_end0;exact⟨⟨_,rfl⟩,pre++[X],by rw[Nt.out,Cn.out],Hy⟩
  ·have Ui:128<=(m:Int):=(by omega);cases f with
   | zero=>have:=hm.out;simp at this;omega
   | succ f=>
    obtain⟨fn,tmps,assign,body,hy,hR⟩:=HY.out pre (UInt8.ofNat (m%128+128)) wr zD aa;have NZ:=aaI m;have Cn:=ae (Vl.AD (f:=f) aV);have hq:(m:Int)/128=((m/128:Nat):Int):=aa;have fm:m/128<128^(f+1):=(by have:=hm.out;rw[cS]at this;rw[Nat.div_lt_iff_lt_mul aa];exact this);have tl:m/128<m:=aa;have kf:m/128<18446744073709551616:=aa;change Sem.run _ (Instr.yield l #[Value.int .u8 (((UInt8.ofNat (m%128+128)).toNat:Nat):Int)]) wr=_ at hy;generalize(UInt8.ofNat (m%128+128)).toNat=xn at hy NZ;generalize UInt8.ofNat (m%128+128)=X at*;generalize m/128=m2 at*;have F1:=ae fm;clear fm hm
    gi_wp2
    refine hR.mono ?_;rintro e W3 ⟨rfl,Hy,oR⟩;have ju:W3.cell? ⟨bn,0,none⟩=some (.int .u64 m):=oR.1.trans oT;have hf3:W3.frozen? ⟨bn,0,none⟩=false:=oR.2.trans hfm;have jM:(W3.setCell ⟨bn,0,none⟩ (.int .u64 m2)).cell? ⟨bn,0,none⟩=some (.int .u64 m2):=World.cell?_setCell_same' _ _ _ (by rw[ju];rfl);have hf4:(W3.setCell ⟨bn,0,none⟩ (.int .u64 m2)).frozen? ⟨bn,0,none⟩=false:=(by rw[World.frozen?_setCell];exact hf3);have hJ4:=HJ.out (pre++[X]) W3 (.int .u64 m2) Hy;have HL4:=ae (E7 jM)
    gi_wp2
    go_roundw;case rel=>exact⟨pre++[X],m2,f,by show Vl.put 9 nv=_;rw[Nt.out,Cn.out];simp,F1.out,kf,aH,jM,hf4,hJ4⟩
    case measure=>rw[HL4.out,ak7.out];exact tl
end
section
open Go.RowKit Go.Shelf
attribute [local go_sem] Oper.semAt_some
def E8(w:Lo)(B bn:Nat)(pre:An)(W:Lo):Prop:=
 ∃v x,W.heap[B]? =some (.cells #[v] 22 (0,0))/\W.heap[bn]? =some (.cells #[x] 48 (0,0))/\Own w.heap.size W v pre/\Below w.heap.size w W
theorem Own.put{base:Nat}{W:Lo}{v:Value}{l:An}(h:Own base W v l){j:Nat}{o:Obj}(o':Obj)(hj:W.heap[j]? =some o)(ho:o.isCells=false):Own base (W.putObj j o') v l:=by
 rcases h with⟨h1,h2|⟨g,cap,cur,h2,h3,h4,h5⟩⟩
 ·exact⟨h1,.inl h2⟩
 ·refine⟨h1,.inr ⟨g,cap,cur,h2,h3,(World.putObj_heap_other ?_).trans h4,h5⟩⟩;intro e;subst e;rw[hj]at h4;injection h4 with h4;subst h4;cases ho
theorem Own.set{base:Nat}{W:Lo}{v:Value}{l:An}(h:Own base W v l){p:Addr}(hp:v.ownBlock≠some p.block)(u:Value):Own base (W.setCell p u) v l:=by
 rcases h with⟨h1,h2|⟨g,cap,cur,h2,h3,h4,h5⟩⟩
 ·exact⟨h1,.inl h2⟩
 ·exact⟨h1,.inr ⟨g,cap,cur,h2,h3,(heap_setCell_other _ _ _ _ (λe=>hp (by rw[h2,<-e];rfl))).trans h4,h5⟩⟩
theorem Own.apart{base:Nat}{W:Lo}{v:Value}{l:An}(h:Own base W v l){k:Nat}{cs:Array Value}{t:TypeId}{fr:Nat×Nat}(hk:W.heap[k]? =some (.cells cs t fr))(ht:t≠5):v.ownBlock≠some k:=by
 intro he;rcases h with⟨_,⟨rfl,_⟩|⟨g',bW,cur,rfl,_,h4,_⟩⟩
 ·cases he
 ·have e:g'=k:=by simpa [Value.ownBlock]using he
  subst e;rw[h4]at hk;injection hk with hk;injection hk with _ qp _;exact ht qp.symm
theorem Own.cells{base:Nat}{W:Lo}{v:Value}{l:An}(h:Own base W v l){j:Nat}{o:Obj}(hj:v.ownBlock=some j)(ho:W.heap[j]? =some o):o.isCells=true:=by
 rcases h with⟨_,⟨rfl,_⟩|⟨g',bW,cur,rfl,_,h4,_⟩⟩
 ·cases hj
 ·have e:g'=j:=by simpa [Value.ownBlock]using hj
  subst e;rw[ho]at h4;injection h4 with h4;subst h4;rfl
theorem D4{bn:Nat}{W W':Lo}(h:W'.heap[bn]? =W.heap[bn]?):fX bn W W':=
 ⟨f5 (a:=⟨bn,0,none⟩) h,World.frozen?_of_block (a:=⟨bn,0,none⟩) h⟩
theorem Kv{w:Lo}{B bn:Nat}(s:An)(W:Lo)(o:Obj)(h:E8 w B bn s W):E8 w B bn s (W.alloc o):=by
 obtain⟨v,x,h1,h2,h3,h4⟩:=h;have l1:B<W.heap.size:=(bU h1)
 have l2:bn<W.heap.size:=(bU h2)
 exact⟨v,x,(ee _ _ _ l1).trans h1,(ee _ _ _ l2).trans h2,h3.alloc _,h4.alloc h4.size _⟩
theorem Sz{w w0:Lo}{B bn:Nat}(hw:w.heap.size<=w0.heap.size)(s:An)(W:Lo)(j:Nat)(o o':Obj)(h:E8 w B bn s W)(hl:w0.heap.size<=j)(hj:W.heap[j]? =some o)(ho:o.isCells=false):E8 w B bn s (W.putObj j o'):=by
 obtain⟨v,x,h1,h2,h3,h4⟩:=h;have n1:B≠j:=by intro e;subst e;rw[hj]at h1;injection h1 with h1;subst h1;cases ho
 have n2:bn≠j:=by intro e;subst e;rw[hj]at h2;injection h2 with h2;subst h2;cases ho
 refine⟨v,x,(World.putObj_heap_other n1).trans h1,(World.putObj_heap_other n2).trans h2,h3.put _ hj ho,?_⟩;exact h4.grown (grownBy_putObj' W j o') h4.size (λk e=>t6)
theorem N0{w:Lo}{B bn:Nat}(fj:B≠bn)(hb:w.heap.size<=bn):jA bn (E8 w B bn):=by intro s W u h;obtain⟨v,x,h1,h2,h3,h4⟩:=h;refine⟨v,u,(heap_setCell_other _ _ _ _ fj).trans h1,?_,h3.set (h3.apart h2 ar) _,h4.setCell hb _⟩;rw[heap_setCell_same W bn 0 _ _ u h2];rfl
def aaK(w:Lo)(nv:Nat)(e:Ending)(w':Lo):Prop:=e= .returned (.func (.func 118) #[] #[.pointer (some ⟨w.heap.size,0,none⟩)])/\w.alloc (.cells #[.int .u64 nv] 48)=w'
theorem afi(F:Fence)(n:Nat)(zI:F.fn 77)(kM:F.round=none)(nv:Nat)(w:Lo):
  CallsIn F n prog 77 #[.int .u64 nv] w (aaK w nv):=by
 refine callsIn_of_wp func77 rfl zI ?_ kM;simp only[ntmps77,List.size_toArray,el,List.length_nil,Nat.reduceAdd,Nat.reduceSub,Array.replicate_succ,Array.replicate_zero,List.push_toArray,List.append_toArray,fL,List.cons_append]
 gi_wp2
 go_ret;exact⟨rfl,rfl⟩
def Qa(w:Lo)(l:An)(e:Ending)(w':Lo):Prop:= ∃v,e= .returned (.tuple #[v,.int .i64 0])/\Own w.heap.size w' v l/\Below w.heap.size w w'
theorem afj(F:Fence)(n:Nat)(h6:F.fn 42)(zI:F.fn 77)(h11:F.fn 118)(kM:F.round=none)(hn:3<=n)(nv:Nat)(w:Lo)(hv:nv<=9223372036854775807):
  CallsIn F n prog 42 #[.int .u64 nv] w (Qa w (Vl.put 9 nv)):=by
 have h1:1<=n:=aa;have TQ: ¬9223372036854775807<(nv:Int):=aa;have afh:nv<18446744073709551616:=aa;refine callsIn_of_wp_marks func42 rfl h6 ?_ kM;simp only[ntmps42,List.size_toArray,el,List.length_nil,Nat.reduceAdd,Nat.reduceSub,Array.replicate_succ,Array.replicate_zero,List.push_toArray,List.append_toArray,fL,List.cons_append]
 gi_wp2_with (gi_at_call 77;refine(afi F (n-1) zI kM nv _).mono ?_;rintro e w' ⟨rfl,rfl⟩)
 have Qb:((w.alloc (.cells #[.slice none 0 0] 22)).alloc (.cells #[.int .u64 nv] 48)).heap[w.heap.size+1]? =some (.cells #[.int .u64 nv] 48 (0,0)):=by have:=heap_alloc_new (w.alloc (.cells #[.slice none 0 0] 22)) (.cells #[.int .u64 nv] 48);rwa [pV]at this
 have acy:((w.alloc (.cells #[.slice none 0 0] 22)).alloc (.cells #[.int .u64 nv] 48)).heap[w.heap.size]? =some (.cells #[.slice none 0 0] 22 (0,0)):=
  (ee _ _ _ ah).trans (heap_alloc_new w _)
 have ak8:Below w.heap.size w ((w.alloc (.cells #[.slice none 0 0] 22)).alloc (.cells #[.int .u64 nv] 48)):=(az).alloc ah _;have dF:((w.alloc (.cells #[.slice none 0 0] 22)).alloc (.cells #[.int .u64 nv] 48)).heap.size=w.heap.size+2:=ah;generalize(w.alloc (.cells #[.slice none 0 0] 22)).alloc (.cells #[.int .u64 nv] 48)=W0 at*;have TR:W0.cell? ⟨w.heap.size+1,0,none⟩=some (.int .u64 nv):=by rw[aC _ _ _ _ _ _ Qb];rfl
 have Ew:=aS W0 (w.heap.size+1) 0 _ _ Qb;have ar4:nv<128^10:=by have:(128:Nat)^10=1180591620717411303424:=ar;omega
 obtain⟨i0,hi,qw,kC,me⟩:=info_parts tz
 refine CP kM h1 (gf:=118) (lb:= #[.pointer (some ⟨w.heap.size+1,0,none⟩)]) rfl h11 (enters_of func118 ak rfl)
  (aaJ F (n-1) h11 kM aa (w.heap.size+1) nv W0 aa TR Ew ar4 afh) aa (λ_=>rfl)
  (E8 w w.heap.size (w.heap.size+1)) Kv (Sz (w0:=W0) aa) (N0 aa aa) ⟨_,_,acy,Qb,Own.nil _ _,ak8⟩
  (λx=>{tmps:= #[.int .u64 nv,undef,.slice none 0 0,.int .i64 0,.pointer (some ⟨w.heap.size,0,none⟩),B8 x,.int .u64 nv,.bool false,.int .u64 nv,.func (.func 118) #[] #[.pointer (some ⟨w.heap.size+1,0,none⟩)],B8 x,undef,undef,undef,undef,undef],defers:=[]}) ?assign ?body ?done
 case assign=>
  intro l x W K hK
  gi_wp2
  exact hK
 case body=>
  rintro l pre x W ⟨v,y,hB,hN,hO,hb⟩ hlen;have cB:W.cell? ⟨w.heap.size,0,none⟩=some v:=by rw[aC _ _ _ _ _ _ hB];rfl
  have qT:=hb.size;have hlB:w.heap.size<W.heap.size:=(bU hB)
  have hlN:w.heap.size+1<W.heap.size:=(bU hN)
  have aB:=hO.apart hB ar;have aN:=hO.apart hN ar;have hOa:=hO.alloc (.cells #[B8 x] 5);clear TR Ew acy Qb ak8
  gi_wp2_with (gi_at_builtin;refine wpListIn_append_own _ rfl _ _ 22 rfl w.heap.size 5 i0 (.int .u8 0) 1 1 underlying22 hi qw kC me rfl ar _ _ _ rfl hOa ⟨W.heap.size,0,none⟩ 1 1 [B8 x] rfl rfl (cell_one_new _ _ _) oY iJ aa aH ?_;intro v' w1 Kw XQ _;obtain⟨g',bW,rfl,lN,gB⟩:=World.ownsRow.form Kw aa;have i9:w1.heap[w.heap.size]? =some (.cells #[v] 22 (0,0)):=(XQ.block _ aH (λe=>aB e.symm)).trans ((ee _ _ _ hlB).trans hB);have P_:w1.heap[w.heap.size+1]? =W.heap[w.heap.size+1]? :=(XQ.block _ aH (λe=>aN e.symm)).trans (ee _ _ _ hlN);have cB1:w1.cell? ⟨w.heap.size,0,none⟩=some v:=(by rw[aC _ _ _ _ _ _ i9];rfl);have fB1:=aS w1 w.heap.size 0 _ _ i9)
  have TY:(W.alloc (.cells #[B8 x] 5)).grownBy w1 v.ownBlock:=XQ;have cG:Own w.heap.size w1 (.slice (some ⟨g',0,none⟩) (pre.length+1) bW) (pre++[x]):=by unfold Own;simpa using Kw
  have aB1:=cG.apart i9 ar;refine⟨((KeepsOthers.alloc W _).trans (KeepsOthers.of_grownBy TY (λj o hj ho=>hOa.cells hj ho))).trans (KeepsOthers.setCell _ _ _),D4 ((heap_setCell_other _ _ _ _ (by show w.heap.size+1≠w.heap.size;omega)).trans P_),_,y,?_,?_,cG.set aB1 _,?_⟩;·rw[heap_setCell_same w1 w.heap.size 0 _ _ _ i9];rfl
  ·exact(heap_setCell_other _ _ _ _ (by show w.heap.size+1≠w.heap.size;omega)).trans (P_.trans hN)
  ·exact(am (hb.alloc hb.size _) TY aH (λk hk=>(hO.ay k hk).1)).setCell (aF _) _
 case done=>
  rintro D xs W hD rfl ⟨v,y,hB,hN,hO,hb⟩ hK;have cB:W.cell? ⟨w.heap.size,0,none⟩=some v:=by rw[aC _ _ _ _ _ _ hB];rfl
  gi_wp2
  refine⟨ah,.inl ⟨_,_,rfl,run_takeDeferred hK,?_⟩⟩;exact⟨_,results_tmp2 rfl _ _ _,v,rfl,hO.put _ hK rfl,hb.grown (grownBy_putObj' W D (.deferred none)) hb.size (λk e=>t6)⟩
theorem Qc(nv:Nat)(w:Lo)(hv:nv<=9223372036854775807):Calls prog 42 #[.int .u64 nv] w (Qa w (Vl.put 9 nv)):=
 callsIn_wide.1 (afj Fence.wide 3 trivial trivial trivial rfl aa nv w hv)
end
def j8(bo:Nat)(w:Lo)(v:Value):Prop:=w.heap[bo]? =some (.cells #[v] 22 (0,0))
theorem j8.cell{bo:Nat}{w:Lo}{v:Value}(h:j8 bo w v):w.cell? ⟨bo,0,none⟩=some v:=by rw[aC w bo 0 _ _ _ h];rfl
theorem j8.frozen(h:j8 bo w v):w.frozen? ⟨bo,0,none⟩=false:=by simp[World.frozen?,show w.heap[bo]? =_ from h]
theorem j8.lt{bo:Nat}{w:Lo}{v:Value}(h:j8 bo w v):bo<w.heap.size:=(bU h)
theorem j8.ne(h:j8 bo w v)(ho:Own base w u l):u.ownBlock≠some bo:=by
 intro e;rcases ho with⟨_,⟨rfl,_⟩|⟨g,cap,cur,rfl,_,hg,_⟩⟩
 ·cases e
 ·injection e with e;subst e;rw[show w.heap[g]? =_ from h]at hg;injection hg with hg;injection hg with _ ht;exact absurd ht ar
theorem j8.set(h:j8 bo w v)(u:Value):j8 bo (w.setCell ⟨bo,0,none⟩ u) u:=heap_set (L:=[v]) h 0 u
theorem Own.uG(ho:Own base w u l)(h:j8 bo w v)(x:Value):Own base (w.setCell ⟨bo,0,none⟩ x) u l:=by
 have hn:=h.ne ho;rcases ho with⟨h1,h2|⟨g,cap,cur,rfl,h3,hg,h4⟩⟩
 ·exact⟨h1,.inl h2⟩
 ·exact⟨h1,.inr ⟨g,cap,cur,rfl,h3,(af _ _ _ _ (λe=>hn (by simp[Value.ownBlock];exact e))).trans hg,h4⟩⟩
theorem j8.below(h:j8 bo w v)(hb:Below w.heap.size w w'):j8 bo w' v:=(hb.block bo h.lt).trans h
theorem j8.grown{row:Option Nat}(h:j8 bo w v)(hg:w.grownBy w' row)(hn:row≠some bo):j8 bo w' v:=(hg.block bo h.lt (λe=>hn e.symm)).trans h
theorem Own.opened(h:Own base w v l)(h0:0<l.length): ∃g c,v= .slice (some ⟨g,0,none⟩) l.length c/\base<=g/\g<w.heap.size/\l.length<=c/\c<=9223372036854775807/\(∀i (h:i<(l.map B8).length),w.cell? ⟨g,i,none⟩=some (l.map B8)[i])/\ ∀i,w.frozen? ⟨g,i,none⟩=false:=by
 rcases h with⟨h1,⟨_,hn⟩|⟨g,cap,cur,rfl,hb,hg,O8,oT,dF,Bb⟩⟩
 ·omega
 ·refine⟨g,cap,rfl,hb,?_,O8,OU,λi hi=> ?_,λi=> ?_⟩
  ·rcases dN g w.heap.size with h|h;·exact h
   ·rw[lI h]at hg;cases hg
  ·rw[aC w g _ cur _ _ hg];have h2:=aR (λx:List Value=>x[i]?) Bb;rw[cX]at hi;simp only[Ii,Nat.mul_one,hi,if_true]at h2;rw[dS (show i<(l.map B8).length by simpa using hi)]at h2;simpa using h2
  ·simp[World.frozen?,hg]
theorem Own.aU(h:Own base w v l)(hb: ∀g,v.ownBlock=some g->w'.heap[g]? =w.heap[g]?):Own base w' v l:=by
 rcases h with⟨h1,h2|⟨g,cap,cur,h2,h3,h4,h5⟩⟩
 ·exact⟨h1,.inl h2⟩
 ·exact⟨h1,.inr ⟨g,cap,cur,h2,h3,(hb g (by rw[h2];rfl)).trans h4,h5⟩⟩
theorem ak9:Elem 22 5 (.int .u8 0) 1:=⟨underlying22,ak,rfl⟩
theorem Own.ar5(h:Own base w v l):aZ 5 base w v (l.map B8):=by have h':w.ownsRow base 5 1 v l.length (l.map B8):=h;unfold aZ;rw[cX];exact h'
theorem aZ.bytes(h:aZ 5 base w v (l.map B8++m.map B8)):Own base w v (l++m):=by have h':w.ownsRow base 5 1 v (l.map B8++m.map B8).length (l.map B8++m.map B8):=h;rw[<-iI,cX]at h';exact h'
theorem AE(bo base:Nat)(v:Value)(L:An)(n:Nat)(w:Lo)(hb:j8 bo w v)(ho:Own base w v L)(fE:base<=bo)(hn:n<=9223372036854775807)(hL:L.length<=100000000):
  Calls prog 74 #[.int .u64 n,.pointer (some ⟨bo,0,none⟩)] w λe w'=> ∃v',e= .returned (.tuple #[])/\j8 bo w' v'/\Own base w' v' (L++Vl.put 9 n)/\Below base w w'/\(∀g,g<w.heap.size->g≠bo->v.ownBlock≠some g->w'.heap[g]? =w.heap[g]?)/\ ∀g,v'.ownBlock=some g->v.ownBlock=some g\/w.heap.size<=g:=by
 have HP:=ae (Qc n w hn);have HL:=ae (Vl.bE 9 n);generalize Vl.put 9 n=P at*;have ja:base<=w.heap.size:=a8 fE (Nat.le_of_lt hb.lt);go_enter func74,ntmps74;go_wp2_with fail;refine HP.mono ?_;rintro e w1 ⟨v1,rfl,kE,aI⟩;obtain⟨gp,c,rfl,_,hgp,dE,ei,xm,_⟩:=kE.opened HL.1;have Cg:=ae xm;have ks:=hb.below aI;have gZ:=ks.cell;have dz:=ho.below aI;have dF:=aI.size;clear xm;go_wp2_with (refine bB ak9 rfl _ _ rfl base _ v (L.map B8) rfl dz.ar5 gp P.length c (P.map B8) rfl ah Cg.out (nM P) (by have:=HL.out;simp;omega) (by have:=HL.out;simp;omega) aa ?_;intro v' w2 afk kg xP;have dU:=afk.bytes;have fK:=ks.grown kg (λe=>ks.ne dz e);have zJ:=fK.cell;have N1:=fK.frozen;obtain⟨A3,c3,rfl,ju⟩:=dU.read;rw[aG]at dU xP)
 go_end0;refine⟨_,rfl,fK.set _,dU.uG fK _,cN (am (aI.mono ja) kg aa (λg e=>(dz.ay g e).1)) fE _,λg h1 h2 h3=>(af _ _ _ _ (λe=>h2 e)).trans ((kg.block g aa (λe=>h3 e.symm)).trans (aI.block g h1)),λg hg=> ?_⟩;rcases xP with h|h;·exact .inl (h▸hg)
 ·refine .inr ?_;rw[h]at hg;injection hg with e;omega
theorem je.rest{f:eF}{l:List eF}(h:je w (some ⟨b,off,none⟩) (f::l)):je w (some ⟨b,off+2,none⟩) l:=by
 rcases h with h|⟨b',zn,e,aV,cZ⟩
 ·cases h
 ·injection e with e;injection e with e1 e2;subst e1;subst e2;refine .inr ⟨_,_,rfl,aV,λi hi=> ?_⟩;have:=cZ (i+1) aH;simp only[List.getElem_cons_succ]at this;rw[show off+2+i*2=off+(i+1)*2 by omega];exact this
theorem SA(w:Lo):Below w.heap.size w w.drew:=(aP _ _).drew
def Reads(w:Lo)(l:An)(e:Ending)(w':Lo):Prop:= ∃A c,e= .returned (.slice A l.length c)/\l.length<=c/\c<=9223372036854775807/\Bytes w' A l/\Below w.heap.size w w'
def Qd(l:List eF):Prop:= ∀(A0:As) (c0:Nat) (A:As) (b:An) (c:Nat) (w:Lo),je w A0 l->Bytes w A b->b.length<=c->c<=9223372036854775807->b.length<=1000000->l.length<=c0->c0<=9223372036854775807->
  Calls prog 56 #[.slice A0 l.length c0,.slice A b.length c] w (Reads w (ew l b))
theorem SB:Qd []:=by intro A0 c0 A b c w hF hB hc hm hl IR Gp;go_enter func56,ntmps56;go_wp2;go_ret;exact⟨A,c,rfl,hc,hm,hB,aP _ _⟩
theorem je.cut{f:eF}{l:List eF}(h:je w (some ⟨b,off,none⟩) (f::l))(c:Nat)(hc:(f::l).length<=c):je w (if c=1 then some ⟨b,off,none⟩else some ⟨b,off+2,none⟩) l:=by
 by_cases e:c=1
 ·have:l=[]:=by have:l.length=0:=(by simp at hc;omega);exact mm this
  exact .inl this
 ·rw[au e];exact h.rest
theorem N3(f:eF)(l:List eF)(bY:eI f=true)(aAD:l.length<=20)(ih:Qd l):Qd (f::l):=by
 intro A0 c0 A b c w hF hB hc hm hb IR Gp;obtain⟨b0,off,rfl,eX,cZ⟩:=hF.addr ah;have ln:=cZ 0 ah;simp only[Nat.zero_mul,Nat.add_zero,List.getElem_cons_zero]at ln;have h0:=ln.c0;have h1:=ln.c1;obtain⟨o1,o2,o3⟩:=ln.ok;have hxl:=yV f b;have hs:ew (f::l) b=ew l (rT f b):=rfl;rw[hs];have IH:Hid (∀(A0:As) (A:As) (c:Nat) (w:Lo),je w A0 l->Bytes w A (rT f b)->(rT f b).length<=c->c<=9223372036854775807->Calls prog 56 #[.slice A0 l.length (c0-1),.slice A (rT f b).length c] w (Reads w (ew l (rT f b)))):=by apply ae;intro A0 A c w k1 k2 k3 k4;exact ih A0 (c0-1) A _ c w k1 k2 k3 k4 aa (by simp at IR;omega) aa
 have hFr:=hF.cut c0 IR;have gZ:(f::l).length=l.length+1:=rfl;rw[gZ]at IR ⊢;have bu:=SA w;obtain⟨id,n⟩:=f;simp only at h0 h1 o1 o2 o3;clear hs cZ ln hxl gZ ih;have e1:(l.length+1)-1=l.length:=aa;rcases CD _ bY with⟨e,g1,g2⟩|⟨e,g1,g2⟩
 ·simp only at e g1 g2;subst e;have hx:rT ⟨3,n⟩ b=Delta.enc b ((n:Int).toNat):=rfl;rw[hx]at IH ⊢;have HC:=ae (fun(w':Lo) (h:Bytes w' A b)=>De.Nu A b c (n:Int) w' h aa aa aa);generalize Delta.enc b ((n:Int).toNat)=X at*;generalize ew l X=Y at*;clear hx bY;by_cases dE:c0=1;·subst dE;simp only[if_true]at hFr;simp only[lJ]at IH;go_enter func56,ntmps56;go_wp2_with fail;refine wp_region_held_drew (S:=λw'=>aq w w') ak bu (λhS=> ?_);refine ag 0 hS (h:=bx 1 rfl (λw hSw=>by have q1:1<=(l.length:Int)+1:=aa;go_simp;all_goals(with_reducible rfl)) hS (h:=ag 2 hS (h:=ag 3 hS (h:=ag 4 hS (h:=ag 5 hS (h:=bx 6 rfl (λw hSw=>su) hS (h:=bx 7 rfl (λw hSw=>by have q2:IntKind.i64.wrap (n:Int)=n:=em _ aa;go_simp;all_goals(with_reducible rfl)) hS (h:= ?_))))))));refine aO 8 (λK hK=> ?_);go_simp;refine(HC _ (hB.below bu)).mono ?_;rintro e w4 ⟨v4,rfl,bM,bc⟩;obtain⟨A4,c4,rfl,jM,kf,lx⟩:=bM.read;have g4:=aQ bu bc;clear bM bc;go_wp2_with fail;refine hK _ _ g4 (λ_=> ?_);clear hK K;refine aO 9 (λK hK=> ?_);go_simp;refine(IH _ A4 c4 _ (hFr.below g4) lx jM kf).mono ?_;rintro e w5 ⟨A5,c5,rfl,vU,yY,pM,eS⟩;have g5:=aQ g4 eS;go_wp2_with fail;refine hK _ _ g5 (λ_=> ?_);clear hK K;refine ag 10 g5 (h:= ?_);refine wpAnyH_done ak ?_ _;go_wp2;go_ret;exact⟨A5,c5,rfl,vU,yY,pM,g5⟩
  ·rw[au dE]at hFr;go_enter func56,ntmps56;go_wp2_with fail;refine wp_region_held_drew (S:=λw'=>aq w w') ak bu (λhS=> ?_);refine ag 0 hS (h:=bx 1 rfl (λw hSw=>by have q1:1<=(l.length:Int)+1:=aa;go_simp;all_goals(with_reducible rfl)) hS (h:=ag 2 hS (h:=ag 3 hS (h:=ag 4 hS (h:=ag 5 hS (h:=bx 6 rfl (λw hSw=>su) hS (h:=bx 7 rfl (λw hSw=>by have q2:IntKind.i64.wrap (n:Int)=n:=em _ aa;go_simp;all_goals(with_reducible rfl)) hS (h:= ?_))))))));refine aO 8 (λK hK=> ?_);go_simp;refine(HC _ (hB.below bu)).mono ?_;rintro e w4 ⟨v4,rfl,bM,bc⟩;obtain⟨A4,c4,rfl,jM,kf,lx⟩:=bM.read;have g4:=aQ bu bc;clear bM bc;go_wp2_with fail;refine hK _ _ g4 (λ_=> ?_);clear hK K;refine aO 9 (λK hK=> ?_);go_simp;refine(IH _ A4 c4 _ (hFr.below g4) lx jM kf).mono ?_;rintro e w5 ⟨A5,c5,rfl,vU,yY,pM,eS⟩;have g5:=aQ g4 eS;go_wp2_with fail;refine hK _ _ g5 (λ_=> ?_);clear hK K;refine ag 10 g5 (h:= ?_);refine wpAnyH_done ak ?_ _;go_wp2;go_ret;exact⟨A5,c5,rfl,vU,yY,pM,g5⟩
 ·simp only at e g1 g2;have hx:rT ⟨id,n⟩ b=j6 (nB id) (l7 id false) n b:=by unfold rT;rw[au e]
  rw[hx]at IH ⊢;have HC:=ae (fun(w':Lo) (h:Bytes w' A b)=>Sd id g1 false n o3 A b c w' h hb hc hm);generalize j6 (nB id) (l7 id false) n b=X at*;generalize ew l X=Y at*;have Lt:(id==3)=false:=by simp[e]
  clear hx bY g1 e;by_cases dE:c0=1;·subst dE;simp only[if_true]at hFr;simp only[lJ]at IH;go_enter func56,ntmps56;go_wp2_with fail;refine wp_region_held_drew (S:=λw'=>aq w w') ak bu (λhS=> ?_);refine ag 0 hS (h:=bx 1 rfl (λw hSw=>by have q1:1<=(l.length:Int)+1:=aa;go_simp;all_goals(with_reducible rfl)) hS (h:=ag 2 hS (h:=ag 3 hS (h:=ag 4 hS (h:=bx 5 rfl (λw hSw=>su) hS (h:=ag 6 hS (h:=ag 7 hS (h:=ag 8 hS (h:=bx 9 rfl (λw hSw=>su) hS (h:=ag 10 hS (h:= ?_)))))))))));refine aO 11 (λK hK=> ?_);go_simp;refine(HC _ (hB.below bu)).mono ?_;rintro e w4 ⟨v4,rfl,bM,bc⟩;obtain⟨A4,c4,rfl,jM,kf,lx⟩:=bM.read;have g4:=aQ bu bc;clear bM bc;go_wp2_with fail;refine hK _ _ g4 (λ_=> ?_);clear hK K;refine aO 12 (λK hK=> ?_);go_simp;refine(IH _ A4 c4 _ (hFr.below g4) lx jM kf).mono ?_;rintro e w5 ⟨A5,c5,rfl,vU,yY,pM,eS⟩;have g5:=aQ g4 eS;go_wp2_with fail;refine hK _ _ g5 (λ_=> ?_);clear hK K;refine ag 13 g5 (h:= ?_);refine wpAnyH_done ak ?_ _;go_wp2;go_ret;exact⟨A5,c5,rfl,vU,yY,pM,g5⟩
  ·rw[au dE]at hFr;go_enter func56,ntmps56;go_wp2_with fail;refine wp_region_held_drew (S:=λw'=>aq w w') ak bu (λhS=> ?_);refine ag 0 hS (h:=bx 1 rfl (λw hSw=>by have q1:1<=(l.length:Int)+1:=aa;go_simp;all_goals(with_reducible rfl)) hS (h:=ag 2 hS (h:=ag 3 hS (h:=ag 4 hS (h:=bx 5 rfl (λw hSw=>su) hS (h:=ag 6 hS (h:=ag 7 hS (h:=ag 8 hS (h:=bx 9 rfl (λw hSw=>su) hS (h:=ag 10 hS (h:= ?_)))))))))));refine aO 11 (λK hK=> ?_);go_simp;refine(HC _ (hB.below bu)).mono ?_;rintro e w4 ⟨v4,rfl,bM,bc⟩;obtain⟨A4,c4,rfl,jM,kf,lx⟩:=bM.read;have g4:=aQ bu bc;clear bM bc;go_wp2_with fail;refine hK _ _ g4 (λ_=> ?_);clear hK K;refine aO 12 (λK hK=> ?_);go_simp;refine(IH _ A4 c4 _ (hFr.below g4) lx jM kf).mono ?_;rintro e w5 ⟨A5,c5,rfl,vU,yY,pM,eS⟩;have g5:=aQ g4 eS;go_wp2_with fail;refine hK _ _ g5 (λ_=> ?_);clear hK K;refine ag 13 g5 (h:= ?_);refine wpAnyH_done ak ?_ _;go_wp2;go_ret;exact⟨A5,c5,rfl,vU,yY,pM,g5⟩
theorem SC(l:List eF)(hl:l.length<=20)(dZ:l.all eI=true):Qd l:=by
 induction l with
 | nil=>exact SB
 | cons f l ih=>
  rw[List.all_cons,tw]at dZ;simp at hl;exact N3 f l dZ.1 aa (ih aa dZ.2)
def bt(k:Nat):Nat:=if 40<k then 0 else if k=40 then 4294967295 else(2+k%2)*2^(11+k/2)
theorem rW(k:Nat):bt k<4294967296:=by
 by_cases h:k<=40
 ·have: ∀k,k<41->bt k<4294967296:=by decide
  exact this k aa
 ·unfold bt;rw[ax aa];omega
theorem uH(i j:Nat)(h:i<j)(hj:j<=40):bt i<bt j:=by have: ∀j,j<41-> ∀i,i<j->bt i<bt j:=ar;exact this j aa i h
theorem Fa:bt 40=4294967295:=ar
def dx(d:Nat):Nat:=((List.range 41).find? λi=>decide (d<=bt i)).getD 40
theorem rX(d k:Nat)(hk:k<=40)(h1:d<=bt k)(h2: ∀j,j<k->bt j<d):dx d=k:=by
 have:(List.range 41).find? (λi=>decide (d<=bt i))=some k:=by rw[List.find?_range_eq_some];refine⟨by simpa using h1,aH,λj hj=>by simpa using h2 j hj⟩
 unfold dx;rw[this];rfl
theorem rY(d:Nat):dx d<=40:=by
 unfold dx;cases h:(List.range 41).find? (λi=>decide (d<=bt i))with
 | none=>simp
 | some k=>have:=List.mem_of_find?_eq_some h;simp at this ⊢;omega
def Low(d k:Nat):Prop:= ∀j,j<k->bt j<d
theorem kJ(k:Nat)(hk:k<=40)(w:Lo):Calls prog 37 #[.int .i64 k] w λe w'=>e= .returned (.int .u32 (bt k:Nat))/\w=w':=by
 have hc:k=0\/k=1\/k=2\/k=3\/k=4\/k=5\/k=6\/k=7\/k=8\/k=9\/k=10\/k=11\/k=12\/k=13\/k=14\/k=15\/k=16\/k=17\/k=18\/k=19\/k=20\/k=21\/k=22\/k=23\/k=24\/k=25\/k=26\/k=27\/k=28\/k=29\/k=30\/k=31\/k=32\/k=33\/k=34\/k=35\/k=36\/k=37\/k=38\/k=39\/k=40:=aa;rcases hc with rfl|rfl|rfl|rfl|rfl|rfl|rfl|rfl|rfl|rfl|rfl|rfl|rfl|rfl|rfl|rfl|rfl|rfl|rfl|rfl|rfl|rfl|rfl|rfl|rfl|rfl|rfl|rfl|rfl|rfl|rfl|rfl|rfl|rfl|rfl|rfl|rfl|rfl|rfl|rfl|rfl
 all_goals
  go_enter func37,ntmps37;go_wp2;go_ret;exact⟨aR (λn:Int=>Ending.returned (.int .u32 n)) ar,rfl⟩
theorem SD(a:Int)(h:a<0\/40<a)(w:Lo):Calls prog 37 #[.int .i64 a] w λe w'=>e= .returned (.int .u32 0)/\w=w':=by
 rcases h with h|h;·go_enter func37,ntmps37;go_wp2;go_ret;exact⟨rfl,rfl⟩
 ·have h': ¬a<0:=by omega
  go_enter func37,ntmps37;go_wp2;go_ret;exact⟨rfl,rfl⟩
theorem XR(a:Int)(w:Lo):Calls prog 37 #[.int .i64 a] w λe w'=>e= .returned (.int .u32 ((if a<0 then 0 else bt a.toNat:Nat):Int))/\w=w':=by
 by_cases h:a<0\/40<a
 ·refine(SD a h w).mono ?_;rintro e w' ⟨rfl,rfl⟩;refine⟨?_,rfl⟩;rcases h with h|h;·rw[ax h];rfl
  ·rw[au aa];unfold bt;rw[ax aa];rfl
 ·obtain⟨k,rfl⟩: ∃k:Nat,a=(k:Int):=⟨a.toNat,aa⟩
  rw[au aa,Int.toNat_natCast];exact kJ k aa w
theorem afl(i:Nat)(h:i<=30):2^i<=1073741824:=by have:=fk (n:=2) aa h;simpa using this
def rZ(k i:Nat):Nat:=(2+k%2)*2^i
theorem N4(k i:Nat):rZ k (i+1)=2*rZ k i:=by unfold rZ;rw[cS,<-qG,dR]
theorem XS(k i:Nat)(h:i<=30):rZ k i<=3221225472:=by
 unfold rZ;have h1:=afl i h;have h2:2+k%2<=3:=aa
 calc(2+k%2)*2^i<=3*1073741824:=Nat.mul_le_mul h2 h1
  _=3221225472:=rfl
theorem N5(k:Nat):rZ k 0=2+k%2:=by simp[rZ]
theorem Kx(k:Nat)(hk:k<40)(w:Lo):Calls prog 57 #[.int .i64 k] w λe w'=>e= .returned (.int .u64 (bt k:Nat))/\w=w':=by
 have hd:bt k=rZ k (11+k/2):=by unfold bt rZ;rw[au aa,au aa]
 have HD:=ae hd;have HZ:=ae (N5 k);clear hd;generalize bt k=D at*;have ala:((k:Int)==40)=false:=aH;go_enter func57,ntmps57;go_wp2_with fail;clear ala;go_loop [3,4] (λn i=> ∃j:Nat,j<=11+k/2/\i= .int .i64 j/\n= .int .u64 (rZ k j:Nat)) (λ_ i=>11+k/2-(intOf i).toNat);·exact⟨0,aa,rfl,by rw[HZ.out];congr 1⟩
 ·
  obtain⟨j,hj,rfl,rfl⟩:=hrel;by_cases aV:j<11+k/2
  ·have hle:=XS k j aa;have HS:=ae (N4 k j);have Ui:(j:Int)<(k:Int)/2+11:=aa;generalize rZ k j=n at*;go_wp2_with fail;go_round;case rel=>exact⟨j+1,aa,aA,by rw[HS.out];congr 1⟩
   case measure=>simp[intOf];omega
  ·have Ui: ¬(j:Int)<(k:Int)/2+11:=(by omega);obtain rfl:j=11+k/2:=aa;rw[<-HD.out];go_wp2;go_ret;exact⟨rfl,rfl⟩
theorem SE(w:Lo):Calls prog 57 #[.int .i64 40] w λe w'=>e= .returned (.int .u64 4294967295)/\w=w':=by go_enter func57,ntmps57;go_wp2;go_ret;exact⟨rfl,rfl⟩
theorem N6(a:Int)(h:a<0\/40<a)(w:Lo):Calls prog 57 #[.int .i64 a] w λe w'=>e= .returned (.int .u64 0)/\w=w':=by
 rcases h with h|h;·go_enter func57,ntmps57;go_wp2;go_ret;exact⟨rfl,rfl⟩
 ·have h': ¬a<0:=by omega
  go_enter func57,ntmps57;go_wp2;go_ret;exact⟨rfl,rfl⟩
theorem SF(a:Int)(w:Lo):Calls prog 57 #[.int .i64 a] w λe w'=>e= .returned (.int .u64 ((if a<0 then 0 else bt a.toNat:Nat):Int))/\w=w':=by
 by_cases h:a<0\/40<a
 ·refine(N6 a h w).mono ?_;rintro e w' ⟨rfl,rfl⟩;refine⟨?_,rfl⟩;rcases h with h|h;·rw[ax h];rfl
  ·rw[au aa];unfold bt;rw[ax aa];rfl
 ·obtain⟨k,rfl⟩: ∃k:Nat,a=(k:Int):=⟨a.toNat,aa⟩
  rw[au aa,Int.toNat_natCast];by_cases h4:k=40;·subst h4;exact SE w
  ·exact Kx k aa w
theorem yi(k:Nat)(w:Lo):Calls prog 57 #[.int .i64 k] w λe w'=>e= .returned (.int .u64 (bt k:Nat))/\w=w':=by have:=SF (k:Int) w;rwa [au aa,Int.toNat_natCast]at this
theorem wH(d:Nat)(hd:d<4294967296)(w:Lo):Calls prog 38 #[.int .u32 d] w λe w'=>e= .returned (.int .i64 (dx d:Nat))/\w=w':=by
 have HE:=ae (rX d);generalize dx d=C at*;go_enter func38,ntmps38;go_wp2_with fail;go_loop [3] (λi=> ∃k:Nat,k<=40/\i= .int .i64 k/\Low d k) (λi=>40-(intOf i).toNat);·exact⟨0,aa,rfl,λj hj=>aa⟩
 ·
  obtain⟨k,hk,rfl,Ue⟩:=hrel;have HD:=ae (kJ k hk w);have hl:=rW k;have HT:=ae Fa;by_cases aV:bt k<d
  ·have ala:k<40:=by
    rcases dN k 40 with h|h;·exact h
    ·obtain rfl:k=40:=(by omega);rw[HT.out]at aV;omega
   have alb:Low d (k+1):=by
    intro j hj;by_cases e:j=k;·subst e;exact aV
    ·exact Ue j aa
   generalize bt k=D at*;go_wp2_with fail;refine HD.mono ?_;rintro e w' ⟨rfl,rfl⟩;go_wp2_with fail;go_round;case rel=>exact⟨k+1,aa,aA,alb⟩
   case measure=>simp[intOf];omega
  ·have hc:=HE.out k hk aa Ue;subst hc;generalize bt C=D at*;go_wp2_with fail;refine HD.mono ?_;rintro e w' ⟨rfl,rfl⟩;go_wp2;go_ret;exact⟨rfl,rfl⟩
def afm(d m b:Nat):Prop:=d<=bt b/\ ∀j,m<=j->j<b->bt j<d
theorem N7(d:Nat)(hd:d<4294967296)(w:Lo):Calls prog 58 #[.int .u32 d] w λe w'=>e= .returned (.int .i64 (dx d:Nat))/\w=w':=by
 have HE:=ae (rX d);have HT:=ae Fa;generalize dx d=C at*;go_enter func58,ntmps58;go_wp2_with fail;go_loop [3,4] (λb i=> ∃k m:Nat,k<=40/\m<=41/\b= .int .i64 k/\i= .int .i64 ((m:Int)-1)/\afm d m k) (λ_ i=>(intOf i+1).toNat);·exact⟨40,41,aa,aa,rfl,rfl,by rw[HT.out];omega,λj h1 h2=>aa⟩
 ·
  obtain⟨k,m,hk,hm,rfl,rfl,yG⟩:=hrel;rcases m with _|m;·have hc:=HE.out k hk yG.1 (λj hj=>yG.2 j aa hj);subst hc;have e1:((0:Nat):Int)-1= -1:=rfl;rw[e1];clear yG;go_wp2;go_ret;exact⟨rfl,rfl⟩
  ·have e1:((m+1:Nat):Int)-1=(m:Int):=(by omega);rw[e1];have HD:=ae (yi m w);have hl:=rW m;have HB:=ae yG;clear yG;by_cases Dk:d<=bt m
   ·have N8:afm d m m:=⟨Dk,λj h1 h2=>aa⟩
    have ar6:decide ((d:Int)<=(bt m:Int))=true:=aH;generalize bt m=D at*;clear e1;go_wp2_with fail;refine HD.mono ?_;rintro e w' ⟨rfl,rfl⟩;go_wp2_with fail;go_round;case rel=>exact⟨m,m,aa,aa,rfl,rfl,N8⟩
    case measure=>simp[intOf]
   ·have N8:afm d m k:=⟨HB.1,λj h1 h2=>by
     by_cases e:j=m;·subst e;omega
     ·exact HB.2 j aa h2⟩
    have ar6:decide ((d:Int)<=(bt m:Int))=false:=aH;generalize bt m=D at*;clear e1;go_wp2_with fail;refine HD.mono ?_;rintro e w' ⟨rfl,rfl⟩;go_wp2_with fail;go_round;case rel=>exact⟨k,m,aa,aa,rfl,rfl,N8⟩
    case measure=>simp[intOf]
def ir(f:eF):Option (An):=
 if f.id=33 then(if bt (dx f.n)=f.n then some [UInt8.ofNat (dx f.n)]else none)
 else if eI f=true then(if f.id=3 then some [UInt8.ofNat (f.n-1)]else if f.n=0 then some []else some (bytesOf true f.n))else none
def nX(w:Lo)(l:An)(tag:Value)(e:Ending)(w':Lo):Prop:= ∃v,e= .returned (.tuple #[v,tag])/\Own w.heap.size w' v l/\Below w.heap.size w w'
def Qe(w:Lo)(tag:Value)(e:Ending)(w':Lo):Prop:=e= .returned (.tuple #[.slice none 0 0,tag])/\Below w.heap.size w w'
def afn(w:Lo)(yes no:Value)(r:Option (An)):Ending->World->Prop:=
 match r with
 | some l=>nX w l yes
 | none=>Qe w no
theorem eW(w:Lo)(a b:Value)(T:TypeId):(w.alloc (.cells #[a,b] T)).drew.cell? ⟨w.heap.size,0,none⟩=some a/\(w.alloc (.cells #[a,b] T)).drew.cell? ⟨w.heap.size,1,none⟩=some b:=by
 constructor;·show(w.alloc (.cells #[a,b] T)).cell? ⟨w.heap.size,0,none⟩=some a;rw[aC _ _ _ _ _ _ (bz _ _)];rfl
 ·show(w.alloc (.cells #[a,b] T)).cell? ⟨w.heap.size,1,none⟩=some b;rw[aC _ _ _ _ _ _ (bz _ _)];rfl
theorem aaL(w:Lo)(k base:Nat)(hk:k<256)(hb:base<=w.heap.size):Own base (w.alloc (.cells #[.int .u8 k] 5)) (.slice (some ⟨w.heap.size,0,none⟩) 1 1) [UInt8.ofNat k]:=by have h:=Own.lit w [UInt8.ofNat k] hb ah;have e:((UInt8.ofNat k).toNat:Nat)=k:=aH;simp only[List.map,B8,e]at h;exact h
theorem acA(n:Nat):eI ⟨33,n⟩=false:=by simp[eI,GL]
theorem SG(n:Nat)(hn:n<4294967296)(h:bt (dx n)=n)(w:Lo):
  Calls prog 75 #[.agg #[.int .i64 33,.int .u32 n]] w (nX w [UInt8.ofNat (dx n)] (.int .i64 0)):=by
 have hb:=ec w;have Qf:=ae (wH n hn);have hle:=rY n;have Rt:=ae (kJ (dx n) hle);rw[h]at Rt;generalize dx n=C at*;clear h;go_enter func75,ntmps75;go_wp2_with fail;refine wp_region_held_drew (S:=λw'=>w'.cell? ⟨w.heap.size,0,none⟩=some (.int .i64 33)/\w'.cell? ⟨w.heap.size,1,none⟩=some (.int .u32 n)) ak (eW w _ _ _) (λhS=> ?_);refine ag 0 hS (h:=bN 1 hS (h:=ag 2 hS (h:=ag 3 hS (h:=ag 4 hS (h:=bN 5 hS (h:=ag 8 hS (h:=bN 9 hS (h:= ?_))))))));refine aO 6 (λK hK=> ?_);go_simp;refine(Qf _).mono ?_;rintro e w' ⟨rfl,rfl⟩;go_wp2_with fail;refine hK _ _ hS (λ_=> ?_);clear hK K;refine aO 7 (λK hK=> ?_);go_simp;refine(Rt _).mono ?_;rintro e w' ⟨rfl,rfl⟩;go_wp2_with fail;refine hK _ _ hS (λ_=> ?_);clear hK K;refine ag 10 hS (h:=ag 11 hS (h:=ag 12 hS (h:= ?_)));refine wpAnyH_done ak ?_ _;go_wp2_with fail;refine(Qf _).mono ?_;rintro e w' ⟨rfl,rfl⟩;go_wp2;go_ret2;have g:=hb (.cells #[.int .i64 33,.int .u32 n] 109);have e:(w.alloc (.cells #[.int .i64 33,.int .u32 n] 109)).heap.size=w.heap.size+1:=ah;have h:=aaL (w.alloc (.cells #[.int .i64 33,.int .u32 n] 109)) C w.heap.size aa g.size;rw[e]at h;exact⟨_,rfl,h.drew,(g.alloc g.size _).drew⟩
theorem Ky(n:Nat)(hn:n<4294967296)(h:bt (dx n)≠n)(w:Lo):
  Calls prog 75 #[.agg #[.int .i64 33,.int .u32 n]] w (Qe w (.int .i64 1)):=by
 have hb:=ec w;have Qf:=ae (wH n hn);have hle:=rY n;have Rt:=ae (kJ (dx n) hle);have HF:=ae (oC ⟨33,n⟩ ⟨ah,ah,hn⟩);rw[acA]at HF;simp only[eF.agg]at HF;generalize dx n=C at*;have Kg:=rW C;have fj:((bt C:Int)==(n:Int))=false:=aH;generalize bt C=D at*;clear h;go_enter func75,ntmps75;go_wp2_with fail;refine wp_region_held_drew (S:=λw'=>w'.cell? ⟨w.heap.size,0,none⟩=some (.int .i64 33)/\w'.cell? ⟨w.heap.size,1,none⟩=some (.int .u32 n)) ak (eW w _ _ _) (λhS=> ?_);refine ag 0 hS (h:=bN 1 hS (h:=ag 2 hS (h:=ag 3 hS (h:=ag 4 hS (h:=bN 5 hS (h:=ag 8 hS (h:=bN 9 hS (h:= ?_))))))));refine aO 6 (λK hK=> ?_);go_simp;refine(Qf _).mono ?_;rintro e w' ⟨rfl,rfl⟩;go_wp2_with fail;refine hK _ _ hS (λ_=> ?_);clear hK K;refine aO 7 (λK hK=> ?_);go_simp;refine(Rt _).mono ?_;rintro e w' ⟨rfl,rfl⟩;go_wp2_with fail;refine hK _ _ hS (λ_=> ?_);clear hK K;refine ag 10 hS (h:=ag 11 hS (h:=ag 12 hS (h:= ?_)));refine wpAnyH_done ak ?_ _;go_wp2_with fail;refine(HF _).mono ?_;rintro e w' ⟨rfl,aK⟩;go_wp2;go_ret2;exact⟨rfl,(hb _).drew.trans (aK.mono ah)⟩
theorem SH(id:Int)(n:Nat)(bK:(⟨id,n⟩:eF).ok)(tc:id≠33)(hf:eI ⟨id,n⟩=false)(w:Lo):
  Calls prog 75 #[.agg #[.int .i64 id,.int .u32 n]] w (Qe w (.int .i64 1)):=by
 have hb:=ec w;have HF:=ae (oC ⟨id,n⟩ bK);rw[hf]at HF;simp only[eF.agg]at HF;obtain⟨o1,o2,o3⟩:=bK;simp only at o1 o2 o3;have hd:(id==33)=false:=by simp[tc]
 clear tc hf;go_enter func75,ntmps75;go_wp2_with fail;refine wp_region_held_drew (S:=λw'=>w'.cell? ⟨w.heap.size,0,none⟩=some (.int .i64 id)/\w'.cell? ⟨w.heap.size,1,none⟩=some (.int .u32 n)) ak (eW w _ _ _) (λhS=> ?_);refine ag 0 hS (h:=bN 1 hS (h:=ag 2 hS (h:=ag 3 hS (h:=dD 4 hS (h:=dD 5 hS (h:=dD 6 hS (h:=dD 7 hS (h:=dD 8 hS (h:=dD 9 hS (h:=dD 10 hS (h:=ag 11 hS (h:= ?_))))))))))));refine ag 12 hS (h:= ?_);refine wpAnyH_done ak ?_ _;go_wp2_with fail;refine(HF _).mono ?_;rintro e w' ⟨rfl,aK⟩;go_wp2;go_ret2;exact⟨rfl,(hb _).drew.trans (aK.mono ah)⟩
theorem XT(n:Nat)(h1:1<=n)(h2:n<=256)(w:Lo):
  Calls prog 75 #[.agg #[.int .i64 3,.int .u32 n]] w (nX w [UInt8.ofNat (n-1)] (.int .i64 0)):=by
 have hb:=ec w;have HF:=ae (oC ⟨3,n⟩ ⟨ah,ah,aH⟩);have bY:eI ⟨3,n⟩=true:=by unfold eI;simp;omega
 rw[bY]at HF;simp only[eF.agg]at HF;clear bY;go_enter func75,ntmps75;go_wp2_with fail;refine wp_region_held_drew (S:=λw'=>w'.cell? ⟨w.heap.size,0,none⟩=some (.int .i64 3)/\w'.cell? ⟨w.heap.size,1,none⟩=some (.int .u32 n)) ak (eW w _ _ _) (λhS=> ?_);refine ag 0 hS (h:=bN 1 hS (h:=ag 2 hS (h:=ag 3 hS (h:=dD 4 hS (h:=dD 5 hS (h:=dD 6 hS (h:=dD 7 hS (h:=dD 8 hS (h:=dD 9 hS (h:=dD 10 hS (h:=ag 11 hS (h:= ?_))))))))))));refine ag 12 hS (h:= ?_);refine wpAnyH_done ak ?_ _;go_wp2_with fail;refine(HF _).mono ?_;rintro e w1 ⟨rfl,aK⟩;have k0:=(aK.cell (p:=⟨w.heap.size,0,none⟩) ah).trans hS.1;have k1:=(aK.cell (p:=⟨w.heap.size,1,none⟩) ah).trans hS.2;have g2:=(hb (.cells #[.int .i64 3,.int .u32 n] 109)).drew.trans (aK.mono ah);clear aK;have e:(n:Int)-1=((n-1:Nat):Int):=aa;have ar7:n-1<256:=aa;generalize n-1=m at*;go_wp2;go_ret2;exact⟨_,rfl,aaL _ _ _ aa g2.size,g2.alloc g2.size _⟩
theorem XU(id:Int)(bK:(⟨id,0⟩:eF).ok)(tc:id≠33)(h3:id≠3)(hf:eI ⟨id,0⟩=true)(w:Lo):
  Calls prog 75 #[.agg #[.int .i64 id,.int .u32 0]] w (nX w [] (.int .i64 0)):=by
 have hb:=ec w;have HF:=ae (oC ⟨id,0⟩ bK);rw[hf]at HF;simp only[eF.agg]at HF;obtain⟨o1,o2,o3⟩:=bK;simp only at o1 o2 o3;have hd:(id==33)=false:=by simp[tc]
 have Lt:(id==3)=false:=by simp[h3]
 clear tc hf h3;go_enter func75,ntmps75;go_wp2_with fail;refine wp_region_held_drew (S:=λw'=>w'.cell? ⟨w.heap.size,0,none⟩=some (.int .i64 id)/\w'.cell? ⟨w.heap.size,1,none⟩=some (.int .u32 0)) ak (eW w _ _ _) (λhS=> ?_);refine ag 0 hS (h:=bN 1 hS (h:=ag 2 hS (h:=ag 3 hS (h:=dD 4 hS (h:=dD 5 hS (h:=dD 6 hS (h:=dD 7 hS (h:=dD 8 hS (h:=dD 9 hS (h:=dD 10 hS (h:=ag 11 hS (h:= ?_))))))))))));refine ag 12 hS (h:= ?_);refine wpAnyH_done ak ?_ _;go_wp2_with fail;refine(HF _).mono ?_;rintro e w1 ⟨rfl,aK⟩;have k0:=(aK.cell (p:=⟨w.heap.size,0,none⟩) ah).trans hS.1;have k1:=(aK.cell (p:=⟨w.heap.size,1,none⟩) ah).trans hS.2;have g2:=(hb (.cells #[.int .i64 id,.int .u32 0] 109)).drew.trans (aK.mono ah);clear aK;go_wp2;go_ret2;exact⟨_,rfl,Own.nil _ _,g2⟩
theorem XV(id:Int)(n:Nat)(bK:(⟨id,n⟩:eF).ok)(tc:id≠33)(h3:id≠3)(hf:eI ⟨id,n⟩=true)(h0:n≠0)(w:Lo):
  Calls prog 75 #[.agg #[.int .i64 id,.int .u32 n]] w (nX w (bytesOf true n) (.int .i64 0)):=by
 have hb:=ec w;have HF:=ae (oC ⟨id,n⟩ bK);rw[hf]at HF;simp only[eF.agg]at HF;obtain⟨o1,o2,o3⟩:=bK;simp only at o1 o2 o3;have hd:(id==33)=false:=by simp[tc]
 have Lt:(id==3)=false:=by simp[h3]
 have b_:((n:Int)==0)=false:=by simp[h0]
 clear tc hf h3;have e0:(n:Int)%256=((UInt8.ofNat (n%256)).toNat:Int):=by rw[li n];omega
 have e1:(n:Int)/256%256=((UInt8.ofNat (n/256%256)).toNat:Int):=by rw[li (n/256)];omega
 have e2:(n:Int)/65536%256=((UInt8.ofNat (n/65536%256)).toNat:Int):=by rw[li (n/65536)];omega
 have e3:(n:Int)/16777216%256=((UInt8.ofNat (n/16777216%256)).toNat:Int):=zR;have e3':(n:Int)/16777216=((UInt8.ofNat (n/16777216%256)).toNat:Int):=zR;have ki:bytesOf true n=[UInt8.ofNat (n%256),UInt8.ofNat (n/256%256),UInt8.ofNat (n/65536%256),UInt8.ofNat (n/16777216%256)]:=rfl;rw[ki];generalize UInt8.ofNat (n%256)=y0 at*;generalize UInt8.ofNat (n/256%256)=y1 at*;generalize UInt8.ofNat (n/65536%256)=y2 at*;generalize UInt8.ofNat (n/16777216%256)=y3 at*;clear ki;go_enter func75,ntmps75;go_wp2_with fail;refine wp_region_held_drew (S:=λw'=>w'.cell? ⟨w.heap.size,0,none⟩=some (.int .i64 id)/\w'.cell? ⟨w.heap.size,1,none⟩=some (.int .u32 n)) ak (eW w _ _ _) (λhS=> ?_);refine ag 0 hS (h:=bN 1 hS (h:=ag 2 hS (h:=ag 3 hS (h:=dD 4 hS (h:=dD 5 hS (h:=dD 6 hS (h:=dD 7 hS (h:=dD 8 hS (h:=dD 9 hS (h:=dD 10 hS (h:=ag 11 hS (h:= ?_))))))))))));refine ag 12 hS (h:= ?_);refine wpAnyH_done ak ?_ _;go_wp2_with fail;refine(HF _).mono ?_;rintro e w1 ⟨rfl,aK⟩;have k0:=(aK.cell (p:=⟨w.heap.size,0,none⟩) ah).trans hS.1;have k1:=(aK.cell (p:=⟨w.heap.size,1,none⟩) ah).trans hS.2;have g2:=(hb (.cells #[.int .i64 id,.int .u32 n] 109)).drew.trans (aK.mono ah);clear aK;go_wp2;go_ret2;exact⟨_,rfl,GK _ _ _ _ _ _ g2.size,g2.alloc g2.size _⟩
theorem N9(f:eF)(bK:f.ok)(w:Lo):Calls prog 75 #[f.agg] w (afn w (.int .i64 0) (.int .i64 1) (ir f)):=by
 obtain⟨id,n⟩:=f;have hn:=bK.2.2;simp only at hn;unfold ir;simp only;by_cases tc:id=33
 ·subst tc;rw[ax rfl];by_cases hd:bt (dx n)=n;·rw[ax hd];exact SG n hn hd w
  ·rw[au hd];exact Ky n hn hd w
 ·rw[au tc];by_cases hf:eI ⟨id,n⟩=true
  ·rw[ax hf];by_cases h3:id=3
   ·subst h3;rw[ax rfl];rcases CD _ hf with⟨_,g1,g2⟩|⟨e,_,_⟩
    ·exact XT n g1 g2 w
    ·exact absurd rfl e
   ·rw[au h3];by_cases h0:n=0;·subst h0;rw[ax rfl];exact XU id bK tc h3 hf w
    ·rw[au h0];exact XV id n bK tc h3 hf h0 w
  ·rw[au hf];exact SH id n bK tc (by simpa using hf) w



def GZ(n k:Nat):Prop:= ∀j,j<k->bt j≠n
theorem SI(n k:Nat)(hk:k<=40)(_hno:GZ n k)(h:bt k=n):ir ⟨33,n⟩=some [UInt8.ofNat k]:=by have e:dx n=k:=rX n k hk aa (λj hj=>by rw[<-h];exact uH j k hj hk);unfold ir;simp only[if_true];rw[e,ax h]
theorem Oa(n:Nat)(sE:GZ n 41):ir ⟨33,n⟩=none:=by unfold ir;simp only[if_true];rw[au (sE _ (av (rY n)))]
theorem SJ(n:Nat)(hn:n<4294967296)(w:Lo):
  Calls prog 130 #[.agg #[.int .i64 33,.int .u32 n]] w (afn w (.bool true) (.bool false) (ir ⟨33,n⟩)):=by
 have HH:=ae (SI n);have HM:=ae (Oa n);have fV:=ec w (.cells #[.int .i64 33,.int .u32 n] 109);have yx:=eW w (.int .i64 33) (.int .u32 n) 109;generalize ir ⟨33,n⟩=X at*;go_enter func130,ntmps130;go_wp2_with fail;go_loopw [4] (λi wr=> ∃k:Nat,k<=41/\i= .int .i64 k/\GZ n k/\wr.cell? ⟨w.heap.size,0,none⟩=some (.int .i64 33)/\wr.cell? ⟨w.heap.size,1,none⟩=some (.int .u32 n)/\aq w wr) (λi _=>41-(intOf i).toNat);·exact⟨0,aa,rfl,λj hj=>aa,yx.1,yx.2,fV⟩
 ·
  clear fV yx;obtain⟨k,hk,rfl,sE,k0,k1,hb⟩:=hrel;by_cases aV:k<41
  ·have HD:=ae (yi k);have hl:=rW k;by_cases hd:bt k=n;·have hX:=HH.out k aa sE hd;subst hX;rw[hd]at HD hl;have HNO:=ae sE;clear sE hd;go_wp2_with fail;refine wp_region_held_drew (S:=λw'=>w'.cell? ⟨w.heap.size,0,none⟩=some (.int .i64 33)/\w'.cell? ⟨w.heap.size,1,none⟩=some (.int .u32 n)) ak ⟨k0,k1⟩ (λhS=> ?_);refine ag 0 hS (h:=ag 2 hS (h:=bN 3 hS (h:=bx 4 rfl (λw hSw=>by have q2:IntKind.u64.wrap (n:Int)=n:=OS _ aa;go_simp;all_goals(with_reducible rfl)) hS (h:= ?_))));refine aO 1 (λK hK=> ?_);go_simp;refine(HD _).mono ?_;rintro e w' ⟨rfl,rfl⟩;go_wp2_with fail;refine hK _ _ hS (λ_=> ?_);clear hK K;refine ag 5 hS (h:= ?_);refine wpAnyH_done ak ?_ _;go_wp2;go_ret2;exact⟨_,rfl,(aaL wr k _ aa hb.size).drew,(hb.alloc hb.size _).drew⟩
   ·have fj:((bt k:Int)==(n:Int))=false:=(by simp;omega);have alc:GZ n (k+1):=by
     intro j hj;by_cases e:j=k;·subst e;exact hd
     ·exact sE j aa
    generalize bt k=D at*;have HNO:=ae alc;clear sE hd alc;go_wp2_with fail;refine wp_region_held_drew (S:=λw'=>w'.cell? ⟨w.heap.size,0,none⟩=some (.int .i64 33)/\w'.cell? ⟨w.heap.size,1,none⟩=some (.int .u32 n)) ak ⟨k0,k1⟩ (λhS=> ?_);refine ag 0 hS (h:=ag 2 hS (h:=bN 3 hS (h:=bx 4 rfl (λw hSw=>by have q2:IntKind.u64.wrap (n:Int)=n:=OS _ aa;go_simp;all_goals(with_reducible rfl)) hS (h:= ?_))));refine aO 1 (λK hK=> ?_);go_simp;refine(HD _).mono ?_;rintro e w' ⟨rfl,rfl⟩;go_wp2_with fail;refine hK _ _ hS (λ_=> ?_);clear hK K;refine ag 5 hS (h:= ?_);refine wpAnyH_done ak ?_ _;go_wp2_with fail;go_roundw;case rel=>exact⟨k+1,aa,aA,HNO.out,k0,k1,hb.drew⟩
    case measure=>simp[intOf];omega
  ·obtain rfl:k=41:=(by omega);have hX:=HM.out sE;subst hX;go_wp2;go_ret2;exact⟨rfl,hb⟩
theorem SK(id:Int)(n:Nat)(bK:(⟨id,n⟩:eF).ok)(tc:id≠33)(hf:eI ⟨id,n⟩=false)(w:Lo):
  Calls prog 130 #[.agg #[.int .i64 id,.int .u32 n]] w (Qe w (.bool false)):=by
 have hb:=ec w;have HF:=ae (rQ ⟨id,n⟩ bK);rw[hf]at HF;simp only[eF.agg]at HF;have hd:(id==33)=false:=by simp[tc]
 clear tc hf;go_enter func130,ntmps130;go_wp2_with fail;refine(HF _).mono ?_;rintro e w' ⟨rfl,aK⟩;go_wp2;go_ret2;exact⟨rfl,(hb _).trans (aK.mono ah)⟩
theorem XW(n:Nat)(h1:1<=n)(h2:n<=256)(w:Lo):
  Calls prog 130 #[.agg #[.int .i64 3,.int .u32 n]] w (nX w [UInt8.ofNat (n-1)] (.bool true)):=by
 have hb:=ec w;have HF:=ae (rQ ⟨3,n⟩ ⟨ah,ah,aH⟩);have bY:eI ⟨3,n⟩=true:=by unfold eI;simp;omega
 rw[bY]at HF;simp only[eF.agg]at HF;clear bY;go_enter func130,ntmps130;go_wp2_with fail;refine(HF _).mono ?_;rintro e w1 ⟨rfl,aK⟩;have k0:=(aK.cell (p:=⟨w.heap.size,0,none⟩) ah).trans (eW w (.int .i64 3) (.int .u32 n) 109).1;have k1:=(aK.cell (p:=⟨w.heap.size,1,none⟩) ah).trans (eW w (.int .i64 3) (.int .u32 n) 109).2;have g2:=(hb (.cells #[.int .i64 3,.int .u32 n] 109)).trans (aK.mono ah);clear aK;have e:(n:Int)-1=((n-1:Nat):Int):=aa;have ar7:n-1<256:=aa;generalize n-1=m at*;go_wp2;go_ret2;exact⟨_,rfl,aaL _ _ _ aa g2.size,g2.alloc g2.size _⟩
theorem XX(id:Int)(bK:(⟨id,0⟩:eF).ok)(tc:id≠33)(h3:id≠3)(hf:eI ⟨id,0⟩=true)(w:Lo):
  Calls prog 130 #[.agg #[.int .i64 id,.int .u32 0]] w (nX w [] (.bool true)):=by
 have hb:=ec w;have HF:=ae (rQ ⟨id,0⟩ bK);rw[hf]at HF;simp only[eF.agg]at HF;have hd:(id==33)=false:=by simp[tc]
 have Lt:(id==3)=false:=by simp[h3]
 clear tc hf h3;go_enter func130,ntmps130;go_wp2_with fail;refine(HF _).mono ?_;rintro e w1 ⟨rfl,aK⟩;have k0:=(aK.cell (p:=⟨w.heap.size,0,none⟩) ah).trans (eW w (.int .i64 id) (.int .u32 0) 109).1;have k1:=(aK.cell (p:=⟨w.heap.size,1,none⟩) ah).trans (eW w (.int .i64 id) (.int .u32 0) 109).2;have g2:=(hb (.cells #[.int .i64 id,.int .u32 0] 109)).trans (aK.mono ah);clear aK;go_wp2;go_ret2;exact⟨_,rfl,Own.nil _ _,g2⟩
theorem XY(id:Int)(n:Nat)(bK:(⟨id,n⟩:eF).ok)(tc:id≠33)(h3:id≠3)(hf:eI ⟨id,n⟩=true)(h0:n≠0)(w:Lo):
  Calls prog 130 #[.agg #[.int .i64 id,.int .u32 n]] w (nX w (bytesOf true n) (.bool true)):=by
 have hb:=ec w;have HF:=ae (rQ ⟨id,n⟩ bK);rw[hf]at HF;simp only[eF.agg]at HF;obtain⟨o1,o2,o3⟩:=bK;simp only at o1 o2 o3;have hd:(id==33)=false:=by simp[tc]
 have Lt:(id==3)=false:=by simp[h3]
 have b_:((n:Int)==0)=false:=by simp[h0]
 clear tc hf h3;have e0:(n:Int)%256=((UInt8.ofNat (n%256)).toNat:Int):=by rw[li n];omega
 have e1:(n:Int)/256%256=((UInt8.ofNat (n/256%256)).toNat:Int):=by rw[li (n/256)];omega
 have e2:(n:Int)/65536%256=((UInt8.ofNat (n/65536%256)).toNat:Int):=by rw[li (n/65536)];omega
 have e3:(n:Int)/16777216%256=((UInt8.ofNat (n/16777216%256)).toNat:Int):=zR;have e3':(n:Int)/16777216=((UInt8.ofNat (n/16777216%256)).toNat:Int):=zR;have ki:bytesOf true n=[UInt8.ofNat (n%256),UInt8.ofNat (n/256%256),UInt8.ofNat (n/65536%256),UInt8.ofNat (n/16777216%256)]:=rfl;rw[ki];generalize UInt8.ofNat (n%256)=y0 at*;generalize UInt8.ofNat (n/256%256)=y1 at*;generalize UInt8.ofNat (n/65536%256)=y2 at*;generalize UInt8.ofNat (n/16777216%256)=y3 at*;clear ki;go_enter func130,ntmps130;go_wp2_with fail;refine(HF _).mono ?_;rintro e w1 ⟨rfl,aK⟩;have k0:=(aK.cell (p:=⟨w.heap.size,0,none⟩) ah).trans (eW w (.int .i64 id) (.int .u32 n) 109).1;have k1:=(aK.cell (p:=⟨w.heap.size,1,none⟩) ah).trans (eW w (.int .i64 id) (.int .u32 n) 109).2;have g2:=(hb (.cells #[.int .i64 id,.int .u32 n] 109)).trans (aK.mono ah);clear aK;go_wp2;go_ret2;exact⟨_,rfl,GK _ _ _ _ _ _ g2.size,g2.alloc g2.size _⟩
theorem G0(f:eF)(bK:f.ok)(w:Lo):Calls prog 130 #[f.agg] w (afn w (.bool true) (.bool false) (ir f)):=by
 obtain⟨id,n⟩:=f;have hn:=bK.2.2;simp only at hn;by_cases tc:id=33;·subst tc;exact SJ n hn w
 ·unfold ir;simp only;rw[au tc];by_cases hf:eI ⟨id,n⟩=true
  ·rw[ax hf];by_cases h3:id=3
   ·subst h3;rw[ax rfl];rcases CD _ hf with⟨_,g1,g2⟩|⟨e,_,_⟩
    ·exact XW n g1 g2 w
    ·exact absurd rfl e
   ·rw[au h3];by_cases h0:n=0;·subst h0;rw[ax rfl];exact XX id bK tc h3 hf w
    ·rw[au h0];exact XY id n bK tc h3 hf h0 w
  ·rw[au hf];exact SK id n bK tc (by simpa using hf) w


def ff(l:List eF):List Value:=l.flatMap λf=>[Value.int .i64 f.id,Value.int .u32 (f.n:Nat)]
theorem qc(l:List eF):(ff l).length=l.length*2:=by
 induction l with
 | nil=>rfl
 | cons a l ih=>simp only[ff,List.flatMap_cons,aG,el,List.length_nil]at ih ⊢;omega
theorem zK(l m:List eF):ff (l++m)=ff l++ff m:=by simp[ff]
theorem wI(l:List eF): ∀i (h:i<l.length),(ff l)[i*2]? =some (.int .i64 l[i].id)/\(ff l)[i*2+1]? =some (.int .u32 (l[i].n:Nat)):=by
 induction l with
 | nil=>intro i h;simp at h
 | cons a l ih=>
  intro i h;cases i with
  | zero=>exact⟨rfl,rfl⟩
  | succ i=>
   have:=ih i qH;rw[show(i+1)*2=i*2+1+1 by omega];exact this
theorem G1(l:List eF): ∀u∈ff l,u.oneCell'=true:=by intro u hu;simp only[ff,List.mem_flatMap]at hu;obtain⟨f,_,hu⟩:=hu;simp at hu;rcases hu with rfl|rfl<;>rfl
def gm(base:Nat)(w:Lo)(v:Value)(l:List eF):Prop:=w.ownsRow base 109 2 v l.length (ff l)
theorem aaM:(prog.info? 109).map (λi=>(i.zero,i.size,i.bytes))=some (some (.agg #[.int .i64 0,.int .u32 0]),2,16):=ak
theorem gm.nil(base:Nat)(w:Lo):gm base w (.slice none 0 0) []:=World.ownsRow_nil w base _ 2
theorem gm.aU{l:List eF}(h:gm base w v l)(hb: ∀g,v.ownBlock=some g->w'.heap[g]? =w.heap[g]?):gm base w' v l:=by
 rcases h with⟨h1,h2|⟨g,cap,cur,h2,h3,h4,h5⟩⟩
 ·exact⟨h1,.inl h2⟩
 ·exact⟨h1,.inr ⟨g,cap,cur,h2,h3,(hb g (by rw[h2];rfl)).trans h4,h5⟩⟩
theorem gm.lt{base:Nat}{w:Lo}{v:Value}{l:List eF}(h:gm base w v l)(g:Nat)(hg:v.ownBlock=some g):base<=g/\g<w.heap.size:=jO h g hg
theorem gm.below{l:List eF}(h:gm base w v l)(hb:Below w.heap.size w w'):gm base w' v l:=h.aU λg hg=>hb.block g (h.lt g hg).2
theorem gm.alloc{base:Nat}{w:Lo}{v:Value}{l:List eF}(h:gm base w v l)(o:Obj):gm base (w.alloc o) v l:=h.below (az)
theorem gm.weaken{l:List eF}(h:gm base w v l)(hb:gz<=base):gm gz w v l:=by
 rcases h with⟨h1,h2|⟨g,cap,cur,h2,h3,h4⟩⟩
 ·exact⟨h1,.inl h2⟩
 ·exact⟨h1,.inr ⟨g,cap,cur,h2,a8 hb h3,h4⟩⟩
theorem gm.read{l:List eF}(h:gm base w v l)(bK: ∀f∈l,f.ok): ∃A c,v= .slice A l.length c/\l.length<=c/\c<=9223372036854775807/\je w A l:=by
 rcases h with⟨h1,⟨h2,h3⟩|⟨g,cap,cur,h2,h3,h4,h5,h6,h7⟩⟩
 ·have e:l=[]:=mm h3;subst e;exact⟨none,0,h2,ah,aa,.inl rfl⟩
 ·refine⟨_,cap,h2,h5,AM,.inr ⟨g,0,rfl,?_,λk hk=> ?_⟩⟩
  ·rcases dN g w.heap.size with h|h;·exact h
   ·rw[lI h]at h4;cases h4
  ·have e1: ∀j,j<l.length*2->cur[j]? =(ff l)[j]? :=λj hj=>(by have h9:=aR (λx:List Value=>x[j]?) h7.2;simpa only[Ii,hj,if_true,Array.getElem?_toList]using h9);have hg:=wI l k hk;rw[Nat.zero_add];exact⟨by rw[aC w g _ cur _ _ h4];exact(e1 (k*2) aa).trans hg.1,by rw[aC w g _ cur _ _ h4];exact(e1 (k*2+1) aa).trans hg.2,bK _ (lF hk)⟩
theorem gm.oK{l:List eF}(h:gm base w (.slice A n c) l)(bK: ∀f∈l,f.ok):je w A l:=by obtain⟨A',c',e,_,_,hf⟩:=h.read bK;injection e with e1 e2 e3;rw[e1];exact hf
theorem gm.ne{l:List eF}(h:gm base w v l)(ho:Own gz w u m)(g:Nat)(hg:v.ownBlock=some g):u.ownBlock≠some g:=by
 intro e;rcases h with⟨_,⟨rfl,_⟩|⟨g1,cap,cur,rfl,_,h4,_⟩⟩
 ·cases hg
 ·injection hg with hg;subst hg;rcases ho with⟨_,⟨rfl,_⟩|⟨g2,nQ,aAE,rfl,_,k4,_⟩⟩
  ·cases e
  ·injection e with e;subst e;rw[show w.heap[g2]? =_ from k4]at h4;injection h4 with h4;injection h4 with _ ht;exact absurd ht ar
theorem gm.Ob{l:List eF}(h:gm base w v l)(hx:j8 bo w u)(g:Nat)(hg:v.ownBlock=some g):g≠bo:=by
 intro e;subst e;rcases h with⟨_,⟨rfl,_⟩|⟨g1,cap,cur,rfl,_,h4,_⟩⟩
 ·cases hg
 ·injection hg with hg;subst hg;rw[show w.heap[g1]? =_ from hx]at h4;injection h4 with h4;injection h4 with _ ht;exact absurd ht ar
theorem qd(base:Nat)(ty:TypeId)(w:Lo)(v:Value)(xs:List eF)(aL:gm base w v xs)(A:As)(l:List eF)(c:Nat)(hF:je w A l)
  (dF:xs.length+l.length<=1000000) (aX:base<=w.heap.size):
  ∃v' w',(Builtin.append_ #[23,23] ty #[v,.slice A l.length c]).run prog w= .ok v' w'/\gm base w' v' (xs++l)/\w.grownBy w' v.ownBlock:=by
 obtain⟨i,hi,hz⟩:=Option.map_eq_some_iff.1 aaM;injection hz with qw hz;injection hz with kC me;cases A with
 | none=>
  have hl:l=[]:=by
   rcases hF with h|⟨_,_,h,_⟩
   ·exact h
   ·cases h
  subst hl;refine⟨v,w,?_,by simpa using aL,World.grownBy.refl w _⟩;rcases aL.2 with⟨rfl,h0⟩|⟨g,cap,cur,rfl,_,_,O8,_⟩
  ·simp[Builtin.append_,run_underlying underlying23,sizeOf,typeInfo,hi,Builtin.lenOf,Builtin.firstCells]
  ·simp[Builtin.append_,run_underlying underlying23,sizeOf,typeInfo,hi,Builtin.lenOf,Builtin.firstCells,O8,storeCells]
 | some ad=>
  have yo: ∀j u,(ff l)[j]? =some u->w.cell? (ad.add j)=some u:=by
   intro j u hu;by_cases hj:j<l.length*2
   ·obtain⟨b,off,e,_,cZ⟩:=hF.addr aa;injection e with e;subst e;rw[show(⟨b,off,none⟩:Addr).add j=⟨b,off+j,none⟩from oa];have h2:=cZ (j/2) aa;have hg:=wI l (j/2) aa;rcases Nat.mod_two_eq_zero_or_one j with hm|hm;·have e2:j/2*2=j:=(by omega);rw[e2]at hg;rw[hg.1]at hu;have:=h2.c0;rw[e2]at this;rw[this];exact hu
    ·have e2:j/2*2+1=j:=(by omega);rw[e2]at hg;rw[hg.2]at hu;have:=h2.c1;rw[show off+j/2*2+1=off+j by omega]at this;rw[this];exact hu
   ·rw[qE (by rw[qc];omega)]at hu;simp at hu
  obtain⟨v',w',hr,h2,h3,_⟩:=run_append_own (P:=prog) w base 23 ty 109 i (.agg #[.int .i64 0,.int .u32 0]) 2 16 underlying23 hi qw kC me rfl ar
   v xs.length (ff xs) aL ad l.length c (ff l) (qc l) yo (G1 l) iJ aa aX
  exact⟨v',w',hr,by unfold gm;rw[zK,aG];exact h2,h3⟩
theorem iF(oV:o.guard=none)(s x:Operand)
  (ho:o.op= .call {callee:= .builtin .append,args:= #[s,x],argTypes:= #[23,23]})
  (base:Nat) (w:Lo) (v:Value) (xs:List eF) (hs:a.eval s=v) (aL:gm base w v xs) (A:As) (l:List eF) (c:Nat) (hx:a.eval x= .slice A l.length c) (hF:je w A l)
  (dF:xs.length+l.length<=1000000) (aX:base<=w.heap.size)
  (h: ∀v' w',gm base w' v' (xs++l)->w.grownBy w' v.ownBlock->K (a.put o.dst v') w'):if Region.wanted o (yielded ops a.tmps)=true then Oper.wp prog o a w K Q else K (a.put o.dst undef) w:=by
 rw[ax nH];obtain⟨v',w',hr,h2,h3⟩:=qd base o.type w v xs aL A l c hF dF aX;unfold Oper.wp execOp;simp only[ho,resolve,invoke,builtin,Sem.run_bind,Sem.run_pure,Result.andThen_ok,List.map_toArray,gy,List.map_nil,hs,hx,hr];exact h v' w' h2 h3
theorem uI{rest:List Oper}(oV:o.guard=none)(s x:Operand)
  (ho:o.op= .call {callee:= .builtin .append,args:= #[s,x],argTypes:= #[23,23]})
  (base:Nat) (w:Lo) (v:Value) (xs:List eF) (hs:a.eval s=v) (aL:gm base w v xs) (A:As) (l:List eF) (c:Nat) (hx:a.eval x= .slice A l.length c) (hF:je w A l)
  (dF:xs.length+l.length<=1000000) (aX:base<=w.heap.size)
  (h: ∀v' w',gm base w' v' (xs++l)->w.grownBy w' v.ownBlock->wpList prog ops Q rest (a.put o.dst v') w'):wpList prog ops Q (o::rest) a w:=by
 refine wpList_plain oV λK hK=> ?_;obtain⟨v',w',hr,h2,h3⟩:=qd base o.type w v xs aL A l c hF dF aX;unfold Oper.wp execOp;simp only[ho,resolve,invoke,builtin,Sem.run_bind,Sem.run_pure,Result.andThen_ok,List.map_toArray,gy,List.map_nil,hs,hx,hr];exact hK _ _ (h v' w' h2 h3)
theorem CQ(w:Lo)(f:eF)(bK:f.ok):je (w.alloc (.cells #[.int .i64 f.id,.int .u32 f.n] 109)) (some ⟨w.heap.size,0,none⟩) [f]:=by refine .inr ⟨w.heap.size,0,rfl,ah,λi hi=> ?_⟩;obtain rfl:i=0:=jP;exact⟨ah,ah,bK⟩
theorem Own.store(h:Own base w (.slice (some ⟨g,0,none⟩) n c) l)(i:Nat)(_hi:i<l.length)(x:UInt8):Own base (w.setCell ⟨g,i,none⟩ (.int .u8 x.toNat)) (.slice (some ⟨g,0,none⟩) n c) (l.set i x):=by
 rcases h with⟨h1,⟨h2,_⟩|⟨g1,cap,cur,h2,h3,h4,h5,h6,h7,h8⟩⟩
 ·cases h2
 ·injection h2 with e1 e2 e3;injection e1 with e1;injection e1 with e1;subst e1;subst e3;obtain⟨L,hL⟩: ∃L:List Value,L.toArray=cur:=⟨cur.toList,Array.toArray_toList⟩
  subst hL;refine⟨ah,.inr ⟨g,c,(L.set i (.int .u8 x.toNat)).toArray,by rw[e2];simp,h3,heap_set h4 i _,by simpa using h5,h6,by simpa using h7,?_⟩⟩;simp only[Nat.mul_one,List.length_set]at h8 ⊢;rw[List.map_set,<-h8,List.take_set]
def uJ(p q:Int):Bool:=(decide (p= -1)||decide (1<=p))&&(decide (q= -1)||decide (0<=q))
def wJ(d:Nat):Bool:=decide (bt (dx d)=d)
structure jf where
 p:Int
 q:Int
 l:List eF
 d:Nat
def jf.ok(h:jf):Prop:= -9223372036854775808<=h.p/\h.p<=9223372036854775807/\ -9223372036854775808<=h.q/\h.q<=9223372036854775807/\h.d<4294967296
def kL(h:jf):Bool:=uJ h.p h.q&&mI h.l&&wJ h.d
abbrev Qg(h:jf)(A:As)(c:Nat):Value:= .agg #[.int .i64 h.p,.int .i64 h.q,.slice A h.l.length c,.int .u32 h.d]
abbrev kV(h:jf)(A:As)(c:Nat):Obj:= .cells #[.int .i64 h.p,.int .i64 h.q,.slice A h.l.length c,.int .u32 h.d] 75
theorem tS(w:Lo)(h:jf)(A:As)(c:Nat):(w.alloc (kV h A c)).cell? ⟨w.heap.size,0,none⟩=some (.int .i64 h.p)/\(w.alloc (kV h A c)).cell? ⟨w.heap.size,1,none⟩=some (.int .i64 h.q)/\
  (w.alloc (kV h A c)).cell? ⟨w.heap.size,2,none⟩=some (.slice A h.l.length c)/\(w.alloc (kV h A c)).cell? ⟨w.heap.size,3,none⟩=some (.int .u32 h.d):=by
 refine⟨ah,ah,ah,ah⟩
theorem Oc(h:jf)(bK:h.ok)(A:As)(c:Nat)(w:Lo)(hF0:je w A h.l)(hl:h.l.length<=20):
  Calls prog 73 #[Qg h A c] w λe w'=>e= .returned (.bool (kL h))/\Below w.heap.size w w':=by
 have HV:=ae (show kL h=(uJ h.p h.q&&mI h.l&&wJ h.d)from rfl);have PV:aq w (w.alloc (kV h A c)):=az;have hcs:=tS w h A c;have hF:=hF0.below PV;have HM:=ae (λw' (hf:je w' A h.l)=>wt A h.l c w' hf hl);obtain⟨p,q,l,d⟩:=h;obtain⟨o1,o2,o3,o4,o5⟩: -9223372036854775808<=p/\p<=9223372036854775807/\ -9223372036854775808<=q/\q<=9223372036854775807/\d<4294967296:=bK;have Qf:=ae (λw'=>wH d o5 w');have Rt:=ae (λw'=>kJ (dx d) (rY d) w');have Dp:=rW (dx d);have HDB:=ae (show wJ d=decide (bt (dx d)=d)from rfl);simp only[kV]at hcs PV hF;simp only at HV HM;generalize kL ⟨p,q,l,d⟩=R at*;generalize hBX:Obj.cells #[Value.int .i64 p,.int .i64 q,.slice A l.length c,.int .u32 d] 75=BX at*;have LP:=ae (show uJ p q=((decide (p= -1)||decide (1<=p))&&(decide (q= -1)||decide (0<=q)))from rfl);have EY:=ae PV;clear PV;generalize uJ p q=sz at*;have dF:w.heap.size<(w.alloc BX).heap.size:=ah;have Vv:=ae (fun(w':Lo) (hb:Below (w.alloc BX).heap.size (w.alloc BX) w')=>(hb.cell (p:=⟨w.heap.size,2,none⟩) dF).trans hcs.2.2.1);have Jc:=ae (fun(w':Lo) (hb:Below (w.alloc BX).heap.size (w.alloc BX) w')=>(hb.cell (p:=⟨w.heap.size,3,none⟩) dF).trans hcs.2.2.2);obtain⟨k0,k1,_,_⟩:=hcs;subst hBX;go_enter func73,ntmps73;go_upto_region 1 with fail;go_cut [3]from 4 (λs3 wx=>s3= .bool (decide (p= -1)||decide (1<=p))/\wx=w.alloc (.cells #[.int .i64 p,.int .i64 q,.slice A l.length c,.int .u32 d] 75));case first=>
  by_cases hp:p= -1;·subst hp;go_wp2_with fail;go_meet;exact⟨rfl,rfl⟩
  ·by_cases Ld:1<=p;·have e:(decide (p= -1)||decide (1<=p))=true:=(by simp[Ld]);have SN:=ae e;clear e;go_wp2_with fail;go_meet;exact⟨by rw[SN.out],rfl⟩
   ·have e:(decide (p= -1)||decide (1<=p))=false:=(by simp[hp,Ld]);have SN:=ae e;clear e;go_wp2_with fail;go_meet;exact⟨by rw[SN.out,show(p== -1)=false by simp[hp]],rfl⟩
 case rest=>
 obtain⟨rfl,rfl⟩:=hcut;generalize(decide (p= -1)||decide (1<=p))=b1 at*;go_upto_region 2 with fail;go_cut [3]from 4 (λs3 wx=>s3= .bool sz/\wx=w.alloc (.cells #[.int .i64 p,.int .i64 q,.slice A l.length c,.int .u32 d] 75));case first=>
  cases b1 with
  | false=>
   have e:sz=false:=(by rw[LP.out,Bool.false_and]);have SN:=ae e;clear e;go_wp2_with fail;go_meet;exact⟨by rw[SN.out],rfl⟩
  | true=>
   have HE:Hid (sz=(decide (q= -1)||decide (0<=q))):=ae (by rw[LP.out,Bool.true_and]);by_cases hq:q= -1;·subst hq;have e:sz=true:=(by rw[HE.out];rfl);have SN:=ae e;clear e;go_wp2_with fail;go_meet;exact⟨by rw[SN.out],rfl⟩
   ·by_cases Bi:0<=q;·have e:sz=true:=(by rw[HE.out];simp[Bi]);have SN:=ae e;clear e;go_wp2_with fail;go_meet;exact⟨by rw[SN.out],rfl⟩
    ·have e:sz=false:=(by rw[HE.out];simp[hq,Bi]);have SN:=ae e;clear e;go_wp2_with fail;go_meet;exact⟨by rw[SN.out,show(q== -1)=false by simp[hq]],rfl⟩
 case rest=>
 obtain⟨rfl,rfl⟩:=hcut;clear LP k0 k1 hF0;have⟨BX,hBX⟩:=ex (Obj.cells #[Value.int .i64 p,.int .i64 q,.slice A l.length c,.int .u32 d] 75);rw[hBX]at EY hF Vv Jc ⊢;have bu:Below (w.alloc BX).heap.size (w.alloc BX) (w.alloc BX).drew:=dK _;have hdw:=bu;clear hBX dF o1 o2 o3 o4;cases sz with
 | false=>
  have HF:Hid (R=false):=ae (by rw[HV.out];rfl);go_upto_region 3 with fail;refine wp_region_held_drew (S:=λw'=>Below (w.alloc BX).heap.size (w.alloc BX) w') ak bu (λhS=> ?_);refine ag 0 hS (h:=ag 1 hS (h:=dD 2 hS (h:=dD 3 hS (h:=dD 4 hS (h:=ag 5 hS (h:=ag 6 hS (h:=dD 7 hS (h:=dD 8 hS (h:=dD 9 hS (h:=dD 10 hS (h:=dD 11 hS (h:= ?_))))))))))));refine dD 12 hS (h:=dD 13 hS (h:=ag 14 hS (h:=ag 15 hS (h:= ?_))));refine wpAnyH_done ak ?_ _;go_wp2;go_ret;exact⟨by rw[HF.out];rfl,aQ EY.out bu⟩
 | true=>
  rw[Bool.true_and]at HV;generalize mI l=m at*;cases m with
  | false=>
   have HF:Hid (R=false):=ae (by rw[HV.out];rfl);go_upto_region 3 with fail;refine wp_region_held_drew (S:=λw'=>Below (w.alloc BX).heap.size (w.alloc BX) w') ak bu (λhS=> ?_);refine ag 0 hS (h:=ag 1 hS (h:=ag 2 hS (h:=cC 3 Vv.out hS (h:= ?_))));refine aO 4 (λK hK=> ?_);go_simp;refine(HM (w.alloc BX).drew (hF.below hdw)).mono ?_;rintro e w1 ⟨rfl,aI⟩;have g1:Below (w.alloc BX).heap.size (w.alloc BX) w1:=aQ bu aI;go_wp2_with fail;refine hK _ _ g1 (λ_=> ?_);clear hK K;refine ag 5 g1 (h:=ag 6 g1 (h:=dD 7 g1 (h:=dD 8 g1 (h:=dD 9 g1 (h:=dD 10 g1 (h:=dD 11 g1 (h:=dD 12 g1 (h:=dD 13 g1 (h:=ag 14 g1 (h:=ag 15 g1 (h:= ?_)))))))))));refine wpAnyH_done ak ?_ _;go_wp2;go_ret;exact⟨by rw[HF.out];rfl,aQ EY.out g1⟩
  | true=>
   have HF:Hid (R=wJ d):=ae (by rw[HV.out,Bool.true_and]);have ald:wJ d=((bt (dx d):Int)==(d:Int)):=(by rw[HDB.out,Bool.eq_iff_iff];simp;omega);rw[ald]at HF;clear ald HDB;generalize bt (dx d)=D at*;go_upto_region 3 with fail;refine wp_region_held_drew (S:=λw'=>Below (w.alloc BX).heap.size (w.alloc BX) w') ak bu (λhS=> ?_);refine ag 0 hS (h:=ag 1 hS (h:=ag 2 hS (h:=cC 3 Vv.out hS (h:= ?_))));refine aO 4 (λK hK=> ?_);go_simp;refine(HM (w.alloc BX).drew (hF.below hdw)).mono ?_;rintro e w1 ⟨rfl,aI⟩;have g1:Below (w.alloc BX).heap.size (w.alloc BX) w1:=aQ bu aI;go_wp2_with fail;refine hK _ _ g1 (λ_=> ?_);clear hK K;refine ag 5 g1 (h:=ag 6 g1 (h:=ag 7 g1 (h:=cC 8 Jc.out g1 (h:=ag 11 g1 (h:=cC 12 Jc.out g1 (h:= ?_))))));refine aO 9 (λK hK=> ?_);go_simp;refine(Qf w1).mono ?_;rintro e w2 ⟨rfl,rfl⟩;go_wp2_with fail;refine hK _ _ g1 (λ_=> ?_);clear hK K;refine aO 10 (λK hK=> ?_);go_simp;refine(Rt w1).mono ?_;rintro e w2 ⟨rfl,rfl⟩;go_wp2_with fail;refine hK _ _ g1 (λ_=> ?_);clear hK K;refine ag 13 g1 (h:=ag 14 g1 (h:=ag 15 g1 (h:= ?_)));refine wpAnyH_done ak ?_ _;go_wp2;go_ret;exact⟨by rw[HF.out];rfl,aQ EY.out g1⟩
def bj(n:Nat):Nat:=(4-n%4)%4
def iX(b:An):List UInt8:=b++List.replicate (bj b.length) 0
def fY(x:Int):List UInt8:=if x= -1 then []else Vl.put 9 x.toNat
def fG(f:eF):List UInt8:=(ir f).getD []
def qr(f:eF):List UInt8:=Vl.put 9 f.id.toNat++(Vl.put 9 (fG f).length++fG f)
def ey(l:List eF):List UInt8:=l.flatMap qr
def de(d:Nat):eF:=⟨33,d⟩
def pN(h:jf):Nat:=h.l.length+(if h.p= -1 then 0 else 64)+(if h.q= -1 then 0 else 128)
def jJ(h:jf):List UInt8:=fY h.p++fY h.q++ey (h.l++[de h.d])
def dy(h:jf):List UInt8:=0::UInt8.ofNat (pN h)::jJ h
def jg(h:jf):List UInt8:=(iX (dy h)).set 0 (UInt8.ofNat ((iX (dy h)).length/4))
def mX(h:jf):List UInt8:=jg h++gh (jg h)
theorem pP(l:List eF)(f:eF):ey (l++[f])=ey l++qr f:=by simp[ey]
def wK(f:eF):Prop:=f.ok/\0<=f.id/\f.id<=33/\ir f=some (fG f)/\(fG f).length<=4
theorem XZ(f:eF)(bK:f.ok)(h:eI f=true):wK f:=by
 have hid:f.id≠33:=by intro e;obtain⟨id,n⟩:=f;obtain rfl:id=33:=e;rw[acA]at h;cases h
 have hb:ir f=if f.id=3 then some [UInt8.ofNat (f.n-1)]else if f.n=0 then some []else some (bytesOf true f.n):=by unfold ir;rw[au hid,ax h]
 have hr:0<=f.id/\f.id<=33:=by
  rcases CD f h with⟨e,_⟩|⟨_,e,_⟩
  ·omega
  ·rcases e with e|e|e|e<;>omega
 refine⟨bK,hr.1,hr.2,?_,?_⟩
 ·unfold fG;rw[hb];split;·rfl
  ·split<;>rfl
 ·unfold fG;rw[hb];split;·simp
  ·split;·simp
   ·simp[bytesOf]
theorem SP(d:Nat)(hd:d<4294967296)(h:wJ d=true):wK (de d):=by
 have h':bt (dx d)=d:=by simpa [wJ]using h
 have hb:ir (de d)=some [UInt8.ofNat (dx d)]:=by unfold ir de;rw[ax rfl,ax h']
 refine⟨⟨zS,zT,hd⟩,by show(0:Int)<=33;omega,by show(33:Int)<=33;omega,?_,?_⟩;·unfold fG;rw[hb];rfl
 ·unfold fG;rw[hb];simp
theorem wL(h:jf)(bK:h.ok)(hf: ∀f∈h.l,f.ok)(hv:kL h=true):(∀f∈h.l++[de h.d],wK f)/\h.l.length<=3/\(h.p= -1\/1<=h.p)/\(h.q= -1\/0<=h.q):=by
 simp only[kL,uJ,mI,tw,Bool.or_eq_true,decide_eq_true_eq,List.all_eq_true]at hv;obtain⟨⟨⟨h1,h2⟩,h3,h4⟩,h5⟩:=hv;refine⟨λf hm=> ?_,h3,h1,h2⟩;rcases List.mem_append.1 hm with hm|hm;·exact XZ f (hf f hm) (h4 f hm)
 ·obtain rfl:f=de h.d:=by simpa using hm
  exact SP _ bK.2.2.2.2 h5
theorem sc(f:eF)(h:wK f):(qr f).length<=24:=by have h1:=(Vl.bE 9 f.id.toNat).2;have h2:=(Vl.bE 9 (fG f).length).2;have h3:=h.2.2.2.2;simp only[qr,aG];omega
theorem j9(l:List eF)(h: ∀f∈l,wK f):(ey l).length<=24*l.length:=by
 induction l with
 | nil=>simp[ey]
 | cons f l ih=>
  have h1:=sc f (h f ah);have h2:=ih (λg hg=>h g (by simp[hg]));simp only[ey,List.flatMap_cons,aG,el]at h2 ⊢;omega
theorem fA(x:Int):(fY x).length<=10:=by
 unfold fY;split;·simp
 ·exact(Vl.bE 9 _).2
theorem ar8(n:Nat)(h:n<=3):bits .or .u8 (n:Int) 64=((n+64:Nat):Int):=by
 match n,h with
 | 0,_=>rfl
 | 1,_=>rfl
 | 2,_=>rfl
 | 3,_=>rfl
theorem P8(n:Nat)(h:n<=3):bits .or .u8 (n:Int) 128=((n+128:Nat):Int)/\bits .or .u8 ((n+64:Nat):Int) 128=((n+64+128:Nat):Int):=by
 match n,h with
 | 0,_=>exact⟨rfl,rfl⟩
 | 1,_=>exact⟨rfl,rfl⟩
 | 2,_=>exact⟨rfl,rfl⟩
 | 3,_=>exact⟨rfl,rfl⟩
def G2(bo base:Nat)(w1:Lo)(L:An)(wx:Lo):Prop:= ∃v,j8 bo wx v/\Own base wx v L/\Below base w1 wx
theorem G2.opened{a:UInt8}(h:G2 bo base w1 (a::x::r) wx): ∃g c,j8 bo wx (.slice (some ⟨g,0,none⟩) (r.length+2) c)/\Own base wx (.slice (some ⟨g,0,none⟩) (r.length+2) c) (a::x::r)/\Below base w1 wx/\base<=g/\g≠bo/\
  wx.cell? ⟨g,1,none⟩=some (.int .u8 x.toNat)/\wx.frozen? ⟨g,1,none⟩=false/\wx.frozen? ⟨g,0,none⟩=false/\r.length+2<=c/\c<=9223372036854775807/\wx.cell? ⟨g,0,none⟩=some (.int .u8 a.toNat):=by
 obtain⟨v,hx,ho,hb⟩:=h;obtain⟨g,c,rfl,h1,h2,h3,h4,h5,h6⟩:=ho.opened ah;refine⟨g,c,hx,ho,hb,h1,?_,h5 1 ah,h6 1,h6 0,by simpa using h3,h4,h5 0 ah⟩;intro e;exact hx.ne ho (by rw[e];rfl)
theorem j8.store{i:Nat}(h:j8 bo w v)(hg:g≠bo):j8 bo (w.setCell ⟨g,i,none⟩ u) v:=(af _ _ _ _ (λe=>hg e.symm)).trans h
theorem CR{a:UInt8}(hx:j8 bo wx (.slice (some ⟨g,0,none⟩) (r.length+2) c))(ho:Own base wx (.slice (some ⟨g,0,none⟩) (r.length+2) c) (a::x::r))(hb:Below base w1 wx)(hg:base<=g)(fj:g≠bo)(s:Nat)(hs:s<256):
  j8 bo (wx.setCell ⟨g,1,none⟩ (.int .u8 s)) (.slice (some ⟨g,0,none⟩) (r.length+2) c)/\Own base (wx.setCell ⟨g,1,none⟩ (.int .u8 s)) (.slice (some ⟨g,0,none⟩) (r.length+2) c) (a::UInt8.ofNat s::r)/\Below base w1 (wx.setCell ⟨g,1,none⟩ (.int .u8 s)):=by
 have h:=ho.store 1 ah (UInt8.ofNat s);have e:((UInt8.ofNat s).toNat:Nat)=s:=nL;rw[e]at h;exact⟨hx.store fj,h,cN hb hg _⟩
def G3(bo:Nat)(w:Lo):Nat:=match w.cell? ⟨bo,0,none⟩with
 | some (.slice _ n _)=>n
 | _=>0
theorem j8.len(h:j8 bo w (.slice A n c)):G3 bo w=n:=by unfold G3;rw[h.cell]
theorem SQ{a:UInt8}(hx:j8 bo wx (.slice (some ⟨g,0,none⟩) n c))(ho:Own base wx (.slice (some ⟨g,0,none⟩) n c) (a::r))(hb:Below base w1 wx)(hg:base<=g)(fj:g≠bo)(s:Nat)(hs:s<256):
  j8 bo (wx.setCell ⟨g,0,none⟩ (.int .u8 s)) (.slice (some ⟨g,0,none⟩) n c)/\Own base (wx.setCell ⟨g,0,none⟩ (.int .u8 s)) (.slice (some ⟨g,0,none⟩) n c) (UInt8.ofNat s::r)/\Below base w1 (wx.setCell ⟨g,0,none⟩ (.int .u8 s)):=by
 have h:=ho.store 0 ah (UInt8.ofNat s);have e:((UInt8.ofNat s).toNat:Nat)=s:=nL;rw[e]at h;exact⟨hx.store fj,h,cN hb hg _⟩
theorem uK(oV:o.guard=none)(s x:Operand)
  (ho:o.op= .call {callee:= .builtin .append,args:= #[s,x],argTypes:= #[22,22]})
  (base:Nat) (w:Lo) (v:Value) (xs:An) (hs:a.eval s=v) (aL:Own base w v xs) (A:As) (l:An) (c:Nat) (hx:a.eval x= .slice A l.length c) (hB:Bytes w A l)
  (dF:xs.length+l.length<=140737488355328) (aX:base<=w.heap.size)
  (h: ∀v' w',Own base w' v' (xs++l)->w.grownBy w' v.ownBlock->K (a.put o.dst v') w'):if Region.wanted o (yielded ops a.tmps)=true then Oper.wp prog o a w K Q else K (a.put o.dst undef) w:=by
 rw[ax nH];obtain⟨v',w',hr,h2,h3⟩:=fR base o.type w v xs aL A l c hB dF aX;unfold Oper.wp execOp;simp only[ho,resolve,invoke,builtin,Sem.run_bind,Sem.run_pure,Result.andThen_ok,List.map_toArray,gy,List.map_nil,hs,hx,hr];exact h v' w' h2 h3
theorem uL(n:Nat):(Builtin.zeroCells (Value.int .u8 0).cells n).toList=List.replicate n (Value.int .u8 0):=by
 have hc:(Value.int .u8 0).cells= #[Value.int .u8 0]:=rfl;rw[hc];unfold Builtin.zeroCells;apply List.ext_getElem;·simp
 ·intro i h1 h2;simp[Nat.mod_one]
theorem yj(base:Nat)(ty:TypeId)(w:Lo)(v:Value)(xs:An)(aL:Own base w v xs)(h0:0<xs.length)(z:Nat)(hz:z<=1000000)(dF:xs.length+z<=140737488355328)(aX:base<=w.heap.size):
  ∃v' w',(Builtin.append_ #[22,3] ty #[v,.int .i64 z]).run prog w= .ok v' w'/\Own base w' v' (xs++List.replicate z 0)/\w.grownBy w' v.ownBlock:=by
 obtain⟨i,hi,qw,kC,me⟩:=info_parts tz;have ub:IntKind.i64.wrap (z:Int)=z:=em _ aa;have aI: ¬(z:Int)<0:=aa;have aK: ¬281474976710656<(z:Int):=aa;have ale:(xs++List.replicate z (0:UInt8)).map B8=xs.map B8++List.replicate z (Value.int .u8 0):=by rw[iI,List.map_replicate];rfl
 have WN:(if z*i.size=0 then(pure #[]:Sem (Array Value))else pure (Builtin.zeroCells (Value.int .u8 0).cells z))=pure (List.replicate z (Value.int .u8 0)).toArray:=by
  rw[kC,Nat.mul_one];by_cases Od:z=0;·subst Od;rfl
  ·rw[au Od];congr 1;apply Array.ext';rw[uL]
 rcases aL with⟨hl,⟨_,h⟩|⟨g,cap,cur,rfl,hb,hg,O8,oT,hcs,Bb⟩⟩
 ·omega
 ·by_cases X7:xs.length+z<=cap
  ·have da:=run_storeCells_at prog g (xs.length*i.size) 5 (List.replicate z (Value.int .u8 0)) 0 cur w hg (by rw[kC,iH];omega) (by intro u hu;rw[List.eq_of_mem_replicate hu];rfl);simp only[Nat.add_zero,kC,Nat.mul_one]at da;have FZ:(Builtin.append_ #[22,3] ty #[.slice (some ⟨g,0,none⟩) xs.length cap,.int .i64 z]).run prog w= .ok (.slice (some ⟨g,0,none⟩) (xs.length+z) cap) (w.setRow g (List.take xs.length cur.toList++List.replicate z (Value.int IntKind.u8 0)++List.drop (xs.length+(List.replicate z (Value.int IntKind.u8 0)).length) cur.toList).toArray):=by
    by_cases Od:z=0;·subst Od;simp only[List.replicate_zero]at da;have hw0:IntKind.i64.wrap 0=0:=ar;simp[Builtin.append_,run_underlying underlying22,run_underlying underlying3,sizeOf,typeInfo,zeroValue,hi,kC,me,hw0,O8,asInt,asIntOf,Addr.add_lit,da]
    ·simp[Builtin.append_,run_underlying underlying22,run_underlying underlying3,sizeOf,typeInfo,zeroValue,hi,qw,kC,me,ub,aI,aK,Od,X7,asInt,asIntOf,Addr.add_lit,uL,da]
   refine⟨_,_,FZ,⟨ah,.inr ⟨g,cap,_,ah,hb,setRow_heap w g cur _ _ _ hg,by simpa using X7,oT,?_,?_⟩⟩,⟨rfl,rfl,rfl,ah,λk _ hk=>setRow_other w g k _ (λe=>hk (by simp[Value.ownBlock,e]))⟩⟩;·simp;omega
   ·rw[ale];simp only[Nat.mul_one]at Bb;rw[Bb];have e:xs.length+z=(List.map B8 xs++List.replicate z (Value.int IntKind.u8 0)).length:=ah;simp only[aG,iH,Nat.mul_one];rw[e];exact List.take_left
  ·have Od: ¬z=0:=(by omega);have Y8: ¬9223372036854775807<(xs.length:Int)+(z:Int):=aa;have bY: ¬281474976710656<Builtin.nextslicecap (xs.length+z) cap:=(by have:=growslice_fits (need:=xs.length+z) (old:=cap) (bytes:=1) aa aa;omega);have Fb:=run_firstCells_some (P:=prog) w.drew 1 xs.length ⟨g,0,none⟩ xs.length cap (xs.map B8) ah (by
    intro j u hu;have:=(show Own base w (.slice (some ⟨g,0,none⟩) xs.length cap) xs from⟨hl,.inr ⟨g,cap,cur,rfl,hb,hg,O8,oT,hcs,Bb⟩⟩)
    exact World.ownsRow.cells this (g:=g) rfl j u hu)
   have FZ:(Builtin.append_ #[22,3] ty #[.slice (some ⟨g,0,none⟩) xs.length cap,.int .i64 z]).run prog w= .ok (.slice (some ⟨w.heap.size,0,none⟩) (xs.length+z) (grownCap w (xs.length+z) cap 5)) (w.drew.alloc (.cells ((xs.map B8).toArray++(List.replicate z (Value.int .u8 0)).toArray++Builtin.zeroCells (Value.int .u8 0).cells (grownCap w (xs.length+z) cap 5-(xs.length+z))) 5)):=(by have hzc:Builtin.zeroCells (Value.int .u8 0).cells z=(List.replicate z (Value.int .u8 0)).toArray:=Array.ext' (uL z);simp[Builtin.append_,run_underlying underlying22,run_underlying underlying3,sizeOf,typeInfo,zeroValue,hi,qw,kC,me,ub,aI,aK,Od,X7,Y8,bY,asInt,asIntOf,hzc,Fb,Question.forced,newRow,grownCap]);have Dk:=grownCap_ge w (xs.length+z) cap 5;have ar9:=grownCap_le_maxLen w (xs.length+z) cap 5 iJ;refine⟨_,_,FZ,⟨ah,.inr ⟨w.heap.size,_,_,ah,aX,heap_alloc_new w.drew _,by simpa using Dk,ar9,?_,?_⟩⟩,⟨rfl,rfl,rfl,ah,λk hk _=>(by first|exact heap_alloc_old w.drew _ hk|exact heap_alloc_old w.drew _ _ hk)⟩⟩;·have dE:(Value.int .u8 0).cells.size=1:=rfl;simp only[Array.size_append,List.size_toArray,size_zeroCells,cX,iH,dE,Nat.mul_one];omega
   ·rw[ale];have e:(xs++List.replicate z (0:UInt8)).length*1=(List.map B8 xs++List.replicate z (Value.int IntKind.u8 0)).length:=ah;simp only[Array.toList_append];rw[e];exact List.take_left
theorem ka(oV:o.guard=none)(s x:Operand)
  (ho:o.op= .call {callee:= .builtin .append,args:= #[s,x],argTypes:= #[22,3]})
  (base:Nat) (w:Lo) (v:Value) (xs:An) (hs:a.eval s=v) (aL:Own base w v xs) (h0:0<xs.length) (z:Nat) (hx:a.eval x= .int .i64 z) (hz:z<=1000000) (dF:xs.length+z<=140737488355328) (aX:base<=w.heap.size)
  (h: ∀v' w',Own base w' v' (xs++List.replicate z 0)->w.grownBy w' v.ownBlock->K (a.put o.dst v') w'):if Region.wanted o (yielded ops a.tmps)=true then Oper.wp prog o a w K Q else K (a.put o.dst undef) w:=by
 rw[ax nH];obtain⟨v',w',hr,h2,h3⟩:=yj base o.type w v xs aL h0 z hz dF aX;unfold Oper.wp execOp;simp only[ho,resolve,invoke,builtin,Sem.run_bind,Sem.run_pure,Result.andThen_ok,List.map_toArray,gy,List.map_nil,hs,hx,hr];exact h v' w' h2 h3
end Go.Proofs.YtfcaoggfnkhfiaaGreatDoor
