import Derived.Deep.Slices
import Derived.Deep.Fields
import Derived.ChangeSame
import Derived.Lib.SmallJoins
import Derived.RangeFuncOwn
import Derived.Maps.AppendAt
import Derived.Deep.Matrix
import Derived.Deep.CutBlock
import Derived.Deep.DeepCutAuto
import Derived.Test.YtfcaoggfnkhfiaaGreatDoorZ17
import Derived.Deep.RegionHeld3
import Derived.Test.YtfcaoggfnkhfiaaGreatDoorZ18
import Derived.Lib.MinMax
import Derived.Shelf.Abstract
import Derived.Shelf.RegionOpen
import Derived.OwnWalkIn
import Derived.TacticsInMore
import Derived.LoopNIn
import Derived.LoopIn
import Derived.RangeFuncBox
namespace Go.Proofs.YtfcaoggfnkhfiaaGreatDoor
set_option maxRecDepth 100000
set_option maxHeartbeats 8000000
open Go.RowKit Go.Proofs.Tryz
variable{rs:List (Int×Int)}{Ls ls:List (An)}{D L P l:An}{vs:List Value}{N Q R X b base g i j n:Nat}{o:Obj}{A:As}{t:TypeId}{u v' vB vR x y z:Value}{W W' w w':Lo}
structure Op where
 lc:Int
 lp:Int
 pb:Int
 nice:Int
 chunk:Int
 block:Int
 check:Int
 A:Option Addr
 l:List eF
 c:Nat
 dict:Nat
abbrev Op.ch(o:Op):Value:= .slice o.A o.l.length o.c
abbrev Op.v(o:Op):Value:=BK o.lc o.lp o.pb o.nice o.chunk o.block o.check o.ch o.dict
def Op.iG(o:Op):Bool:=lO o.lc o.lp o.pb o.nice o.chunk o.dict&&mI o.l&&cQ o.check
structure pR(w:Lo)(o:Op):Prop where
 oK:je w o.A o.l
 lc:o.l.length<=o.c
 c:o.c<=9223372036854775807
 dict:o.dict<4294967296
 few:o.l.length<=20
theorem pR.below{o:Op}(h:pR w o)(hb:Below w.heap.size w w'):pR w' o:=⟨h.oK.below hb,h.lc,h.c,h.dict,h.few⟩
theorem cH{o:Op}(h:W.heap[b]? =some (.cells (eL o.lc o.lp o.pb o.nice o.chunk o.block o.check o.ch o.dict).toArray 26 (0,0))):
  W.cell? ⟨b,0,none⟩=some (.int .i64 o.lc)/\W.cell? ⟨b,1,none⟩=some (.int .i64 o.lp)/\W.cell? ⟨b,2,none⟩=some (.int .i64 o.pb)/\W.cell? ⟨b,3,none⟩=some (.int .i64 o.nice)/\W.cell? ⟨b,4,none⟩=some (.int .i64 o.chunk)/\W.cell? ⟨b,5,none⟩=some (.int .i64 o.block)/\W.cell? ⟨b,6,none⟩=some (.int .i64 o.check)/\W.cell? ⟨b,7,none⟩=some o.ch/\W.cell? ⟨b,8,none⟩=some (.int .u32 o.dict):=by
 refine⟨?_,?_,?_,?_,?_,?_,?_,?_,?_⟩<;>(rw[aC W _ _ _ _ _ h];rfl)
theorem yZ(n:Nat)(hn:n<=1000000000)(w:Lo):Calls prog 40 #[.int .i64 n] w λe w'=>e= .returned (.int .i64 (bj n:Nat))/\w=w':=by have h:(4-(n:Int)%4)%4=((bj n:Nat):Int):=kO;have H:=ae h;clear h;go_enter func40,ntmps40;go_wp2;go_ret;exact⟨by rw[<-H.out];rfl,rfl⟩
theorem Of(a:Int)(n:Nat)(hn:n<=1000000000)(w:Lo):Calls prog 140 #[.int .i64 a,.int .i64 n] w λe w'=>e= .returned (.bool (decide (a<0)||a==(n:Int)))/\w=w':=by
 have hw:IntKind.i64.wrap (n:Int)=n:=em _ aa;by_cases h:a<0;·go_enter func140,ntmps140;go_wp2;go_ret;exact⟨fO,rfl⟩
 ·go_enter func140,ntmps140;go_wp2;go_ret;exact⟨aH,rfl⟩
theorem CT(o:Op)(w:Lo)(hO:pR w o):Calls prog 26 #[o.v] w (mC o.iG w):=by
 have⟨W,hW⟩:=ex (w.alloc (.cells #[.int .i64 o.lc,.int .i64 o.lp,.int .i64 o.pb,.int .i64 o.nice,.int .i64 o.chunk,.int .i64 o.block,.int .i64 o.check,o.ch,.int .u32 o.dict] 26));obtain⟨aY,bZ⟩:=dI (vs:=eL o.lc o.lp o.pb o.nice o.chunk o.block o.check o.ch o.dict) hW;have HC:=ae (fun(W':Lo) (h:aq W W')=>cH ((h.block _ (bU aY)).trans aY));have zk:=HC.out W (aP _ _);have H1:=ae (Jf o.lc o.lp o.pb o.nice o.chunk o.block o.check o.ch o.dict W);have H2:=ae (fun(W':Lo) (h:aq W W')=>wt o.A o.l o.c W' ((hO.oK.below bZ).below h) hO.few);have H3:=ae (fun(W':Lo)=>mM o.check W');have HW:=ae hW;have cW:=ae bZ;have HR:Hid (o.iG=(lO o.lc o.lp o.pb o.nice o.chunk o.dict&&mI o.l&&cQ o.check)):=ae rfl;generalize lO o.lc o.lp o.pb o.nice o.chunk o.dict=b1 at*;generalize mI o.l=b2 at*;generalize cQ o.check=b3 at*;generalize o.iG=b at*;clear aY hW bZ hO;cases b1 with
 | false=>
  go_enter func26,ntmps26;go_upto_region 1 with fail;rw[HW.out];go_wp2_with fail;refine H1.mono ?_;rintro e w1 ⟨rfl,aI⟩;have bF:=ae aI;clear aI;go_wp2;go_ret;exact⟨by rw[HR.out];rfl,aQ cW.out bF.out⟩
 | true=>
  cases b2 with
  | false=>
   go_enter func26,ntmps26;go_upto_region 1 with fail;rw[HW.out];go_wp2_with fail;refine H1.mono ?_;rintro e w1 ⟨rfl,aI⟩;have bF:=ae aI;clear aI zk;have zk:=HC.out w1 bF.out;go_wp2_with fail;refine(H2 w1 bF.out).mono ?_;rintro e w2 ⟨rfl,aK⟩;have dG:=ae (aQ bF.out aK);clear aK;go_wp2;go_ret;exact⟨by rw[HR.out];rfl,aQ cW.out dG.out⟩
  | true=>
   go_enter func26,ntmps26;go_upto_region 1 with fail;rw[HW.out];go_wp2_with fail;refine H1.mono ?_;rintro e w1 ⟨rfl,aI⟩;have bF:=ae aI;clear aI zk;have zk:=HC.out w1 bF.out;go_wp2_with fail;refine(H2 w1 bF.out).mono ?_;rintro e w2 ⟨rfl,aK⟩;have dG:=ae (aQ bF.out aK);clear aK zk;have zk:=HC.out w2 dG.out;go_wp2_with fail;refine(H3 w2).mono ?_;rintro e w3 ⟨rfl,bm⟩;have ft:=ae (aQ dG.out bm);clear bm;go_wp2;go_ret;exact⟨by rw[HR.out];rfl,aQ cW.out ft.out⟩
section
open Go.ChangeShapes Go.WideShapes Go.ChangeAt Go.RowKit Go.Joins
theorem KB:prog.cellsOf 109=2:=ak
theorem SX{H:Type}{enc:TypeId×Value->H}{W:Lo}{v:Value}{y:DataW H×List MemPlace}{n0:Nat}
  (hf:DataW.trod enc prog W 0 (λ_=>true) true n0 23 [v]=some y):
  ∃(A:As) (l:List eF) (c:Nat),v= .slice A l.length c/\l.length<=c/\c<=9223372036854775807/\je W A l:=by
 rcases Go.Deep.open_slice underlying23 hf with⟨hcs,_⟩|⟨a,len,cap,m,n,D,Pl,hcs,_,hl,hm,Iz,_,hi⟩
 ·injection hcs with hcs;subst hcs;exact⟨none,[],0,rfl,ah,aa,.inl rfl⟩
 ·injection hcs with hcs;subst hcs;simp only[if_true]at Iz;unfold maxLen at hm;obtain⟨b,off,spot⟩:=a;have hsp:0<len->spot=none:=by intro sY;obtain⟨cs',hc,_⟩:=hi 0 aa;rw[KB]at hc;obtain⟨_,gZ,cZ⟩:=World.cells?_some hc;have:=World.cell?_spot ((cZ 0 aa).trans (dS aa));simpa [Addr.add]using this
  have key: ∀i,i<len->spot=none/\b<W.heap.size/\ ∃f,ER W b (off+i*2) f:=by
   intro i Zj;obtain⟨cs',hc,ht⟩:=hi i aa;rw[KB]at hc;obtain⟨_,gZ,cZ⟩:=World.cells?_some hc;obtain⟨ys,n',_,_,_,i',hf⟩:=DataW.trod_struct underlying109 ht;have mN: ∀j,j<2->ys[j]?.isSome=true:=λj hj=>(by rw[dS (by rw[i'];exact hj)];rfl);obtain⟨z0,e0,w0⟩:=eT (j:=0) underlying3 aa (mN 0 aa) (hf 0 _ rfl);obtain⟨z1,e1,w1⟩:=eT (j:=1) underlying24 aa (mN 1 aa) (hf 1 _ rfl);have vl:spot=none:=hsp aa;subst vl;have vr: ∀j,((⟨b,off,none⟩:Addr).add (i*2)).add j=⟨b,off+i*2+j,none⟩:=(by intro j;rw[sd,sd]);have h0:=(cZ 0 aa).trans e0;have h1:=(cZ 1 aa).trans e1;rw[vr]at h0 h1;have hz:=nj w0;refine⟨rfl,?_,⟨z0,(BitVec.ofNat 32 z1.toNat).toNat⟩,h0,?_,hz.1,hz.2,(BitVec.ofNat 32 z1.toNat).isLt⟩;·exact block_lt_of_cell h0
   ·rw[<-O9 w1];exact h1
  refine⟨some ⟨b,off,spot⟩,(List.range len).map (λi=>if h:i<len then Classical.choose (key i h).2.2 else⟨0,0⟩),cap,ah,by simpa using hl,hm,?_⟩;rcases Nat.eq_zero_or_pos len with h0|sY;·subst h0;exact .inl rfl
  ·obtain⟨rfl,hb,_⟩:=key 0 sY;refine .inr ⟨b,off,rfl,hb,λi Zj=> ?_⟩;have KC:i<len:=(by simpa using Zj);have:=Classical.choose_spec (key i KC).2.2;rw[List.getElem_map,List.getElem_range,dif_pos KC];exact this
theorem Og{H:Type}{enc:TypeId×Value->H}{W:Lo}{b0:Nat}{v:Value}{d:DataW H}{p:List MemPlace}
  (hval:Value.okWide prog W .any b0 26 v) (h:DataW.Trod enc prog W 0 (λ_=>true) true 26 v d p):
  ∃o:Op,v=o.v/\je W o.A o.l/\(∀f∈o.l,f.ok)/\o.l.length<=o.c/\o.c<=9223372036854775807/\o.dict<4294967296/\o.block<=9223372036854775807:=by
 obtain⟨cs,rfl,dF⟩:=okWide_struct underlying26 hval;rw[Vt]at dF;obtain⟨a,b,c,d',e,f,g,i,j,hl⟩:=ai4 (l:=cs.toList) (by simpa using dF);obtain⟨fuel,hf⟩:=h;obtain⟨ys,n',_,_,_,i',hfs⟩:=DataW.trod_struct underlying26 hf;have mN: ∀j,j<9->ys[j]?.isSome=true:=λj hj=>by rw[dS (by rw[i'];exact hj)];rfl
 have gZ:(Value.agg cs).cells.toList.length=9:=by simpa [Value.cells]using dF
 obtain⟨z0,e0,w0⟩:=eT (j:=0) underlying3 aa (mN 0 aa) (hfs 0 _ rfl);obtain⟨z1,e1,w1⟩:=eT (j:=1) underlying3 aa (mN 1 aa) (hfs 1 _ rfl);obtain⟨z2,e2,w2⟩:=eT (j:=2) underlying3 aa (mN 2 aa) (hfs 2 _ rfl);obtain⟨z3,e3,w3⟩:=eT (j:=3) underlying3 aa (mN 3 aa) (hfs 3 _ rfl);obtain⟨z4,e4,w4⟩:=eT (j:=4) underlying3 aa (mN 4 aa) (hfs 4 _ rfl);obtain⟨z5,e5,w5⟩:=eT (j:=5) underlying3 aa (mN 5 aa) (hfs 5 _ rfl);obtain⟨z6,e6,w6⟩:=eT (j:=6) underlying3 aa (mN 6 aa) (hfs 6 _ rfl);obtain⟨z8,e8,w8⟩:=eT (j:=8) underlying24 aa (mN 8 aa) (hfs 8 _ rfl);have hce:(Value.agg cs).cells.toList=[a,b,c,d',e,f,g,i,j]:=hl;obtain⟨y7,hy7⟩:=Option.isSome_iff_exists.1 (mN 7 aa);have h7:=hfs 7 _ rfl;rw[hy7,hce]at h7;obtain⟨A,l,cc,e7,lj,oT,hF⟩:=SX (v:=i) h7;subst e7;rw[hce]at e0 e1 e2 e3 e4 e5 e6 e8;simp only[List.getElem?_cons_zero,List.getElem?_cons_succ,Option.some.injEq]at e0 e1 e2 e3 e4 e5 e6 e8;subst e0 e1 e2 e3 e4 e5 e6 e8;have eS:=nj w5;refine⟨⟨z0,z1,z2,z3,z4,z5,z6,A,l,cc,(BitVec.ofNat 32 z8.toNat).toNat⟩,?_,hF,?_,lj,oT,(BitVec.ofNat 32 z8.toNat).isLt,eS.2⟩;·have e32:=O9 w8;show Value.agg cs= .agg #[.int .i64 z0,.int .i64 z1,.int .i64 z2,.int .i64 z3,.int .i64 z4,.int .i64 z5,.int .i64 z6,.slice A l.length cc,.int .u32 ((BitVec.ofNat 32 z8.toNat).toNat:Nat)];rw[<-e32];obtain⟨cl⟩:=cs;have:cl=_:=hl;subst this;rfl
 ·intro f hf;obtain⟨n,hn,rfl⟩:=List.getElem_of_mem hf;obtain⟨_,_,_,_,cZ⟩:=hF.addr (Nat.lt_of_le_of_lt (cI _) hn);exact(cZ n hn).ok
end
section
open Go Go.RowKit
def alD{α:Type}(F:Fence)(n:Nat)(P:Program)(g:Nat)(lb:Array Value)(yh:α->Array Value)(bn bs:Nat)(S:List α->Prop)(N:Nat)(w:Lo):Prop:=
 ∀(l:Nat) (J:List α->World->Prop) (W:Lo),Below w.heap.size w W->jA bn J->(∀s W,J s W->W.heap[bs]? =w.heap[bs]?)->
  (∀pre x W1,J pre W1->pre.length<N->YieldAt F (n-1) P l (yh x) W1 λe W'=>e= .returned (.bool true)/\J (pre++[x]) W'/\fX bn W1 W')->
  J [] W->
  CallsIn F n P g (#[.func (.yield l) #[] #[]]++lb) W λe W'=>(∃v,e= .returned v)/\ ∃xs,S xs/\J xs W'
variable{F:Fence}{n:Nat}{P:Program}
theorem wN{α:Type}{g:Operand}{ps:Array Tmp}{assign body:Code}{Q:Exit->Act->World->Prop}{a:Act}{w:Lo}
  (kM:F.round=none) (h1:1<=n) {gf:Nat} {lb:Array Value} (hg:a.eval g= .func (.func gf) #[] lb) (hFg:F.fn gf) (eg: ∀args w,(callFunc gf args).run P w= .ok (.enter gf args) w)
  {yh:α->Array Value} {bn bs:Nat} {S:List α->Prop} {N:Nat} (DT:alD F (n-1) P gf lb yh bn bs S N w) (Qy:bn<w.heap.size) (Er: ∀x,(yh x).size=ps.size)
  (I:List α->World->Prop) (hIa: ∀s W o,I s W->I s (W.alloc o)) (MH: ∀s W l o o',I s W->w.heap.size<=l->W.heap[l]? =some o->o.isCells=false->I s (W.putObj l o')) (hIc:jA bn I) (hIb: ∀s W,I s W->W.heap[bs]? =w.heap[bs]?) (h0:I [] w) (a₁:α->Act)
  (pq: ∀(l:Nat) (x:α) (W:Lo) (K:Act->World->Prop),K (a₁ x) W->
   assign.wpIn (F.inRound l) (n-1-1) P (Exit.then K (λ_ _ _=>False)) {tmps:=(ps.zip (yh x)).foldl (λt (p,v)=>t.setIfInBounds p v) a.tmps,defers:=[]} W)
  (BO: ∀(l:Nat) (pre:List α) (x:α) (W:Lo),I pre W->pre.length<N->body.wpIn (F.inRound l) (n-1-1) P (P7 bn I (pre++[x]) W) (a₁ x) W)
  (tC: ∀(D:Nat) (xs:List α) (W:Lo),w.heap.size<=D->S xs->I xs W->W.heap[D]? =some (.deferred (some []))->Q .normal {a with defers:={target:= .collected D,args:= #[]}::a.defers} W):
  (Code.rangeFunc g ps assign body).wpIn F n P Q a w:=by
 refine wpIn_rangeFunc λfn Ew=> ?_;rw[kM];let kH:LoopState->Loop:=λst=>{state:=st,pending:=none,fn,tmps:=a.tmps,params:=ps,assign,body,defers:=w.heap.size}
 have⟨W1,ek⟩:=ex ((w.alloc (.deferred (some []))).alloc (.loop (kH .ready)));have aI:Below w.heap.size w W1:=by rw[<-ek];exact((aP _ w).alloc (aF _) _).alloc ah _
 have VA:W1.heap[w.heap.size+1]? =some (.loop (kH .ready)):=by rw[<-ek];have:=World.alloc_heap_new (w.alloc (.deferred (some []))) (.loop (kH .ready));rwa [pV]at this
 have hK1:W1.heap[w.heap.size]? =some (.deferred (some [])):=by rw[<-ek];exact(ee _ _ _ ah).trans (World.alloc_heap_new w _)
 have hI1:I [] W1:=FD
 refine⟨w.heap.size+1,[{target:= .collected w.heap.size,args:= #[]}],W1,{target:= .fn (.func gf) lb,args:= #[.func (.yield (w.heap.size+1)) #[] #[]]},W1,gf,
  #[.func (.yield (w.heap.size + 1)) #[] #[]] ++ lb, W1, ?_, ?_, ?_, ?_, λ_ => h1, ?_⟩
 ·rw[<-ek];exact run_enterLoop_outer _ _ _ _ _
 ·simp only[resolve,hg];simp[go_sem]
 ·intro f' VB;simp[Target.leads]at VB;subst VB;exact hFg
 ·simp[invoke,go_sem,eg]
 ·refine(DT (w.heap.size+1) (λpre W=>I pre W/\W.heap[w.heap.size+1]? =some (.loop (kH .ready))/\W.heap[w.heap.size]? =some (.deferred (some []))) W1 aI ?_ (λs W hs=>hIb s W hs.1) ?_ ⟨hI1,VA,hK1⟩).mono ?_;·intro s W v hs;exact⟨hIc s W v hs.1,(heap_setCell_other _ _ _ _ (by show w.heap.size+1≠bn;omega)).trans hs.2.1,(heap_setCell_other _ _ _ _ (by show w.heap.size≠bn;omega)).trans hs.2.2⟩
  ·rintro pre x W ⟨hi,hl,hk⟩ hlen;have aV:w.heap.size+1<W.heap.size:=(bU hl)
   have hy:=run_yield (P:=P) (args:=yh x) hl (Er x);refine⟨fn,_,assign,body,hy,roundIn_of_wpIn Ew (pq _ x W _ ⟨_,run_beginRound hl rfl,?_⟩)⟩;have zu:(W.putObj (w.heap.size+1) (.loop (kH .busy))).heap[w.heap.size+1]? =some (.loop (kH .busy)):=World.putObj_heap_same aV;have qp:(W.putObj (w.heap.size+1) (.loop (kH .busy))).heap[w.heap.size]? =some (.deferred (some [])):=(World.putObj_heap_other aa).trans hk;have ei:fX bn W (W.putObj (w.heap.size+1) (.loop (kH .busy))):=jq _ _ aa;refine wpIn_mono (BO _ pre x _ (MH _ _ _ _ _ hi aa hl rfl) hlen) ?_;rintro e a3 W3 hp;cases e with
   | normal=>
    obtain⟨oR,hkc,Vs⟩:=hp;have tJ:=oR.same _ _ zu rfl;have RG:=run_endRound (P:=P) none tJ;exact⟨_,_,RG,rfl,⟨MH _ _ _ _ _ Vs aa tJ rfl,World.putObj_heap_same (bU tJ),(World.putObj_heap_other aa).trans (oR.same _ _ qp rfl)⟩,(ei.trans hkc).trans (jq _ _ aa)⟩
   | ret=>exact hp.elim
   | exit id=>exact hp.elim
   | goto t=>exact hp.elim
   | panic ch=>exact hp.elim
   | outgrown=>exact hp.elim
  ·rintro e W2 ⟨⟨v,rfl⟩,xs,hS,hi,hl,hk⟩;exact⟨none,_,run_endLoop (P:=P) hl (by simp[kH]),tC _ xs _ (aF _) hS (MH _ _ _ _ _ hi aa hl rfl) ((World.putObj_heap_other aa).trans hk)⟩
end
theorem CU:Elem 27 22 (.slice none 0 0) 24:=⟨underlying27,ak,rfl⟩
theorem qg{ts:TypeId}{bytes:Nat}(hE:wM ts t z bytes)(base:Nat)(ty:TypeId)(w:Lo)(v:Value)(l:List (Int×Int))(aL:dY t base w v l)(hh c:Nat)(r:Int×Int)
  (h0:w.cell? ⟨hh,0,none⟩=some (.int .i64 r.1)) (h1:w.cell? ⟨hh,1,none⟩=some (.int .i64 r.2)) (dF:(l.length+1)*bytes<=140737488355328) (yp:l.length+1<=140737488355328) (aX:base<=w.heap.size):
  ∃v' w',(Builtin.append_ #[ts,ts] ty #[v,.slice (some ⟨hh,0,none⟩) 1 c]).run prog w= .ok v' w'/\dY t base w' v' (l++[r])/\w.grownBy w' v.ownBlock/\(v'.ownBlock=v.ownBlock\/v'.ownBlock=some w.heap.size):=by
 obtain⟨i,hi,hz⟩:=Option.map_eq_some_iff.1 hE.info;injection hz with qw hz;injection hz with kC me
 obtain⟨v',w',hr,h2,h3,_,h5⟩:=run_append_own_at (P:=prog) w base ts ty t i z 2 bytes hE.und hi qw kC me hE.two ar
  v l.length (dX l) aL ⟨hh,0,none⟩ 1 c (dX [r]) (by rw[lC];rfl) (by
   intro j u hu;have e:(⟨hh,0,none⟩:Addr).add j=⟨hh,j,none⟩:=oa;rw[e];match j,hu with
   | 0,hu=>rw[h0];exact hu
   | 1,hu=>rw[h1];exact hu
   | j+2,hu=>simp[dX]at hu) (by intro u hu;simp[dX]at hu;rcases hu with rfl|rfl<;>rfl) iJ dF aX
 exact⟨v',w',hr,by unfold dY;rw[qe];simpa using h2,h3,h5⟩
def wO(base:Nat)(W:Lo)(vB vR v:Value)(L:An):Prop:=
 ∃g c,v= .slice (some ⟨g,0,none⟩) L.length c/\(L.length<=c/\c<=9223372036854775807)/\(base<=g/\g<W.heap.size)/\vB.ownBlock≠some g/\vR.ownBlock≠some g/\Bytes W (some ⟨g,0,none⟩) L
structure qs(t:TypeId)(base:Nat)(W:Lo)(vB vR:Value)(Ls:List (An))(rs:List (Int×Int)):Prop where
 vs: ∃vs:List Value,aZ 22 base W vB vs/\vs.length=Ls.length/\ ∀(i:Nat) v L,vs[i]? =some v->Ls[i]? =some L->wO base W vB vR v L
 G7:dY t base W vR rs
 ne: ∀g,vB.ownBlock=some g->vR.ownBlock≠some g
theorem aZ.isCells{v:Value}{l:List Value}(h:aZ t base W v l)(hj:v.ownBlock=some j)(ho:W.heap[j]? =some o):o.isCells=true:=by
 rcases h with⟨_,⟨rfl,_⟩|⟨g',bW,cur,rfl,_,h4,_⟩⟩
 ·cases hj
 ·have e:g'=j:=by simpa [Value.ownBlock]using hj
  subst e;rw[ho]at h4;injection h4 with h4;subst h4;rfl
theorem wP{v:Value}{l:List (Int×Int)}(h:dY t base W v l)(hj:v.ownBlock=some j)(ho:W.heap[j]? =some o):o.isCells=true:=by
 rcases h with⟨_,⟨rfl,_⟩|⟨g',bW,cur,rfl,_,h4,_⟩⟩
 ·cases hj
 ·have e:g'=j:=by simpa [Value.ownBlock]using hj
  subst e;rw[ho]at h4;injection h4 with h4;subst h4;rfl
theorem SY{v:Value}{l:List (Int×Int)}(h:dY t base w v l): ∃A c,v= .slice A l.length c:=by
 rcases h with⟨_,⟨h2,h3⟩|⟨g,cap,cur,h2,_⟩⟩
 ·exact⟨none,0,by rw[h2,h3]⟩
 ·exact⟨_,cap,h2⟩
theorem Bytes.Qi(h:Bytes W (some ⟨g,0,none⟩) l)(hs:W.heap.size<=W'.heap.size)(he:W'.heap[g]? =W.heap[g]?):Bytes W' (some ⟨g,0,none⟩) l:=by
 rcases h with h|⟨b,off,e,h2,h3⟩
 ·exact .inl h
 ·injection e with e;injection e with e1 e2;subst e1;subst e2;exact .inr ⟨_,_,rfl,db h2 hs,λk hk=>(f5 (a:=⟨g,0+k,none⟩) he).trans (h3 k hk)⟩
theorem Bytes.oB(h:Bytes W (some ⟨g,0,none⟩) l)(hs:W.heap.size<=W'.heap.size)(he:(∀o,W.heap[g]? =some o->o.isCells=true)->W'.heap[g]? =W.heap[g]?):Bytes W' (some ⟨g,0,none⟩) l:=by
 by_cases hl:0<l.length;·refine h.Qi hs (he λo ho=> ?_);obtain⟨b,off,e,_,hc⟩:=h.addr hl;injection e with e;injection e with e1 e2;subst e1;subst e2;obtain⟨o',h1,h2⟩:=cells_of_cell (hc 0 hl);rw[ho]at h1;injection h1 with h1;subst h1;exact h2
 ·exact .inl (mm aa)
theorem qs.aU(h:qs t base W vB vR Ls rs)(hs:W.heap.size<=W'.heap.size)
  (hk: ∀g,base<=g->g<W.heap.size->(∀o,W.heap[g]? =some o->o.isCells=true)->W'.heap[g]? =W.heap[g]?):qs t base W' vB vR Ls rs:=by
 obtain⟨vs,h1,h2,h3⟩:=h.vs;refine⟨⟨vs,h1.aU λg hg=>hk g (h1.lt g hg).1 (h1.lt g hg).2 λo ho=>h1.isCells hg ho,h2,λi v L hv hL=> ?_⟩,h.G7.aU λg hg=>hk g (h.G7.lt g hg).1 (h.G7.lt g hg).2 λo ho=>wP h.G7 hg ho,h.ne⟩;obtain⟨g,c,e,hc,hg,n1,n2,hB⟩:=h3 i v L hv hL;exact⟨g,c,e,hc,⟨hg.1,db hg.2 hs⟩,n1,n2,hB.oB hs λho=>hk g hg.1 hg.2 ho⟩
theorem qs.below(h:qs t base W vB vR Ls rs)(hb:Below W.heap.size W W'):qs t base W' vB vR Ls rs:=
 h.aU hb.size λg _ hg _=>hb.block g hg
theorem qs.set(h:qs t base W vB vR Ls rs){p:Addr}(hp:p.block<base)(u:Value):qs t base (W.setCell p u) vB vR Ls rs:=
 h.aU (Nat.le_of_eq (pU _ _ _).symm) λg hg _ _=>heap_setCell_other _ _ _ _ aa
theorem qs.alloc{t:TypeId}{base:Nat}{W:Lo}{vB vR:Value}{Ls:List (An)}{rs:List (Int×Int)}(h:qs t base W vB vR Ls rs)(o:Obj):qs t base (W.alloc o) vB vR Ls rs:=h.below (az)
theorem qs.put(h:qs t base W vB vR Ls rs){l:Nat}(o':Obj)(hl:W.heap[l]? =some o)(ho:o.isCells=false):qs t base (W.putObj l o') vB vR Ls rs:=
 h.aU (by rw[World.putObj];simp) λg _ _ hc=>World.putObj_heap_other λe=>by subst e;have:=hc o hl;rw[ho]at this;cases this
theorem qs.nil(base:Nat)(W:Lo):qs t base W (.slice none 0 0) (.slice none 0 0) [] []:=
 ⟨⟨[],aZ.nil _ _ _,rfl,λi v L hv _=>by simp at hv⟩,dY.nil _ _ _,λg e=>eK⟩
theorem qs.Yi(h:qs t base W vB vR Ls rs)(_:aZ 22 base W vB vs)(hlen:vs.length=Ls.length)(hel: ∀(i:Nat) v L,vs[i]? =some v->Ls[i]? =some L->wO base W vB vR v L)
  {u:Value} {L:An} (hu:wO base W vB vR u L) (hn:aZ 22 base W' v' (vs++[u])) (hg:W.grownBy W' vB.ownBlock) (ho:v'.ownBlock=vB.ownBlock\/v'.ownBlock=some W.heap.size):qs t base W' v' vR (Ls++[L]) rs:=by
 have hs:=hg.size;have key: ∀{v:Value} {L:An},wO base W vB vR v L->wO base W' v' vR v L:=by
  rintro v L ⟨g,c,e,hc,BJ,n1,n2,hB⟩;refine⟨g,c,e,hc,⟨BJ.1,db BJ.2 hs⟩,?_,n2,hB.Qi hs (hg.block g BJ.2 λe=>n1 e.symm)⟩;rcases ho with e|e;·rw[e];exact n1
  ·rw[e];intro e2;injection e2 with e2;omega
 refine⟨⟨_,hn,by rw[aG,aG,hlen];rfl,λi v L' TQ hL'=> ?_⟩,h.G7.aU λg e=>hg.block g (h.G7.lt g e).2 λe2=>h.ne g e2.symm e,λg e e2=> ?_⟩
 ·rcases dN i vs.length with hi|hi;·rw[AG hi]at TQ;rw[AG aa]at hL';exact key (hel i v L' TQ hL')
  ·rw[lH hi]at TQ;rw[lH aa,<-hlen]at hL';match hj:i-vs.length,TQ,hL' with
   | 0,TQ,hL'=>simp at TQ hL';subst TQ;subst hL';exact key hu
   | j+1,TQ,_=>simp at TQ
 ·rcases ho with e3|e3;·exact h.ne g (e3▸e) e2
  ·rw[e3]at e;injection e with e;have:=(h.G7.lt g e2).2;omega
theorem qs.acG{rs':List (Int×Int)}(h:qs t base W vB vR Ls rs)
  (hn:dY t base W' v' rs') (hg:W.grownBy W' vR.ownBlock) (ho:v'.ownBlock=vR.ownBlock\/v'.ownBlock=some W.heap.size):qs t base W' vB v' Ls rs':=by
 have hs:=hg.size;obtain⟨vs,h1,h2,h3⟩:=h.vs;refine⟨⟨vs,h1.aU λg e=>hg.block g (h1.lt g e).2 λe2=>h.ne g e e2.symm,h2,λi v L hv hL=> ?_⟩,hn,λg e e2=> ?_⟩
 ·obtain⟨g,c,e,hc,BJ,n1,n2,hB⟩:=h3 i v L hv hL;refine⟨g,c,e,hc,⟨BJ.1,db BJ.2 hs⟩,n1,?_,hB.Qi hs (hg.block g BJ.2 λe=>n2 e.symm)⟩;rcases ho with e|e;·rw[e];exact n2
  ·rw[e];intro e2;injection e2 with e2;omega
 ·rcases ho with e3|e3;·exact h.ne g e (e3▸e2)
  ·rw[e3]at e2;injection e2 with e2;have:=(h1.lt g e).2;omega
theorem Fe(ls:List (An)):Lib.join ls []=ls.flatten:=by
 cases ls with
 | nil=>rfl
 | cons x r=>rw[Lib.join_cons];simp[Lib.joinTail]
theorem Ff(ls:List (An)):Lib.lens ls=ls.flatten.length:=by
 unfold Lib.lens;induction ls with
 | nil=>rfl
 | cons x r ih=>simp only[gy,List.sum_cons,tr,aG,ih]
def Yj(w:Lo)(L:An)(e:Ending)(w':Lo):Prop:=
 ∃A c,e= .returned (.slice A L.length c)/\(L.length<=c/\c<=9223372036854775807)/\Bytes w' A L/\Below w.heap.size w w'
theorem CV(b o i:Nat):(⟨b,o,none⟩:Addr).add i=⟨b,o+i,none⟩:=oa
def nE(w:Lo)(A:As)(ls:List (An)):Prop:=
 ls=[]\/ ∃b off,A=some ⟨b,off,none⟩/\b<w.heap.size/\ ∀k (h:k<ls.length),∃Ak ck,w.cell? ⟨b,off+k,none⟩=some (.slice Ak (ls[k]).length ck)/\(ls[k]).length<=ck/\ck<=9223372036854775807/\Bytes w Ak ls[k]
theorem nE.below(h:nE w A ls)(hb:Below w.heap.size w w'):nE w' A ls:=by
 rcases h with h|⟨b,off,rfl,aV,hc⟩
 ·exact .inl h
 ·refine .inr ⟨b,off,rfl,db aV hb.size,λk hk=> ?_⟩;obtain⟨Ak,ck,h1,h2,h3,h4⟩:=hc k hk;exact⟨Ak,ck,(hb.cell (p:=⟨b,off+k,none⟩) aV).trans h1,h2,h3,h4.below hb⟩
theorem nE.addr(h:nE w A ls)(hp:0<ls.length): ∃b off,A=some ⟨b,off,none⟩/\b<w.heap.size/\ ∀k (h:k<ls.length),∃Ak ck,w.cell? ⟨b,off+k,none⟩=some (.slice Ak (ls[k]).length ck)/\(ls[k]).length<=ck/\ck<=9223372036854775807/\Bytes w Ak ls[k]:=by
 rcases h with rfl|h;·simp at hp
 ·exact h
def qh(W:Lo)(v:Value)(L:An):Prop:= ∃A c,v= .slice A L.length c/\L.length<=c/\c<=9223372036854775807/\Bytes W A L
theorem qh.below{v:Value}(h:qh W v L)(hb:Below W.heap.size W W'):qh W' v L:=by obtain⟨A,c,e,h1,h2,h3⟩:=h;exact⟨A,c,e,h1,h2,h3.below hb⟩
theorem G8{α:Type}{l:List α}(h:i<l.length):l[i]? =some l[i]:=dS h
theorem KD{v:Value}(h1:aZ 22 base W v vs)(h2:vs.length=ls.length)(h3: ∀(i:Nat) u L,vs[i]? =some u->ls[i]? =some L->qh W u L):
  ∃A c,v= .slice A ls.length c/\(ls.length<=c/\c<=9223372036854775807)/\nE W A ls:=by
 rcases h1.form with⟨rfl,rfl⟩|⟨g,cap,rfl,_,hg,hc,hm,hcell⟩
 ·have:ls=[]:=mm h2.symm;subst this;exact⟨none,0,rfl,⟨aF _,ar⟩,.inl rfl⟩
 ·refine⟨_,cap,by rw[h2],⟨h2▸hc,hm⟩,.inr ⟨g,0,rfl,hg,λk hk=> ?_⟩⟩;obtain⟨A,c,e,q1,q2,q3⟩:=h3 k vs[k] ls[k] (G8 aa) (G8 hk);exact⟨A,c,by rw[Nat.zero_add,hcell k aa,e],q1,q2,q3⟩
theorem qs.lists(h:qs t base W vB vR Ls rs): ∃A c,vB= .slice A Ls.length c/\(Ls.length<=c/\c<=9223372036854775807)/\nE W A Ls:=by obtain⟨vs,h1,h2,h3⟩:=h.vs;refine KD h1 h2 λi u L hu hL=> ?_;obtain⟨g,c,e,hc,_,_,_,hB⟩:=h3 i u L hu hL;exact⟨_,c,e,hc.1,hc.2,hB⟩
theorem Own.CW{v:Value}(h:Own base w v l)(hp:0<l.length): ∃g c,v= .slice (some ⟨g,0,none⟩) l.length c/\(l.length<=c/\c<=9223372036854775807)/\(base<=g/\g<w.heap.size):=by
 obtain⟨A,c,rfl,h1,h2,hB⟩:=h.read;have hb:=h.ay;rcases h with⟨_,⟨e,_⟩|⟨g,cap,cur,e,_⟩⟩
 ·injection e with _ e _;omega
 ·injection e with e e2 e3;subst e;exact⟨g,c,rfl,⟨h1,h2⟩,hb g rfl⟩
theorem Fg{v:Value}(h:Lib.FreshBytes w.heap.size w' v L)(hb:Below w.heap.size w w'):Yj w L (.returned v) w':=by
 rcases Nat.eq_zero_or_pos L.length with h0|hp;·obtain⟨g,cap,zs,rfl,_,q1,q2,_⟩:=h;exact⟨_,cap,rfl,⟨q1,by unfold maxLen at q2;exact q2⟩,.inl (mm h0),hb⟩
 ·obtain⟨g',bW,rfl,q1,q2,q3,q4,q5⟩:=pQ h hp;exact⟨_,bW,rfl,⟨q1,q2⟩,q5.bytes q4,hb⟩
theorem afv{c:Nat}(h:nE W A Ls)(hc:Ls.length<=c)(_:c<=9223372036854775807)(hl:Ls.flatten.length<=100000000000)(hn:Ls.length<=1000000):
  Calls prog 24 #[.slice A Ls.length c,.slice none 0 0] W (Yj W Ls.flatten):=by
 rcases dN 1 Ls.length with h2|h2
 ·obtain⟨b,off,rfl,hb,hcell⟩:=h.addr aa;have hx: ∀k:Fin Ls.length,∃v,W.cell? ⟨b,off+k.1,none⟩=some v/\Lib.HoldsBytes W v Ls[k.1]:=λk=>by obtain⟨Ak,ck,k0,q1,q2,hB⟩:=hcell k.1 k.2;exact⟨_,k0,eo hB⟩
  have hP:Lib.PartsAt W ⟨b,off,none⟩ (List.ofFn λk:Fin Ls.length=>Classical.choose (hx k)) Ls:=by
   refine⟨List.length_ofFn,λi v hv=> ?_,λi v l hv hl=> ?_⟩
   ·rw[List.getElem?_ofFn]at hv;split at hv;·injection hv with hv;subst hv;rw[CV];exact(Classical.choose_spec (hx ⟨i,by assumption⟩)).1
    ·cases hv
   ·rw[List.getElem?_ofFn]at hv;split at hv
    ·rename_i hi;injection hv with hv;subst hv;rw[G8 hi]at hl;injection hl with hl;subst hl
     exact(Classical.choose_spec (hx ⟨i,hi⟩)).2
    ·cases hv
  refine(gM b off Ls.length c _ Ls (.slice none 0 0) [] W rfl h2 hP hc ⟨none,0,rfl,λ_=>rfl,λa e=>eK⟩ aa (by rw[Ff];simp only[List.length_nil,Nat.zero_mul,Nat.add_zero];omega)).mono ?_;rintro e w' ⟨v,rfl,hv,yE⟩;rw[Fe]at hv;exact Fg hv yE
 ·match Ls,h,hc,hl,h2 with
  | [],_,_,_,_=>
   refine(qm A c (.slice none 0 0) W).mono ?_;rintro e w' ⟨rfl,rfl⟩;exact⟨_,0,rfl,⟨aF _,ar⟩,.inl rfl,az⟩
  | [L],h,hc,hl,_=>
   obtain⟨b,off,rfl,hb,hcell⟩:=h.addr ah;obtain⟨Ak,ck,k0,q1,q2,hB⟩:=hcell 0 ah;simp only[tr,List.flatten_nil,iV,Nat.add_zero,List.getElem_cons_zero,el,List.length_nil,Nat.zero_add]at hl k0 hB ⊢;rcases Nat.eq_zero_or_pos L.length with h0|hp;·have:L=[]:=mm h0;subst this;refine(mu b off c Ak ck (.slice none 0 0) W k0).mono ?_;rintro e w' ⟨rfl,rfl⟩;exact⟨none,0,rfl,⟨aF _,ar⟩,.inl rfl,aP _ _⟩
   ·obtain⟨b2,KE,rfl,_,Lu⟩:=hB.addr hp;refine(qY b off c ⟨b2,KE,none⟩ ck L (.slice none 0 0) W k0 (λi x hx=> ?_) hp aa).mono ?_
    ·have hi:i<L.length:=by
      rcases dN i L.length with h|h;·exact h
      ·rw[qE h]at hx;cases hx
     rw[G8 hi]at hx;injection hx with hx;subst hx
     rw[CV];exact Lu i hi
    ·rintro e w' ⟨v,rfl,hv,yE⟩;exact Fg hv yE
  | _::_::_,_,_,_,h2=>simp at h2
theorem alE{A0 A1 A2 A3:As}{l0 l1 l2 l3:An}{c0 c1 c2 c3:Nat}(w:Lo)(h0:Bytes w A0 l0)(h1:Bytes w A1 l1)(h2:Bytes w A2 l2)(h3:Bytes w A3 l3)
  (k0:w.cell? ⟨g,0,none⟩=some (.slice A0 l0.length c0)) (k1:w.cell? ⟨g,1,none⟩=some (.slice A1 l1.length c1)) (k2:w.cell? ⟨g,2,none⟩=some (.slice A2 l2.length c2)) (k3:w.cell? ⟨g,3,none⟩=some (.slice A3 l3.length c3))
  (L:An) (hL:l0++(l1++(l2++l3))=L) (hl:L.length<=100000000000) (hp:0<L.length):
  Calls prog 24 #[.slice (some ⟨g,0,none⟩) 4 4,.slice none 0 0] w (yk w L):=by
 have hlen:l0.length+(l1.length+(l2.length+l3.length))=L.length:=by rw[<-hL];simp
 have hP:Lib.PartsAt w ⟨g,0,none⟩ [.slice A0 l0.length c0,.slice A1 l1.length c1,.slice A2 l2.length c2,.slice A3 l3.length c3] [l0,l1,l2,l3]:=by
  refine⟨rfl,λi v hv=> ?_,λi v l hv hl=> ?_⟩
  ·rw[CV,Nat.zero_add];match i with
   | 0=>simp at hv;subst hv;exact k0
   | 1=>simp at hv;subst hv;exact k1
   | 2=>simp at hv;subst hv;exact k2
   | 3=>simp at hv;subst hv;exact k3
   | i+4=>simp at hv
  ·match i with
   | 0=>simp at hv hl;subst hv;subst hl;exact eo h0
   | 1=>simp at hv hl;subst hv;subst hl;exact eo h1
   | 2=>simp at hv hl;subst hv;subst hl;exact eo h2
   | 3=>simp at hv hl;subst hv;subst hl;exact eo h3
   | i+4=>simp at hv
 refine(gM g 0 4 4 _ [l0,l1,l2,l3] (.slice none 0 0) [] w rfl aa hP aa ⟨none,0,rfl,λ_=>rfl,λa e=>eK⟩ aa (by rw[Ff];simp;omega)).mono ?_;rintro e w' ⟨v,rfl,hv,hb⟩;have ej:Lib.join [l0,l1,l2,l3] []=L:=by rw[Fe,<-hL];simp
 rw[ej]at hv;obtain⟨g',cap,rfl,q1,q2,q3,q4,q5⟩:=pQ hv hp;exact⟨g',cap,rfl,q1,q2,q3,q4,q5,hb⟩
section
open Go.ChangeShapes Go.WideShapes Go.ChangeAt Go.RowKit
theorem Oh{H:Type}{enc:TypeId×Value->H}{W:Lo}{b0:Nat}{v:Value}{d:DataW H}{p:List MemPlace}
  (hval:Value.okWide prog W .any b0 27 v) (h:DataW.Trod enc prog W 0 (λ_=>true) true 27 v d p):
  ∃(A:As) (ls:List (An)) (c:Nat),v= .slice A ls.length c/\ls.length<=c/\c<=9223372036854775807/\
   (ls=[]\/ ∃b off,A=some ⟨b,off,none⟩/\b<W.heap.size/\ ∀k (h:k<ls.length),∃Ak ck,W.cell? ⟨b,off+k,none⟩=some (.slice Ak (ls[k]).length ck)/\(ls[k]).length<=ck/\ck<=9223372036854775807/\Bytes W Ak ls[k]):=by
 obtain⟨fuel,hf⟩:=h;obtain⟨a0,len,cap,rfl⟩:=okWide_slice underlying27 hval;rcases Deep.open_int_rows underlying27 underlying22 underlying5 ak xA hf with⟨hcs,_⟩|⟨a,ahB,bW,A,L,C,Z,hcs,_,hl,hm,_,aY⟩
 ·simp[Value.cells]at hcs;obtain⟨rfl,rfl,rfl⟩:=hcs;exact⟨none,[],0,rfl,ah,aa,.inl rfl⟩
 ·simp[Value.cells]at hcs;obtain⟨rfl,rfl,rfl⟩:=hcs;unfold maxLen at hm;refine⟨some a,(List.range len).map λr=>((Z r).take (L r)).map (λn=>UInt8.ofNat n.toNat),cap,ah,aH,hm,?_⟩;rcases Nat.eq_zero_or_pos len with h0|sY;·subst h0;exact .inl ah
  ·obtain⟨b,off,spot⟩:=a;have vl:spot=none:=(by simpa [Addr.add]using World.cell?_spot (aY 0 aa).1);subst vl;have vr: ∀(b off k:Nat),(⟨b,off,none⟩:Addr).add k=⟨b,off+k,none⟩:=λb off k=>oa;refine .inr ⟨b,off,rfl,?_,λk hk=> ?_⟩;·have:=block_lt_of_cell (aY 0 aa).1;simpa [Addr.add]using this
   ·have hk':k<len:=(by simpa using hk);obtain⟨hc,lj,oT,hzl,hwz,sE,hcell⟩:=aY k aa;unfold maxLen at oT;rw[vr]at hc;have hlen:(((List.range len).map λr=>((Z r).take (L r)).map (λn=>UInt8.ofNat n.toNat))[k]).length=L k:=(by simp only[List.getElem_map,List.getElem_range,cX,eZ];omega);refine⟨A k,C k,by rw[hlen];exact hc,by rw[hlen];exact lj,oT,?_⟩;rcases Nat.eq_zero_or_pos (L k)with h0|hp;·exact .inl (mm (by rw[hlen];exact h0))
    ·cases hA:A k with
     | none=>have:=sE hA;omega
     | some a'=>
      obtain⟨b',zn,alF⟩:=a';have Oi:=(hcell _ hA).2;have vl:alF=none:=(by simpa [Addr.add]using World.cell?_spot (Oi 0 aa));subst vl;refine .inr ⟨b',zn,rfl,?_,λj hj=> ?_⟩;·have:=block_lt_of_cell (Oi 0 aa);simpa [Addr.add]using this
      ·have hj':j<L k:=(by rw[hlen]at hj;exact hj);have ei:=Oi j aa;have hw:=hwz ((Z k)[j]'aa) (lF _);have hb:0<=(Z k)[j]'aa/\(Z k)[j]'aa<256:=(by have h1:IntKind.u8.min=0:=rfl;have h2:IntKind.u8.max=255:=rfl;simp[Lit.wf]at hw;omega);rw[vr]at ei;rw[ei];have e:(Z k).getD j 0=(Z k)[j]'aa:=(by simp[List.getD,show j<(Z k).length by omega]);rw[e];simp only[List.getElem_map,List.getElem_range,List.getElem_take];congr 2;rw[fN];omega
end
theorem KJ(o:Op)(w:Lo)(hO:pR w o):Calls prog 25 #[o.v] w (mC o.iG w):=by
 have⟨W,hW⟩:=ex (w.alloc (.cells #[.int .i64 o.lc,.int .i64 o.lp,.int .i64 o.pb,.int .i64 o.nice,.int .i64 o.chunk,.int .i64 o.block,.int .i64 o.check,o.ch,.int .u32 o.dict] 26));obtain⟨aY,bZ⟩:=dI (vs:=eL o.lc o.lp o.pb o.nice o.chunk o.block o.check o.ch o.dict) hW;have HC:=ae (fun(W':Lo) (h:aq W W')=>cH (((h.block _ (bU aY)).trans aY)));have zk:=HC.out W (aP _ _);have H1:=ae (SW o.lc o.lp o.pb o.nice o.chunk o.block o.check o.ch o.dict W);have H2:=ae (fun(W':Lo) (h:aq W W')=>Sf o.A o.l o.c W' ((hO.oK.below bZ).below h) hO.few);have H3:=ae (fun(W':Lo)=>E6 o.check W');have HW:=ae hW;have cW:=ae bZ;have HR:Hid (o.iG=(lO o.lc o.lp o.pb o.nice o.chunk o.dict&&mI o.l&&decide (0<=uF o.check))):=ae (by
  unfold Op.iG uF;cases h:cQ o.check;·rfl
  ·simp)
 generalize lO o.lc o.lp o.pb o.nice o.chunk o.dict=b1 at*;generalize mI o.l=b2 at*;generalize uF o.check=b3 at*;generalize o.iG=b at*;clear aY hW bZ hO;go_enter func25,ntmps25;go_upto_region 1 with fail;rw[HW.out];go_wp2_with fail;refine H1.mono ?_;rintro e w1 ⟨rfl,aI⟩;have bF:=ae aI;clear aI zk;have zk:=HC.out w1 bF.out;go_wp2_with fail;refine(H2 w1 bF.out).mono ?_;rintro e w2 ⟨rfl,aK⟩;have dG:=ae (aQ bF.out aK);clear aK zk;have zk:=HC.out w2 dG.out;cases b1 with
 | false=>
  go_wp2;go_ret;exact⟨by rw[HR.out];rfl,aQ cW.out dG.out⟩
 | true=>
  cases b2 with
  | false=>
   go_wp2;go_ret;exact⟨by rw[HR.out];rfl,aQ cW.out dG.out⟩
  | true=>
   go_wp2_with fail;refine(H3 w2).mono ?_;rintro e w3 ⟨rfl,rfl⟩;have qy:=ae (show b=decide (0<=b3) by rw[HR.out];rfl);go_wp2;go_ret;exact⟨by rw[qy.out];rfl,aQ cW.out dG.out⟩
theorem iu(o:Op)(w:Lo)(hO:pR w o):Calls prog 13 #[o.v] w (mC (o.iG&&decide (1<=o.block)) w):=by
 have⟨W,hW⟩:=ex (w.alloc (.cells #[.int .i64 o.lc,.int .i64 o.lp,.int .i64 o.pb,.int .i64 o.nice,.int .i64 o.chunk,.int .i64 o.block,.int .i64 o.check,o.ch,.int .u32 o.dict] 26));obtain⟨aY,bZ⟩:=dI (vs:=eL o.lc o.lp o.pb o.nice o.chunk o.block o.check o.ch o.dict) hW;have HC:=ae (fun(W':Lo) (h:aq W W')=>cH ((h.block _ (bU aY)).trans aY));have zk:=HC.out W (aP _ _);have H1:=ae (CT o W (hO.below bZ));have HW:=ae hW;have cW:=ae bZ;clear aY hW bZ hO;generalize o.iG=b at*;go_enter func13,ntmps13;go_upto_region 1 with fail;rw[HW.out];go_wp2_with fail;refine H1.mono ?_;rintro e w1 ⟨rfl,aI⟩;have bF:=ae aI;clear aI zk;have zk:=HC.out w1 bF.out;cases b with
 | false=>
  go_wp2;go_ret;exact⟨rfl,aQ cW.out bF.out⟩
 | true=>
  have hE:Hid (decide (((1:Int))<=(o.block))=decide (1<=o.block)):=ae (by by_cases h:1<=o.block<;>simp[h]<;>omega);go_wp2;go_ret;exact⟨by first|rfl|(rw[<-hE.out];rfl),aQ cW.out bF.out⟩
theorem za(o:Op)(w:Lo)(hO:pR w o):Calls prog 12 #[o.v] w (mC (o.iG&&decide (1<=o.block)) w):=by
 have⟨W,hW⟩:=ex (w.alloc (.cells #[.int .i64 o.lc,.int .i64 o.lp,.int .i64 o.pb,.int .i64 o.nice,.int .i64 o.chunk,.int .i64 o.block,.int .i64 o.check,o.ch,.int .u32 o.dict] 26));obtain⟨aY,bZ⟩:=dI (vs:=eL o.lc o.lp o.pb o.nice o.chunk o.block o.check o.ch o.dict) hW;have HC:=ae (fun(W':Lo) (h:aq W W')=>cH ((h.block _ (bU aY)).trans aY));have zk:=HC.out W (aP _ _);have H1:=ae (KJ o W (hO.below bZ));have HW:=ae hW;have cW:=ae bZ;clear aY hW bZ hO;generalize o.iG=b at*;go_enter func12,ntmps12;go_upto_region 1 with fail;rw[HW.out];go_wp2_with fail;refine H1.mono ?_;rintro e w1 ⟨rfl,aI⟩;have bF:=ae aI;clear aI zk;have zk:=HC.out w1 bF.out;cases b with
 | false=>
  go_wp2;go_ret;exact⟨rfl,aQ cW.out bF.out⟩
 | true=>
  have hE:Hid (decide (((0:Int))<(o.block))=decide (1<=o.block)):=ae (by by_cases h:1<=o.block<;>simp[h]<;>omega);go_wp2;go_ret;exact⟨by first|rfl|(rw[<-hE.out];rfl),aQ cW.out bF.out⟩
def zc(n:Nat):Nat->List UInt8->List (An)
 | 0,_=>[]
 | f+1,D=>if D.length=0 then []else D.take n::zc n f (D.drop n)
def eG(n:Nat)(D:An):List (An):=zc n D.length D
theorem C1(n:Nat)(hn:1<=n): ∀(f g:Nat) (D:An),D.length<=f->D.length<=g->zc n f D=zc n g D
 | 0,0,D,_,_=>rfl
 | 0,g+1,D,h,_=>by unfold zc;rw[ax aa]
 | f+1,0,D,_,h=>by unfold zc;rw[ax aa]
 | f+1,g+1,D,h1,h2=>by
  unfold zc;by_cases hp:D.length=0;·rw[ax hp,ax hp]
  ·rw[au hp,au hp,C1 n hn f g _ iA iA]
theorem oM(hn:1<=n)(h:D.length≠0):eG n D=D.take n::eG n (D.drop n):=by
 unfold eG;obtain⟨f,hf⟩: ∃f,D.length=f+1:=⟨D.length-1,aa⟩
 rw[hf];conv=>lhs;unfold zc
 rw[au h,C1 n hn f (D.drop n).length _ iA (aF _)]
theorem C4(h:D.length=0):eG n D=[]:=by unfold eG;rw[h];rfl
theorem wR(hn:1<=n)(p:List UInt8->List (An)->Prop)(h0:p [] [])(h1: ∀D,D.length≠0->p (D.drop n) (eG n (D.drop n))->p D (D.take n::eG n (D.drop n))): ∀(f:Nat) (D:An),D.length<=f->p D (eG n D)
 | f,D,hf=>by
  by_cases h:D.length=0;·have:D=[]:=mm h;subst this;exact h0
  ·rw[oM hn h];match f,hf with
   | 0,hf=>omega
   | f+1,hf=>exact h1 D h (wR hn p h0 h1 f _ iA)
theorem ym(hn:1<=n)(D:An):(eG n D).flatten=D:=
 wR hn (λD l=>l.flatten=D) rfl (λD _ ih=>by rw[tr,ih,OQ]) _ D (aF _)
theorem mP(hn:1<=n)(D:An):(eG n D).length<=D.length:=
 wR hn (λD l=>l.length<=D.length) (aF _) (λD h ih=>by rw[fZ]at ih;rw[el];omega) _ D (aF _)
theorem Yq(hn:1<=n)(D:An): ∀P∈eG n D,1<=P.length/\P.length<=D.length:=
 wR hn (λD l=> ∀P∈l,1<=P.length/\P.length<=D.length) ah (λD h ih P hP=>by
  rcases List.mem_cons.1 hP with rfl|hP;·rw[eZ];omega
  ·have:=ih P hP;rw[fZ]at this;omega) _ D (aF _)
def lD:List UInt8->Nat
 | []=>0
 | b::l=>if b=0 then lD l+1 else 0
theorem KK(l:An)(n:Nat)(h:lD (l.drop n)+n=lD l)(hn:n<=l.length):(n<l.length/\l.getD n 0=0->lD (l.drop (n+1))+(n+1)=lD l)/\(¬(n<l.length/\l.getD n 0=0)->lD l=n):=by
 by_cases hl:n<l.length
 ·have e:l.drop n=l[n]::l.drop (n+1):=List.drop_eq_getElem_cons hl;have g:l.getD n 0=l[n]:=by rw[qD,dS hl];rfl
  have h2:lD (l[n]::l.drop (n+1))=if l[n]=0 then lD (l.drop (n+1))+1 else 0:=rfl;rw[e,h2]at h;rw[g];constructor;·rintro⟨_,h0⟩;rw[h0,ax rfl]at h;omega
  ·intro h0;rw[au (λhh=>h0 ⟨hl,hh⟩)]at h;omega
 ·constructor;·rintro⟨h1,_⟩;exact absurd h1 hl
  ·intro _;rw[pT aa]at h;have h2:lD []=0:=rfl;rw[h2]at h;omega
theorem KL(k:ip)(A:As)(c:Nat): ∀(l:List (Nat×Nat)) (z:gF×Bool),cV {k with A:=A,cD:=c} l z=cV k l z
 | [],_=>rfl
 | x::l,z=>by have h:=KL k A c l (a7 k x.1 x.2 z.1 z.2).2;show((a7 k x.1 x.2 z.1 z.2).1++(cV {k with A:=A,cD:=c} l (a7 k x.1 x.2 z.1 z.2).2).1,(cV {k with A:=A,cD:=c} l (a7 k x.1 x.2 z.1 z.2).2).2)=_;rw[h];rfl
theorem Qj(k:ip)(A:As)(c:Nat):mH {k with A:=A,cD:=c}=mH k:=by unfold mH;exact aR (λz:List UInt8×gF×Bool=>z.1++[0]) (KL k A c _ _)
def Op.k(o:Op)(D:An):ip:=⟨none,D,0,o.lc.toNat,o.lp.toNat,o.pb.toNat,o.nice,o.chunk,o.block,o.check,o.ch,o.dict,0⟩
def Op.packed(o:Op)(D:An):List UInt8:=mH (o.k (ew o.l D))
def Op.head(o:Op)(D:An):jf:=⟨(o.packed D).length,D.length,o.l,bt (dx o.dict)⟩
def Op.uM(o:Op)(D:An):List UInt8:=mX (o.head D)++o.packed D
def Op.aE(o:Op)(D:An):List UInt8:=o.uM D++(List.replicate (bj (o.uM D).length) 0++eN o.check D)
def Op.rc(o:Op)(D:An):Nat×Nat:=((o.uM D).length+dg o.check,D.length)
abbrev Ol(r:Nat×Nat):Value:= .agg #[.int .i64 r.1,.int .i64 r.2]
theorem least(p:Nat->Prop) [DecidablePred p]: ∀n,p n-> ∃k,k<=n/\p k/\ ∀j,j<k-> ¬p j
 | 0,h=>⟨0,aF _,h,λ_ hj=>absurd hj (Nat.not_lt_zero _)⟩
 | n+1,h=>by
  by_cases hn: ∃j,j<=n/\p j;·obtain⟨j,hj,hp⟩:=hn;obtain⟨k,hk,h1,h2⟩:=least p j hp;exact⟨k,aa,h1,h2⟩
  ·exact⟨n+1,aF _,h,λj hj hp=>hn ⟨j,aa,hp⟩⟩
theorem Om(k:Nat)(h:k<=40):dx (bt k)=k:=rX _ _ h (aF _) λj hj=>uH j k hj h
theorem Fk(d:Nat)(h:d<=67108864):d<=bt (dx d)/\bt (dx d)<=67108864:=by
 have e28:bt 28=67108864:=ar;obtain⟨k,hk,h1,h2⟩:=least (λk=>d<=bt k) 28 (by show d<=bt 28;rw[e28];exact h);rw[rX d k aa h1 (λj hj=>Nat.lt_of_not_le (h2 j hj))];refine⟨h1,?_⟩;rcases dN k 28 with hl|hl;·have:=uH k 28 hl aa;omega
 ·have:k=28:=by omega
  subst this;rw[e28];exact aF _
structure Op.Ok(o:Op):Prop where
 lc:0<=o.lc/\o.lc<=4
 lp:0<=o.lp/\o.lp<=4
 pb:0<=o.pb/\o.pb<=4
 JY:o.lc+o.lp<=4
 nice:2<=o.nice/\o.nice<=273
 chunk:1<=o.chunk/\o.chunk<=65536
 dict:4096<=o.dict/\o.dict<=67108864
 may:mI o.l=true
 check:cQ o.check=true
theorem Op.Ok.of{o:Op}(h:o.iG=true):o.Ok:=by unfold Op.iG lO ro at h;simp only[tw,AJ]at h;obtain⟨⟨⟨p1,p2,p3,p4⟩,p5⟩,p6⟩:=h;exact⟨aa,aa,aa,aa,p2,p3,p4,p5,p6⟩
theorem KM(l:List eF)(h:mI l=true):l.all eI=true/\l.length<=3:=by unfold mI at h;rw[tw,AJ]at h;exact⟨h.2,h.1⟩
theorem Op.Ok.pko{o:Op}(h:o.Ok)(D:An)(A:As)(c:Nat):PkO {o.k D with A:=A,cD:=c} o.v:=by
 have h1:=h.lc;have h2:=h.lp;have h3:=h.pb;have h4:=h.JY;refine⟨?_,?_,?_,?_,?_,h.nice,h.chunk,h.dict⟩;·show BK o.lc o.lp o.pb o.nice o.chunk o.block o.check o.ch o.dict=BK (o.lc.toNat:Int) (o.lp.toNat:Int) (o.pb.toNat:Int) o.nice o.chunk o.block o.check o.ch o.dict;rw[Int.toNat_of_nonneg h1.1,Int.toNat_of_nonneg h2.1,Int.toNat_of_nonneg h3.1]
 ·show o.lc.toNat<=4;omega
 ·show o.lp.toNat<=4;omega
 ·show o.pb.toNat<=4;omega
 ·show o.lc.toNat+o.lp.toNat<=4;omega
theorem Op.Ok.afz{o:Op}(h:o.Ok):1<=o.chunk.toNat:=av h.chunk
theorem Op.pS{o:Op}(h:o.Ok)(D:An):1<=(o.packed D).length/\(o.packed D).length<=4*D.length+1:=by have h1:=Oj (k:=o.k (ew o.l D)) h.afz;have h2:(o.k (ew o.l D)).D.length=D.length:=dJ _ _;rw[h2]at h1;exact⟨by unfold Op.packed mH;rw[aG];simp,h1⟩
theorem Op.jk{o:Op}(h:o.Ok)(D:An)(hD:D.length<=100000):(o.head D).ok/\kL (o.head D)=true:=by
 have hp:=o.pS h D;have hd:=Fk o.dict h.dict.2;refine⟨?_,?_⟩;·show -9223372036854775808<=((o.packed D).length:Int)/\((o.packed D).length:Int)<=9223372036854775807/\ -9223372036854775808<=(D.length:Int)/\(D.length:Int)<=9223372036854775807/\bt (dx o.dict)<4294967296;omega
 ·show(uJ ((o.packed D).length:Int) (D.length:Int)&&mI o.l&&wJ (bt (dx o.dict)))=true;rw[h.may];unfold uJ wJ;rw[Om _ (rY _)];simp;omega
theorem Op.C6{o:Op}(h:o.Ok)(D:An)(hD:D.length<=100000)(hf: ∀f∈o.l,f.ok):(mX (o.head D)).length<=128/\(mX (o.head D)).length%4=0:=by obtain⟨h1,h2⟩:=o.jk h D hD;obtain⟨e1,e2,e3,_⟩:=nF (o.head D) h1 hf h2;have e4:=wS (o.head D) h1 hf h2;have e5:(iX (dy (o.head D))).length<=(dy (o.head D)).length+3:=OZ;rw[e1];omega
theorem asE(h:W.heap[b]? =some (.cells [x,y,z,u].toArray t (0,0))):W.cell? ⟨b,0,none⟩=some x/\W.cell? ⟨b,1,none⟩=some y/\W.cell? ⟨b,2,none⟩=some z/\W.cell? ⟨b,3,none⟩=some u:=
 ⟨kP,kP,kP,kP⟩
def afA(w:Lo)(L:An)(r:Nat×Nat)(e:Ending)(w':Lo):Prop:= ∃g c,e= .returned (.tuple #[.slice (some ⟨g,0,none⟩) L.length c,Ol r,.int .i64 0])/\L.length<=c/\c<=9223372036854775807/\(w.heap.size<=g/\g<w'.heap.size)/\l8 w' g L/\Below w.heap.size w w'
theorem C7{us:List Value}{s:TypeId}(h:(w.alloc (.cells vs.toArray t)).alloc (.cells us.toArray s)=W):
  W.heap[w.heap.size]? =some (.cells vs.toArray t (0,0))/\W.heap[w.heap.size+1]? =some (.cells us.toArray s (0,0))/\Below w.heap.size w W/\W.heap.size=w.heap.size+2:=by
 subst h;have hb:Below (w.alloc (.cells vs.toArray t)).heap.size (w.alloc (.cells vs.toArray t)) ((w.alloc (.cells vs.toArray t)).alloc (.cells us.toArray s)):=az;refine⟨(hb.block _ ah).trans (heap_alloc_new w _),?_,(az).alloc ah _,ah⟩;have:=heap_alloc_new (w.alloc (.cells vs.toArray t)) (.cells us.toArray s);simpa using this
theorem kd(h:W.heap[b]? =some (.cells [x,y].toArray t (0,0))):W.cell? ⟨b,0,none⟩=some x/\W.cell? ⟨b,1,none⟩=some y/\ ∀i,W.frozen? ⟨b,i,none⟩=false:=
 ⟨kP,kP,λ_=>aS _ _ _ _ _ h⟩
def SS(R X N:Nat)(W:Lo):Prop:=R<W.heap.size/\W.cell? ⟨R,0,none⟩=some (.int .i64 X)/\W.cell? ⟨R,1,none⟩=some (.int .i64 N)
theorem SS.below(h:SS R X N W)(hb:Below W.heap.size W W'):SS R X N W':=⟨db h.1 hb.size,(hb.cell (p:=⟨R,0,none⟩) h.1).trans h.2.1,(hb.cell (p:=⟨R,1,none⟩) h.1).trans h.2.2⟩
theorem SS.set(h:SS R X N W)(hb:b≠R):SS R X N (W.setCell ⟨b,i,none⟩ u):=by have e:(W.setCell ⟨b,i,none⟩ u).heap[R]? =W.heap[R]? :=af _ _ _ _ (λe=>hb e.symm);exact⟨by simpa using h.1,(f5 (a:=⟨R,0,none⟩) e).trans h.2.1,(f5 (a:=⟨R,1,none⟩) e).trans h.2.2⟩
theorem Op.On(o:Op)(D:An):o.uM D++List.replicate (bj (o.uM D).length) 0++eN o.check D=o.aE D:=by unfold Op.aE;rw[eY]
theorem Op.C8(o:Op)(D:An):(o.aE D).length=(o.uM D).length+bj (o.uM D).length+dg o.check:=by rw[<-o.On,aG,aG,iH,fy]
theorem l8.set(h:l8 w g L)(hb:b≠g):l8 (w.setCell ⟨b,i,none⟩ u) g L:=λj hj=>by have e:(w.setCell ⟨b,i,none⟩ u).heap[g]? =w.heap[g]? :=af _ _ _ _ (λe=>hb e.symm);obtain⟨h1,h2⟩:=h j hj;refine⟨(f5 (a:=⟨g,j,none⟩) e).trans h1,?_⟩;rw[<-h2];unfold World.frozen?;simp only[e]
theorem Oo(o:Op)(A:As)(D:An)(c:Nat)(w:Lo)(hf:o.iG=true)(hO:pR w o)(Fb: ∀f∈o.l,f.ok)(hT:jx w)(hB:Bytes w A D)(hc:D.length<=c)(hm:c<=9223372036854775807)(hl:D.length<=100000):
  Calls prog 20 #[.slice A D.length c,o.v] w (afA w (o.aE D) (o.rc D)):=by
 have bK:=Op.Ok.of hf;obtain⟨dZ,h3⟩:=KM _ bK.may;have⟨W,hW⟩:=ex ((w.alloc (.cells #[.int .i64 o.lc,.int .i64 o.lp,.int .i64 o.pb,.int .i64 o.nice,.int .i64 o.chunk,.int .i64 o.block,.int .i64 o.check,o.ch,.int .u32 (o.dict:Nat)] 26)).alloc (.cells #[.int .i64 0,.int .i64 0] 51));obtain⟨aY,iW,bZ,S8⟩:=C7 (vs:=eL o.lc o.lp o.pb o.nice o.chunk o.block o.check o.ch o.dict) (us:=[.int .i64 0,.int .i64 0]) hW;have HC:=ae (fun(W':Lo) (h:aq W W')=>cH (o:=o) ((h.block _ (bU aY)).trans aY));have zE:=ae (fun(W':Lo) (h:aq W W')=>(h.block _ (bU iW)).trans iW);have HRC:=ae (fun(W':Lo) (h:aq W W')=>kd ((h.block _ (bU iW)).trans iW));have zk:=HC.out W (aP _ _);have sQ:=ae (CT o W (hO.below bZ));have Q7:=ae (fun(W':Lo) (h:aq W W')=>Nw o.A o.l o.c W' ((hO.oK.below bZ).below h) hO.few dZ bK.may A D c ((hB.below bZ).below h) aa);have afB:=ae (fun(W':Lo) (h:aq W W')=>pL o.check A D c W' ((hT.below bZ).below h) ((hB.below bZ).below h) hc hm aa);have TX:=ae (fun(A1:As) (c1:Nat) (W':Lo) (hb:Bytes W' A1 (ew o.l D)) (hA: ∀a,A1=some a->a.block<W'.heap.size) (dE:D.length<=c1)=>by
  have h:=RK {o.k (ew o.l D)with A:=A1,cD:=c1} o.v W' (bK.pko _ _ _) hb hA (by show(ew o.l D).length<=c1;rw[dJ];exact dE) (by show(ew o.l D).length<=100000;rw[dJ];exact hl);rw[Qj]at h;exact(show Calls prog 35 #[.slice A1 (ew o.l D).length c1,o.v] W' (Cr W' (o.packed D))from h))
 have tx:=ae (o.pS bK D);have Qk:Hid (∀W':Lo,aq W W'->Calls prog 36 #[.agg #[.int .i64 ((o.packed D).length:Nat),.int .i64 D.length,.slice o.A o.l.length o.c,.int .u32 (bt (dx o.dict):Nat)]] W' (Cr W' (mX (o.head D)))):=ae (λW' h=>by
  refine(show Calls prog 36 #[.agg #[.int .i64 ((o.packed D).length:Nat),.int .i64 D.length,.slice o.A o.l.length o.c,.int .u32 (bt (dx o.dict):Nat)]] W' (Fc W' (o.head D))from SR (o.head D) (o.jk bK D hl).1 o.A o.c W' ((hO.oK.below bZ).below h) Fb (by show o.l.length<=20;omega)).mono ?_;rintro e w' (⟨_,v,rfl,h1,h2⟩|⟨h,_⟩);·exact⟨v,rfl,h1,h2⟩
  ·rw[(o.jk bK D hl).2]at h;cases h)
 have PR:=ae (o.C6 bK D hl Fb);have Qf:=ae (fun(W':Lo)=>wH o.dict hO.dict W');have Rt:Hid (∀W':Lo,Calls prog 37 #[.int .i64 (dx o.dict:Nat)] W' λe w'=>e= .returned (.int .u32 (bt (dx o.dict):Nat))/\W'=w'):=ae (λW'=>by
  have h:=XR (dx o.dict:Nat) W';rw[au aa,Int.toNat_natCast]at h;exact h)
 have HW:=ae hW;have cW:=ae bZ;have HZ:=ae S8;have HD:=ae hl;have hDi:(D.length:Int)<=100000:=aa;have lj:o.l.length<=3:=h3;rw[hf]at sQ;clear aY iW hW bZ S8 hO bK dZ hT hB hf h3;go_enter func20,ntmps20;go_upto_region 1 with fail;rw[HW.out];clear HW;go_wp2_with fail;refine sQ.mono ?_;rintro e w1 ⟨rfl,aI⟩;have bF:=ae aI;clear aI zk;have zk:=HC.out w1 bF.out;go_wp2_with fail;refine(Q7 w1 bF.out).mono ?_;rintro e w2 ⟨v2,rfl,dz,aK⟩;have dG:=ae (aQ bF.out aK);obtain⟨A2,c2,rfl,ei,fm,fq⟩:=dz.read;have hA2: ∀a,A2=some a->a.block<w2.heap.size:=λa ha=>(dz.ay a.block (by rw[ha];rfl)).2;have hP:=TX.out A2 c2 w2 fq hA2 (by rw[dJ]at ei;exact ei);have xc:(ew o.l D).length=D.length:=dJ _ _;have HP:=ae hP;clear hP aK dz ei fm fq hA2 zk;have zk:=HC.out w2 dG.out;rw[xc];rw[xc]at HP;clear xc;go_wp2_with fail;refine HP.mono ?_;rintro e w3 ⟨v3,rfl,dU,bm⟩;have ft:=ae (aQ dG.out bm);obtain⟨A3,c3,rfl,ju,tl,iP⟩:=dU.read;have H3:=ae (ap iP (ap ju tl));clear bm HP dU ju tl iP zk;have zk:=HC.out w3 ft.out;have HQ:Hid (∀W':Lo,aq w3 W'->W'.cell? ⟨w.heap.size,7,none⟩=some (.slice o.A o.l.length o.c)/\W'.cell? ⟨w.heap.size,8,none⟩=some (.int .u32 (o.dict:Nat))):=ae (λW' h=>by
  obtain⟨_,_,_,_,_,_,_,q7,q8⟩:=HC.out W' (aQ ft.out h);exact⟨q7,q8⟩)
 have bu:=cT w3;obtain⟨PL,Zl⟩: ∃n,(o.packed D).length=n:=⟨_,rfl⟩
 have afC:(PL:Int)<=400001:=by have:=tx.out;have:=HD.out;omega
 rw[Zl]at Qk ⊢;have aaY:=ae Zl;clear Zl zk;go_upto_region 9 with fail;refine wp_region_held_drew (S:=λW=>aq w3 W) ak bu (λhS=> ?_);refine ag 0 hS (h:=ag 1 hS (h:=ag 2 hS (h:=ag 3 hS (h:=ag 4 hS (h:=bx 5 rfl (λw hSw=>by have q:=(HQ w hSw).1;go_simp;all_goals(with_reducible rfl)) hS (h:=ag 6 hS (h:=bx 7 rfl (λw hSw=>by have q:=(HQ.out w hSw).2;go_simp;all_goals(with_reducible rfl)) hS (h:= ?_))))))));refine aO 8 (λK hK=> ?_);go_simp;refine(Qf _).mono ?_;rintro e x8 ⟨rfl,rfl⟩;go_wp2_with fail;refine hK _ _ bu (λ_=> ?_);clear hK K;refine aO 9 (λK hK=> ?_);go_simp;refine(Rt _).mono ?_;rintro e x9 ⟨rfl,rfl⟩;go_wp2_with fail;refine hK _ _ bu (λ_=> ?_);clear hK K;refine ag 10 bu (h:= ?_);refine aO 11 (λK hK=> ?_);go_simp;refine(Qk _ (aQ ft.out bu)).mono ?_;rintro e x11 ⟨v4,rfl,bM,bc⟩;have g11:aq w3 x11:=bu.trans bc;have H4:=ae (ap (show Own w3.heap.size x11 v4 (mX (o.head D))from bM) g11);clear bM bc;go_wp2_with fail;refine hK _ _ g11 (λ_=> ?_);clear hK K;refine ag 12 g11 (h:=ag 13 g11 (h:=ag 14 g11 (h:=ag 15 g11 (h:=ag 16 g11 (h:= ?_)))));refine wpAnyH_done ak ?_ _;clear hS bu g11 HQ Qk;have fJ:=ae (aQ ft.out H4.2);go_upto_region 13 with(at_builtin;refine aj rfl (.tmp 58) (.tmp 59) rfl w3.heap.size x11 v4 (mX (o.head D)) rfl H4.1 A3 (o.packed D) c3 (by rw[aaY.out];rfl) (H3.1.below H4.2) (by have:=PR.out;have:=tx.out;have:=HD.out;omega) H4.2.size ?_;intro v5 w5 gU ig;have H5:=ae (ap gU (am H4.2 ig H4.2.size (λg e=>(H4.1.ay g e).1)));clear gU ig)
 obtain⟨A5,c5,rfl,vU,yY,pM⟩:=H5.1.read;have pX:=ae (aQ ft.out H5.2);have H5b:=ae (ap pM (ap vU yY));obtain⟨U,hU⟩: ∃n,(mX (o.head D)++o.packed D).length=n:=⟨_,rfl⟩
 have HU:=ae (show(o.uM D).length=U from hU);have hUi:(U:Int)<=401000:=by have:=PR.out;have:=tx.out;have:=HD.out;rw[aG]at hU;omega
 rw[hU];clear hU pM vU yY;have zk:=HC.out w5 pX.out;go_wp2_with fail;refine(afB w5 pX.out).mono ?_;rintro e w6 ⟨A6,c6,rfl,Zx,hm6,zG,oq⟩;have ul:=ae (aQ pX.out oq);have H56:=ae oq;have H6:=ae (ap zG (ap Zx hm6));have dF:(eN o.check D).length=dg o.check:=fy _ _;have D_:dg o.check<=32:=by unfold dg;repeat (first|omega|split)
 rw[dF];obtain⟨Z,hZ⟩: ∃n,dg o.check=n:=⟨_,rfl⟩
 rw[hZ]at dF D_ ⊢;have Wy:=ae (ap hZ dF);obtain⟨X,hX⟩: ∃n,U+Z=n:=⟨_,rfl⟩
 have zw:(U:Int)+(Z:Int)=X:=aa;have hXi:(X:Int)<=402000:=aa;have HX:=ae hX;clear hX;clear oq Zx hm6 zG dF hZ zk;go_upto_region 15 with fail;obtain⟨w7,hw7⟩: ∃W',w6.alloc (.cells #[.int .i64 X,.int .i64 D.length] 51)=W':=⟨_,rfl⟩
 obtain⟨Ql,Fd⟩:=dI (vs:=[.int .i64 X,.int .i64 D.length]) hw7;rw[hw7];have hS7:SS w6.heap.size X D.length w7:=⟨(bU Ql),(kd Ql).1,(kd Ql).2.1⟩
 have Dj:=ae (aQ ul.out Fd);have asG:=ae Fd;have HUN:=ae (show U<=1000000000 by omega);have zm:=ae (show w.heap.size+1<W.heap.size by have:=HZ.out;omega);have Gk:=ae (show w.heap.size+1≠w6.heap.size by have:=zm.out;have:=ul.size;omega);have bu:=cT w7;have PY:=ae hS7;obtain⟨z,hz⟩: ∃n,bj U=n:=⟨_,rfl⟩
 have HZ3:=ae (show z<=3 by rw[<-hz];unfold bj;omega);have hzr:=λw=>yZ U HUN.out w;rw[hz]at hzr;have HZR:=ae hzr;have HJ:=ae (fun(g8:Nat) (W8 W9:Lo) (h8:aq w7 W8) (ho:Own w7.heap.size W8 (.slice (some ⟨g8,0,none⟩) z z) (List.replicate z 0)) (h9:W8.alloc (.cells #[.slice A5 U c5,.slice (some ⟨g8,0,none⟩) z z,.slice A6 Z c6] 22)=W9)=>(show Calls prog 24 #[.slice (some ⟨W8.heap.size,0,none⟩) 3 3,.slice none 0 0] W9 (yk W9 (o.aE D))from by
  obtain⟨r9,b9⟩:=dI (vs:=[.slice A5 U c5,.slice (some ⟨g8,0,none⟩) z z,.slice A6 Z c6]) h9;have h79:aq w7 W9:=aQ h8 b9;have h69:=aQ asG.out h79;have h59:=aQ H56.out h69;have hl:=o.On D;have eX:(o.aE D).length=U+z+Z:=by rw[<-hl,aG,aG,iH,HU.out,hz,Wy.2]
  refine Yf (l0:=o.uM D) (l1:=List.replicate z 0) (l2:=eN o.check D) (c0:=c5) (c1:=z) (c2:=c6) W9 (H5b.1.below h59) ((sg ho).below b9) (H6.1.below h69) ?_ ?_ ?_ (o.aE D) (by rw[<-hl,HU.out,hz]) (by rw[eX];have:=HZ3.out;omega) (by rw[eX];have:=PR.out;have:=tx.out;have:=HU.out;unfold Op.uM at this;rw[aG]at this;omega);·rw[HU.out,aC W9 _ _ _ _ _ r9];rfl
  ·rw[iH,aC W9 _ _ _ _ _ r9];rfl
  ·rw[Wy.2,aC W9 _ _ _ _ _ r9];rfl))
 have HBL:Hid ((o.aE D).length=(o.aE D).length):=ae rfl;clear Ql hw7 Fd hz hzr hS7 hUi hXi zw D_ afC hDi;refine wp_region_held_drew (S:=SS w6.heap.size X D.length) ak (PY.below bu) (λhS=> ?_);refine ag 0 hS (h:=ag 1 hS (h:=ag 2 hS (h:=ag 5 hS (h:=bx 8 rfl (λw hSw=>by obtain⟨_,q0,q1⟩:=hSw;go_simp;all_goals(with_reducible rfl)) hS (h:= ?_)))));refine aO 3 (λK hK=> ?_);go_simp;refine(HZR _).mono ?_;rintro e x3 ⟨rfl,rfl⟩;go_wp2_with fail;refine hK _ _ (PY.below bu) (λ_=> ?_);clear hK K;refine aO 4 (λK hK=> ?_);refine jr rfl (.tmp 76) (.tmp 76) rfl w7.heap.size z w7.drew rfl rfl (av HZ3.out) (aF _) ?_;intro w8 qA J1;have g8:aq w7 w8:=bu.trans (am (aP _ _) J1 (aF _) (λg e=>eK));have H8:=ae (ap qA g8);clear qA J1;refine en ?_;refine hK _ _ (PY.below g8) (λ_=> ?_);clear hK K;refine aO 6 (λK hK=> ?_);go_simp;obtain⟨w9,QJ⟩: ∃W',w8.alloc (.cells #[.slice A5 U c5,.slice (some ⟨w7.heap.size,0,none⟩) z z,.slice A6 Z c6] 22)=W':=⟨_,rfl⟩
 rw[QJ];have HJ9:=ae (HJ _ _ _ H8.2 H8.1 QJ);have g9:aq w7 w9:=g8.trans ((dI (vs:=[.slice A5 U c5,.slice (some ⟨w7.heap.size,0,none⟩) z z,.slice A6 Z c6]) QJ).2.mono g8.size);clear QJ;refine hK _ _ (PY.below g9) (λ_=> ?_);clear hK K;refine aO 7 (λK hK=> ?_);go_simp;refine HJ9.mono ?_;rintro e RF ⟨g,cap,rfl,y1,y2,y3,y4,y5,y6⟩;have g10:aq w7 RF:=aQ g9 y6;have Y7:=ae (ap y1 (ap y2 (ap (a8 g9.size y3) (ap y4 y5))));have DZ:=aQ Dj.out g10;have rF:=ae DZ;have aaZ:=ae (PY.below g10);obtain⟨x0,x1,xf⟩:=HRC.out RF DZ;have xf0:=xf 0;have xf1:=xf 1;clear y1 y2 y3 y4 y5 y6 DZ xf;go_wp2_with fail;refine hK _ _ aaZ.out (λ_=> ?_);clear hK K;refine ag 9 aaZ.out (h:= ?_);refine aO 10 (λK hK=> ?_);go_simp;refine hK _ _ ((aaZ.set Gk.out).set Gk.out) (λ_=> ?_);clear hK K;refine ag 11 ((aaZ.set Gk.out).set Gk.out) (h:= ?_);refine wpAnyH_done ak ?_ _;clear x0 x1 xf0 xf1 hS bu g8 g9 g10;obtain⟨e0,e1,_⟩:=kd (heap_set (heap_set (zE RF rF.out) 0 (.int .i64 X)) 1 (.int .i64 D.length));have HRV:=ae (show Ol (o.rc D)= .agg #[.int .i64 X,.int .i64 D.length] by rw[<-HX.out,<-HU.out,<-Wy.1];rfl);have Y8:w.heap.size+1≠g:=O0;have HG:=ae (show w.heap.size<=g/\g<((RF.setCell ⟨w.heap.size+1,0,none⟩ (.int .i64 X)).setCell ⟨w.heap.size+1,1,none⟩ (.int .i64 D.length)).heap.size from⟨O0,by simpa using Y7.2.2.2.1⟩);have Ht:=ae ((Y7.2.2.2.2.set (i:=0) (u:= .int .i64 X) Y8).set (i:=1) (u:= .int .i64 D.length) Y8);have Yh:=ae (cN (p:=⟨w.heap.size+1,1,none⟩) (cN (p:=⟨w.heap.size+1,0,none⟩) (aQ cW.out rF.out) ah (.int .i64 X)) ah (.int .i64 D.length));clear Y8;go_wp2_with fail;exact bA (v:= .tuple #[.slice (some ⟨g,0,none⟩) (o.aE D).length cap,.agg #[.int .i64 X,.int .i64 D.length],.int .i64 0]) (by simp[results,results20,go_sem,e0,e1]) rfl ⟨g,cap,by rw[HRV.out],Y7.1,Y7.2.1,HG.out,Ht.out,Yh.out⟩
def Ys(w:Lo)(a k n:Nat)(L:An)(e:Ending)(w':Lo):Prop:= ∃A' c',e= .returned (.slice A' n c')/\(n<=c'/\c'<=9223372036854775807)/\w'=w.setCell ⟨a,0,none⟩ (.int .i64 ((k+n:Nat):Int))/\Bytes w' A' L
theorem Oq(a b:Nat)(A:As)(B:An)(c k n:Nat)(w:Lo)(ha:w.heap[a]? =some (.cells #[.int .i64 k] 3 (0,0)))(hb:w.cell? ⟨b,0,none⟩=some (.slice A B.length c))(fj:b≠a)(hB:Bytes w A B)(hA: ∀x,A=some x->x.block<a)(hkn:k+n<=B.length)(hc:B.length<=c)(hm:c<=9223372036854775807)(hl:B.length<=1000000):
  Calls prog 95 #[.int .i64 n,.pointer (some ⟨a,0,none⟩),.pointer (some ⟨b,0,none⟩)] w (Ys w a k n ((B.drop k).take n)):=by
 have h0:w.cell? ⟨a,0,none⟩=some (.int .i64 k):=by rw[aC w _ _ _ _ _ ha];rfl
 have hf:=aS w a 0 _ _ ha;have⟨q,hq⟩:=ex (k+n);have zw:(k:Int)+(n:Int)=q:=aa;have aBm:(q:Int)-(n:Int)=k:=aa;have hkq:(k:Int)<=q:=aa;have hqc:(q:Int)<=c:=aa;have hqi:(q:Int)<=1000000:=aa;have oj:(c:Int)<=9223372036854775807:=aa;have HT:Hid (Bytes (w.setCell ⟨a,0,none⟩ (.int .i64 (q:Int))) (if c=k then A else A.map λx=>x.add k) ((B.drop k).take n)):=ae (by
  have eX:Below a w (w.setCell ⟨a,0,none⟩ (.int .i64 (q:Int))):=cN (p:=⟨a,0,none⟩) (aP _ _) (aF _) _;exact((hB.low eX hA).cutFrom aa hc).take n)
 have HN:=ae (show n<=c-k/\c-k<=9223372036854775807 by omega);have HQ:=ae hq;have Zy:=ae (show q-k=n by omega);clear ha hB hA hkn hc hm hl hq;go_enter func95,ntmps95;go_wp2_with fail;case inl=>go_ret;have hT:=HT.out;rw[ax h]at hT;exact⟨A,0,by rw[<-Zy.out];rfl,av HN.out,by rw[HQ.out],hT⟩
 case inr=>go_ret;have hT:=HT.out;rw[au h]at hT;exact⟨_,c-k,by rw[<-Zy.out];rfl,HN.out,by rw[HQ.out],hT⟩
theorem Bytes.Yt{x y:Int}(h:Bytes W A l)(hr:W.heap[R]? =some (.cells [Value.int .i64 x,Value.int .i64 y].toArray t (0,0)))(i:Nat)(v:Value):Bytes (W.setCell ⟨R,i,none⟩ v) A l:=by
 rcases h with h|⟨b,off,rfl,h2,h3⟩
 ·exact .inl h
 ·by_cases h0:l.length=0;·exact .inl (mm h0)
  ·have hb:b≠R:=by
    rintro rfl;have h4:=h3 0 aa;rw[aC W _ _ _ _ _ hr]at h4;match off,h4 with
    | 0,h4=>simp at h4
    | 1,h4=>simp at h4
    | n+2,h4=>simp at h4
   exact .inr ⟨b,off,rfl,by simpa using h2,λk hk=>(f5 (a:=⟨b,_,none⟩) (af _ _ _ _ hb)).trans (h3 k hk)⟩
def G9(w:Lo)(r:List UInt8×Nat×(Nat×Nat)×Nat)(e:Ending)(w':Lo):Prop:=
 ∃A c,e= .returned (.tuple #[.slice A r.1.length c,.int .i64 r.2.1,Ol r.2.2.1,.int .i64 r.2.2.2])/\(r.1.length<=c/\c<=9223372036854775807)/\Bytes w' A r.1/\Below w.heap.size w w'
def NX(a:Nat)(w2:Lo)(k:Nat)(W:Lo):Prop:=W.heap[a]? =some (.cells #[.int .i64 k] 3 (0,0))/\Below a w2 W
theorem NX.below{a k:Nat}{w2:Lo}(h:NX a w2 k W)(hb:Below W.heap.size W W'):NX a w2 k W':=
 have hl:=Nat.le_of_lt (bU h.1)
 ⟨(hb.block _ (bU h.1)).trans h.1,h.2.trans (hb.mono hl)⟩
def afD(a:Nat)(w2 W:Lo)(k n:Nat)(L:An)(e:Ending)(w':Lo):Prop:= ∃A' c',e= .returned (.slice A' n c')/\(n<=c'/\c'<=9223372036854775807)/\NX a w2 (k+n) w'/\Bytes w' A' L/\ ∀g l,g≠a->Bytes W (some ⟨g,0,none⟩) l->Bytes w' (some ⟨g,0,none⟩) l
theorem Bytes.aa0(h:Bytes W (some ⟨g,0,none⟩) l)(hs:W.heap.size<=W'.heap.size)(he:W'.heap[g]? =W.heap[g]?):Bytes W' (some ⟨g,0,none⟩) l:=by
 rcases h with h|⟨b,off,e,h2,h3⟩
 ·exact .inl h
 ·injection e with e;injection e with e1 e2;subst e1;subst e2;exact .inr ⟨_,_,rfl,db h2 hs,λk hk=>(f5 (a:=⟨_,_,none⟩) he).trans (h3 k hk)⟩
theorem uN(A B:As)(l m:An)(c d n:Nat)(w:Lo)(h1:Bytes w A l)(h2:Bytes w B m)(hl:l.length=n)(hm:m.length=n)(he:l=m):Calls prog 92 #[.slice A n c,.slice B n d] w λe w'=>e= .returned (.bool true)/\w=w':=by have h:=jK A B l m c d w h1 h2;rw[hl,hm,he,beq_self_eq_true]at h;exact h
theorem Op.Qm{o:Op}(h:o.Ok)(D:An)(hD:D.length<=100000)(hf: ∀f∈o.l,f.ok):9<=(o.uM D).length/\(o.uM D).length<=500000:=by
 have h1:=o.pS h D;have h2:=o.C6 h D hD hf;have h3:=(nF (o.head D) (o.jk h D hD).1 hf (o.jk h D hD).2)
 unfold Op.uM;rw[aG];omega
theorem S9{k:ip}(hc:1<=k.chunk)(hQ:Q=(k.D.length+k.chunk.toNat-1)/k.chunk.toNat):(mH k).length<=k.D.length+3*Q+1:=by
 have dE:1<=k.chunk.toNat:=aa;have h1:=pF (k:=k) (n:=k.D.length) dE rfl (k.D.length-0) 0 (none,false) (aF _);have h2:=yP (n:=k.D.length) dE (k.D.length-0) 0 (aF _);have h3:(d9 k.D.length k.chunk.toNat 0).length<=Q:=by rw[hQ];rw[Nat.le_div_iff_mul_le aa];omega
 unfold mH;rw[aG];show _+1<=_;omega
theorem Yu(f:eF)(h:wK f):(qr f).length<=6:=by
 have h1:(Vl.put 9 f.id.toNat).length=1:=by rw[Vl.ml (by have:=h.2.1;have:=h.2.2.1;omega)];rfl
 have h2:(Vl.put 9 (fG f).length).length=1:=by rw[Vl.ml (av h.2.2.2.2)];rfl
 have h3:=h.2.2.2.2;simp only[qr,aG];omega
theorem Ta(l:List eF)(h: ∀f∈l,wK f):(ey l).length<=6*l.length:=by
 induction l with
 | nil=>simp[ey]
 | cons f l ih=>
  have h1:=Yu f (h f ah);have h2:=ih (λg hg=>h g (by simp[hg]));simp only[ey,List.flatMap_cons,aG,el]at h2 ⊢;omega
theorem C9(h:jf)(bK:h.ok)(hf: ∀f∈h.l,f.ok)(hv:kL h=true):(mX h).length<=54/\(mX h).length%4=0:=by
 obtain⟨hg,h3,_,_⟩:=wL h bK hf hv;obtain⟨e1,e2,_,_⟩:=nF h bK hf hv;have a1:=fA h.p;have a2:=fA h.q;have a3:=Ta _ hg;have a6:(dy h).length=(fY h.p).length+(fY h.q).length+(ey (h.l++[de h.d])).length+2:=by simp only[dy,jJ,el,aG]
 rw[aG,List.length_singleton]at a3;have e5:(iX (dy h)).length<=(dy h).length+3:=OZ;omega
theorem Fl(c:Int):dg c%4=0/\dg c<=32:=by
 unfold dg;split;·decide
 ·split;·decide
  ·split<;>decide
theorem Op.wT{o:Op}(h:o.Ok)(D:An)(hD:D.length<=100000)(hf: ∀f∈o.l,f.ok)(hQ:Q=(D.length+o.chunk.toNat-1)/o.chunk.toNat):
  (o.aE D).length<=D.length+3*Q+93/\(o.aE D).length%4=0/\9<=(o.aE D).length:=by
 have h1:=C9 (o.head D) (o.jk h D hD).1 hf (o.jk h D hD).2;have h2:=S9 (k:=o.k (ew o.l D)) h.chunk.1 (Q:=Q) (by rw[hQ];show _=((ew o.l D).length+o.chunk.toNat-1)/o.chunk.toNat;rw[dJ]);have h3:=Fl o.check;have h4:(o.k (ew o.l D)).D.length=D.length:=dJ _ _;have h5:=o.Qm h D hD hf;have h6:(o.uM D).length=(mX (o.head D)).length+(mH (o.k (ew o.l D))).length:=by unfold Op.uM Op.packed;rw[aG]
 rw[h4]at h2;rw[o.C8];unfold bj;omega
def nG(r:Nat×Nat):Int×Int:=((r.1:Int),(r.2:Int))
def Op.recs(o:Op)(D:An):List (Int×Int):=(eG o.block.toNat D).map λP=>nG (o.rc P)
def Op.sh(o:Op)(D:An):List (An):=(eG o.block.toNat D).map o.aE
def Op.idx(o:Op)(D:An):List UInt8:=gr (o.recs D)
def Op.c8(o:Op):UInt8:=UInt8.ofNat o.check.toNat
def Op.nZ(o:Op)(D:An):List UInt8:=iw o.c8 ((o.idx D).length/4-1)
def Op.st(o:Op)(D:An):List UInt8:=jh o.c8++((o.sh D).flatten++(o.idx D++o.nZ D))
theorem KQ{o:Op}(h:cQ o.check=true):(o.c8.toNat:Int)=o.check/\cQ (o.c8.toNat:Int)=true:=by
 have e:(o.c8.toNat:Int)=o.check:=by
  unfold Op.c8;rcases pK o.check with h1|h1|h1|h1|h1;·rw[h1];rfl
  ·rw[h1];rfl
  ·rw[h1];rfl
  ·rw[h1];rfl
  ·rw[h1]at h;cases h
 exact⟨e,by rw[e];exact h⟩
theorem mQ(l:List (Int×Int)):(gr l).length%4=0/\8<=(gr l).length/\(gr l).length<=20*l.length+18:=by
 have h1:=kb l.length;have h2:=la l;have e:(gr l).length=((ji l.length).length+(mO l).length)+bj ((ji l.length).length+(mO l).length)+4:=by unfold gr iX fg;simp only[aG,iH,bi]
 rw[e];unfold bj;omega
theorem Ou(l:List (Int×Int)): ∃t,gr l=0::t:=⟨_,by unfold gr iX fg ji;rfl⟩
structure Sg(o:Op)(D:An):Prop where
 iG:o.iG=true
 aE:1<=o.block
 len:D.length<=300
 oK: ∀f∈o.l,f.ok
theorem Sg.ok{o:Op}(h:Sg o D):o.Ok:=Op.Ok.of h.iG
theorem Sg.b1{o:Op}(h:Sg o D):1<=o.block.toNat:=av h.aE
theorem Sg.part{o:Op}(h:Sg o D)(hP:P∈eG o.block.toNat D):1<=P.length/\P.length<=3000:=by have:=Yq h.b1 D P hP;have:=h.len;omega
theorem acH{o:Op}(h:o.Ok)(hP:P.length<=3000)(hf: ∀f∈o.l,f.ok):9<=(o.rc P).1/\(o.rc P).1<=500032/\(o.rc P).2<=3000:=by have h1:=o.Qm h P aa hf;have h2:=Fl o.check;show 9<=(o.uM P).length+dg o.check/\(o.uM P).length+dg o.check<=500032/\P.length<=3000;omega
theorem si{o:Op}(h:Sg o D):(o.recs D).all ez=true/\(∀r∈o.recs D,CX r)/\(o.recs D).length<=3000:=by
 refine⟨?_,?_,?_⟩;·rw[List.all_eq_true];intro r hr;obtain⟨P,hP,rfl⟩:=List.mem_map.1 hr;have h1:=acH h.ok (h.part hP).2 h.oK;show(ky ((o.rc P).1:Int)&&decide (0<=((o.rc P).2:Int)))=true;unfold ky;simp;omega
 ·intro r hr;obtain⟨P,hP,rfl⟩:=List.mem_map.1 hr;have h1:=acH h.ok (h.part hP).2 h.oK;show -9223372036854775808<=((o.rc P).1:Int)/\((o.rc P).1:Int)<=9223372036854775807/\ -9223372036854775808<=((o.rc P).2:Int)/\((o.rc P).2:Int)<=9223372036854775807;omega
 ·unfold Op.recs;rw[cX];have:=mP h.b1 D;have:=h.len;omega
theorem mR(H R:An)(a n:Nat)(h:a+n<=H.length):part (H++R) a n=part H a n:=by unfold part;rw[List.drop_append_of_le_length aa,List.take_append_of_le_length iA]
theorem wU(H R:An)(i:Nat)(h:i<H.length):(H++R).getD i 0=H.getD i 0:=by rw[qD,qD,AG h]
theorem Ha(H R:An)(h:H.length=12):dh (H++R)=dh H:=by have h1: ¬(H++R).length<12:=zV;have h2: ¬H.length<12:=aa;unfold dh;rw[au h1,au h2,mR H R 0 6 aa,mR H R 8 4 aa,mR H R 6 2 aa,wU H R 6 aa,wU H R 7 aa]
theorem Hb(H R:An)(h:H.length=12):di (H++R)=di H:=by have h1: ¬(H++R).length<12:=zV;have h2: ¬H.length<12:=aa;unfold di;rw[au h1,au h2,mR H R 10 2 aa,mR H R 0 4 aa,mR H R 4 6 aa,mR H R 4 4 aa,wU H R 8 aa,wU H R 9 aa]
theorem aa2{o:Op}(h:cQ o.check=true)(R:An):dh (jh o.c8++R)=(o.check,0):=by rw[Ha _ _ (fB _),Te _ (KQ h).2,(KQ h).1]
theorem aa3{o:Op}(h:Sg o D)(R:An):di (o.nZ D++R)=(o.check,((o.idx D).length:Int),0):=by have h1:=mQ (o.recs D);have h2:=(si h).2.2;have h3:=KQ h.ok.check;have e:(o.idx D).length=(gr (o.recs D)).length:=rfl;unfold Op.nZ;rw[Hb _ _ (eO _ _),Th _ _ aa h3.2,h3.1];rw[show 4*(((o.idx D).length/4-1:Nat):Int)+4=((o.idx D).length:Int) by omega]
theorem Fm{o:Op}(h:o.Ok)(D:An)(hD:D.length<=100000)(hf: ∀f∈o.l,f.ok): ∃b t,o.aE D=b::t/\b≠0:=by
 obtain⟨h1,h2⟩:=o.jk h D hD;obtain⟨e1,e2,e3,_⟩:=nF (o.head D) h1 hf h2;have e4:=C9 (o.head D) h1 hf h2;obtain⟨t,ht⟩: ∃t,iX (dy (o.head D))=0::t:=⟨_,by unfold iX dy;rfl⟩
 rw[ht]at e1 e2 e3;refine⟨UInt8.ofNat ((0::t).length/4),_,by unfold Op.aE Op.uM mX jg;rw[ht];rfl,?_⟩;intro e;have:=aR UInt8.toNat e;rw[fN]at this;have h0:(0:UInt8).toNat=0:=rfl;omega
theorem Yx{o:Op}(h:Sg o D):(o.st D).length%4=0/\32<=(o.st D).length:=by
 have h1:=mQ (o.recs D);have hb:((o.sh D).flatten).length%4=0:=by
  have key: ∀l:List (An),(∀P∈l,P.length<=3000)->((l.map o.aE).flatten).length%4=0:=by
   intro l;induction l with
   | nil=>intro _;rfl
   | cons P l ih=>
    intro hl;have h2:=ih λQ hQ=>hl Q (List.mem_cons_of_mem _ hQ);have h3:=hl P (List.mem_cons_self);have h4:=(o.wT h.ok P aa h.oK rfl).2.1;rw[gy,tr,aG];omega
  exact key _ λP hP=>(h.part hP).2
 have e:(o.idx D).length=(gr (o.recs D)).length:=rfl;unfold Op.st Op.nZ;rw[aG,aG,aG,fB,eO];omega
theorem Yy{o:Op}(h:Sg o D):(o.st D).length<=50000:=by
 have h1:=mQ (o.recs D);have hb:((o.sh D).flatten).length<=97*D.length:=by
  have key: ∀l:List (An),(∀P∈l,1<=P.length/\P.length<=3000)->((l.map o.aE).flatten).length<=97*l.flatten.length:=by
   intro l;induction l with
   | nil=>intro _;exact aF _
   | cons P l ih=>
    intro hl;have h2:=ih λQ hQ=>hl Q (List.mem_cons_of_mem _ hQ);have h3:=hl P (List.mem_cons_self);have hc:=h.ok.chunk;have hq:(P.length+o.chunk.toNat-1)/o.chunk.toNat<=P.length:=(by refine a8 (Nat.div_le_div_right (show P.length+o.chunk.toNat-1<=P.length+(o.chunk.toNat-1) by omega)) ?_;rw[Nat.div_le_iff_le_mul_add_pred aa];have:1*P.length<=o.chunk.toNat*P.length:=qF _ aa;omega);have h4:=(o.wT h.ok P aa h.oK rfl).1;rw[gy,tr,tr,aG,aG];omega
  have:=key _ λP hP=>h.part hP;rw[ym h.b1]at this;exact this
 have h2:(o.recs D).length<=300:=by unfold Op.recs;rw[cX];have:=mP h.b1 D;have:=h.len;omega
 have e:(o.idx D).length=(gr (o.recs D)).length:=rfl;have h3:=h.len;unfold Op.st Op.nZ;rw[aG,aG,aG,fB,eO];omega
section
open Go.RowKit Go.Shelf
attribute [local go_sem] Oper.semAt_some
abbrev Pt(n:Nat):Type:={x:Nat×Nat // x.1+x.2<=n/\1<=x.2}
def Pt.of{D:An}(x:Pt D.length):List UInt8:=(D.drop x.1.1).take x.1.2
def aa4{n:Nat}(b off c:Nat)(x:Pt n):Array Value:= #[.slice (some ⟨b,off+x.1.1,none⟩) x.1.2 (c-x.1.1)]
def Yz(bn:Nat)(wr:Lo):Nat:=match wr.cell? ⟨bn,0,none⟩with
 | some (.slice _ n _)=>n
 | _=>0
theorem KR{bn n c:Nat}{A:As}{wr:Lo}(h:wr.cell? ⟨bn,0,none⟩=some (.slice A n c)):Yz bn wr=n:=by unfold Yz;rw[h]
theorem zd(F:Fence)(m:Nat)(Ew:F.fn 33)(kM:F.round=none)(hm:1<=m)(D:An)(b off c s bn bs:Nat)(A:As)(hA:D.length≠0->A=some ⟨b,off,none⟩)(hc:D.length<=c)(oT:c<=9223372036854775807)(hl:D.length<=1000000000)(hs:1<=s)(VW:s<=9223372036854775807)(w:Lo)
  (Qy:bn<w.heap.size) (fj:bn≠bs) (TR:w.cell? ⟨bn,0,none⟩=some (.slice A D.length c)) (alL:w.frozen? ⟨bn,0,none⟩=false) (hcs:w.heap[bs]? =some (.cells #[.int .i64 s] 3 (0,0))) (_hbs:bs<w.heap.size):
  alD F m prog 33 #[PF bn,PF bs] (aa4 (n:=D.length) b off c) bn bs (λxs=>xs.map Pt.of=eG s D) D.length w:=by
 obtain⟨f1,f2,f4,f3⟩:=F;obtain rfl:f3=none:=kM;intro l J W hW hJa hJb hY h0;have Ao:Hid (∀t W',J t W'->W'.cell? ⟨bs,0,none⟩=some (.int .i64 s)):=ae (λt W' h=>by
  have e:=(hJb t W' h).trans hcs;rw[aC W' _ _ _ _ _ e];rfl)
 have hcW:=(hW.cell (p:=⟨bn,0,none⟩) Qy).trans TR;have hfW:=(hW.frozen (p:=⟨bn,0,none⟩) Qy).trans alL;have HY:=ae hY;have HJ:=ae hJa;have LN:=ae h0;have Gk:=ae fj;have c1:=Ao.out _ _ h0;have xg:=ae (ap hA (ap hc (ap oT (ap hs hl))));have Jb:1<=(s:Int):=aa;have asN:(s:Int)<=9223372036854775807:=aa;clear hY hJa hJb h0 TR alL hcs hA fj;refine callsIn_of_wp func33 rfl Ew ?_ rfl;simp only[ntmps33,List.size_toArray,el,List.length_nil,Nat.reduceAdd,Nat.reduceSub,Array.replicate_succ,Array.replicate_zero,List.push_toArray,List.append_toArray,fL,List.cons_append]
 gi_wp2
 gi_loopw [4] (λ_ wr=> ∃(pre:List (Pt D.length)) (a:Nat) (A':As),Hid (eG s D=pre.map Pt.of++eG s (D.drop a))/\a<=D.length/\pre.length<=a/\(D.length-a≠0->A'=some ⟨b,off+a,none⟩)/\wr.cell? ⟨bn,0,none⟩=some (.slice A' (D.length-a) (c-a))/\wr.frozen? ⟨bn,0,none⟩=false/\J pre wr) (λ_ wr=>Yz bn wr)
 ·exact⟨[],0,A,ae rfl,cI _,aF _,xg.1,hcW,hfW,LN.out⟩
 ·
  obtain⟨pre,a,A',HL,ha,hpa,hA',Ib,n7,zD⟩:=hrel;clear hcW hfW c1;have c1:=Ao.out _ _ zD;have HLF:=ae (KR Ib);by_cases han:a<D.length
  ·have e0:=hA' aa;subst e0;have sY:(0:Int)<((D.length-a:Nat):Int):=aa;have⟨k,hk⟩:=ex (min s (D.length-a));have xO:min (s:Int) ((D.length-a:Nat):Int)=(k:Int):=aa;have ln:1<=k/\a+k<=D.length:=av xg.out;obtain⟨x,hx⟩: ∃x:Pt D.length,x=⟨(a,k),ln.2,ln.1⟩:=⟨_,rfl⟩
   obtain⟨fn,tmps,assign,body,hy,hR⟩:=HY.out pre x wr zD aa;have hex:aa4 b off c x= #[.slice (some ⟨b,off+a,none⟩) k (c-a)]:=(by rw[hx];rfl);rw[hex]at hy;have jm:Hid (eG s D=(pre++[x]).map Pt.of++eG s (D.drop (a+k))):=ae (by
    have h1:=xg.out;rw[HL.out,oM h1.2.2.2.1 iA,iI,eY];have ex:Pt.of x=(D.drop a).take s:=(by rw[hx];show(D.drop a).take k=_;rw[<-hk,<-List.take_take,<-fZ,List.take_length]);have ed:(D.drop a).drop s=D.drop (a+k):=by
     rw[AK];rcases dN s (D.length-a)with h|h;·rw[show k=s by omega]
     ·rw[pT aa,pT aa]
    rw[<-ex,ed];rfl)
   have xU:c-a<=9223372036854775807:=aa;have hkc:k<=c-a:=av xg.out;have tk:k<=D.length-a:=aa;have HK:=ae (ap ln (ap hkc tk));clear hx hex hk ln
   gi_wp2
   refine hR.mono ?_;rintro e W3 ⟨rfl,Hy,oR⟩;have asO:=oR.1.trans Ib;have asP:=oR.2.trans n7;have c3:=Ao.out _ _ Hy;have HJ3:=ae Hy;clear Hy oR Ib n7 c1 zD hR hy;have qp:=HK.2.1;have oR:=HK.2.2
   gi_wp2
   have hcell:=World.cell?_setCell_same' W3 ⟨bn,0,none⟩ (.slice (if c-a=k then some ⟨b,off+a,none⟩else some ⟨b,off+a+k,none⟩) (D.length-a-k) (c-a-k)) (by rw[asO];rfl);have h1:=HK.out;have h2:=xg.out;refine⟨⟨pre++[x],a+k,_,jm,h1.1.2,by rw[aG];show pre.length+1<=a+k;omega,λh=> ?_,by rw[Nat.sub_add_eq,Nat.sub_add_eq];exact hcell,by rw[World.frozen?_setCell];exact asP,HJ.out _ _ _ HJ3.out⟩,?_⟩;·rw[au aa,m6]
   ·rw[KR hcell,HLF.out];omega
  ·have e1: ¬(0:Int)<((D.length-a:Nat):Int):=(by omega);have HE:Hid (pre.map Pt.of=eG s D):=ae (by rw[HL.out,C4 iA,iV]);have HJS:=ae zD;clear han zD
   gi_wp2
   go_end0;exact⟨⟨_,rfl⟩,pre,HE.out,HJS.out⟩
def aa5(A:As)(n c:Nat)(s:Int)(w:Lo)(e:Ending)(w':Lo):Prop:=e= .returned (.func (.func 33) #[] #[PF w.heap.size,PF (w.heap.size+1)])/\(w.alloc (.cells #[.slice A n c] 22)).alloc (.cells #[.int .i64 s] 3)=w'
theorem ze(A:As)(n c:Nat)(s:Int)(w:Lo):Calls prog 19 #[.slice A n c,.int .i64 s] w (aa5 A n c s w):=by go_enter func19,ntmps19;go_wp2;go_ret;exact⟨rfl,rfl⟩
end
section
theorem KeepsOthers.Hc{a b:Lo}(h:Below a.heap.size a b):KeepsOthers a b:=
 ⟨h.size,λj _ hj _=>(h.block j (bU hj)).trans hj⟩
structure Ig{α:Type}(n:Nat)(W0:Lo)(fb:α->List UInt8)(fr:α->Int×Int)(pre:List α)(W:Lo):Prop where
 ex: ∃vB vR,W.heap[n]? =some (.cells #[vB] 27 (0,0))/\W.heap[n+1]? =some (.cells #[vR] 28 (0,0))/\qs 51 (n+4) W vB vR (pre.map fb) (pre.map fr)
 n2:W.heap[n+3]? =W0.heap[n+3]?
 below:Below n W0 W
 sz:n+4<=W.heap.size
variable{α:Type}{n:Nat}{W0:Lo}{fb:α->List UInt8}{fr:α->Int×Int}
theorem Ig.go(pre:List α)(W W':Lo)(h:Ig n W0 fb fr pre W)(hb:Below W.heap.size W W'):Ig n W0 fb fr pre W':=by obtain⟨vB,vR,h1,h2,h3⟩:=h.ex;have hs:=h.sz;exact⟨⟨vB,vR,(hb.block _ aa).trans h1,(hb.block _ aa).trans h2,h3.below hb⟩,(hb.block _ aa).trans h.n2,h.below.trans (hb.mono aa),a8 hs hb.size⟩
theorem Ig.alloc(pre:List α)(W:Lo)(o:Obj)(h:Ig n W0 fb fr pre W):Ig n W0 fb fr pre (W.alloc o):=h.go _ _ _ (az)
theorem Ig.put(hW:W0.heap.size=n+4)(pre:List α)(W:Lo)(l:Nat)(o o':Obj)(h:Ig n W0 fb fr pre W)(hl:W0.heap.size<=l)(yr:W.heap[l]? =some o)(ho:o.isCells=false):Ig n W0 fb fr pre (W.putObj l o'):=by obtain⟨vB,vR,h1,h2,h3⟩:=h.ex;have up: ∀{i:Nat},i≠l->(W.putObj l o').heap[i]? =W.heap[i]? :=λe=>World.putObj_heap_other e;exact⟨⟨vB,vR,(up aa).trans h1,(up aa).trans h2,h3.put o' yr ho⟩,(up aa).trans h.n2,h.below.grown (grownBy_putObj' W l o') (av h.sz) (λk e=>t6),by rw[World.putObj_size];exact h.sz⟩
theorem Ig.Ov:jA (n+2) (Ig n W0 fb fr):=λpre W v h=>by obtain⟨vB,vR,h1,h2,h3⟩:=h.ex;have hs:(W.setCell ⟨n+2,0,none⟩ v).heap.size=W.heap.size:=pU _ _ _;have up: ∀{i:Nat},i≠n+2->(W.setCell ⟨n+2,0,none⟩ v).heap[i]? =W.heap[i]? :=λe=>af _ _ _ _ e;exact⟨⟨vB,vR,(up aa).trans h1,(up aa).trans h2,h3.set (p:=⟨n+2,0,none⟩) (by show n+2<n+4;omega) v⟩,(up aa).trans h.n2,h.below.setCell (by show n<=n+2;omega) v,by rw[hs];exact h.sz⟩
theorem Ig.push{pre:List α}{x:α}{W W1 W2 W3 W4:Lo}(h:Ig n W0 fb fr pre W)(aI:Below W.heap.size W W1){vB vR Ih xh:Value}{vs:List Value}
  (h1:W1.heap[n]? =some (.cells #[vB] 27 (0,0))) (h2:W1.heap[n+1]? =some (.cells #[vR] 28 (0,0))) (hT:qs 51 (n+4) W1 vB vR (pre.map fb) (pre.map fr))
  (hv:aZ 22 (n+4) W1 vB vs) (xr:vs.length=(pre.map fb).length) (hve: ∀(i:Nat) v L,vs[i]? =some v->(pre.map fb)[i]? =some L->wO (n+4) W1 vB vR v L)
  {u:Value} (hu:wO (n+4) W1 vB vR u (fb x)) (hn:aZ 22 (n+4) W2 Ih (vs++[u])) (hg:W1.grownBy W2 vB.ownBlock) (ho:Ih.ownBlock=vB.ownBlock\/Ih.ownBlock=some W1.heap.size)
  (jE:Below W2.heap.size (W2.setCell ⟨n,0,none⟩ Ih) W3)
  (hr:dY 51 (n+4) W4 xh (pre.map fr++[fr x])) (dq:W3.grownBy W4 vR.ownBlock) (bM:xh.ownBlock=vR.ownBlock\/xh.ownBlock=some W3.heap.size):
  KeepsOthers W (W4.setCell ⟨n+1,0,none⟩ xh)/\fX (n+2) W (W4.setCell ⟨n+1,0,none⟩ xh)/\Ig n W0 fb fr (pre++[x]) (W4.setCell ⟨n+1,0,none⟩ xh):=by
 have hs:=h.sz;have s1:=aI.size;have s2:=hg.size;have es:(W2.setCell ⟨n,0,none⟩ Ih).heap.size=W2.heap.size:=pU _ _ _;have s3:W2.heap.size<=W3.heap.size:=es▸jE.size;have s4:=dq.size;have alM:Below (W2.setCell ⟨n,0,none⟩ Ih).heap.size (W2.setCell ⟨n,0,none⟩ Ih) W3:=by rw[es];exact jE
 have ua:qs 51 (n+4) W2 Ih vR (pre.map fb++[fb x]) (pre.map fr):=hT.Yi hv xr hve hu hn hg ho;have hT3:qs 51 (n+4) W3 Ih vR (pre.map fb++[fb x]) (pre.map fr):=(ua.set (p:=⟨n,0,none⟩) (by show n<n+4;omega) Ih).below alM;have hT4:=hT3.acG hr dq bM;have rB:vB.ownBlock≠some n/\vB.ownBlock≠some (n+1)/\vB.ownBlock≠some (n+2)/\vB.ownBlock≠some (n+3):=by refine⟨λe=> ?_,λe=> ?_,λe=> ?_,λe=> ?_⟩<;>(have:=(hv.lt _ e).1;omega)
 have rR:vR.ownBlock≠some n/\vR.ownBlock≠some (n+1)/\vR.ownBlock≠some (n+2)/\vR.ownBlock≠some (n+3):=by refine⟨λe=> ?_,λe=> ?_,λe=> ?_,λe=> ?_⟩<;>(have:=(hT.G7.lt _ e).1;omega)
 have far: ∀i,i<n+4->i≠n->i≠n+1->(W4.setCell ⟨n+1,0,none⟩ xh).heap[i]? =W.heap[i]? :=by intro i hi e0 e1;have q1:(W4.setCell ⟨n+1,0,none⟩ xh).heap[i]? =W4.heap[i]? :=af _ _ _ _ e1;have q2:W4.heap[i]? =W3.heap[i]? :=dq.block i aa (λe=>by have:=(hT.G7.lt _ e.symm).1;omega);have q3:W3.heap[i]? =(W2.setCell ⟨n,0,none⟩ Ih).heap[i]? :=jE.block i aa;have q4:(W2.setCell ⟨n,0,none⟩ Ih).heap[i]? =W2.heap[i]? :=af _ _ _ _ e0;have q5:W2.heap[i]? =W1.heap[i]? :=hg.block i aa (λe=>by have:=(hv.lt _ e.symm).1;omega);exact q1.trans (q2.trans (q3.trans (q4.trans (q5.trans (aI.block i aa)))))
 have eR:(W4.setCell ⟨n+1,0,none⟩ xh).heap.size=W4.heap.size:=pU _ _ _;have b0:W4.heap[n]? =some (.cells #[Ih] 27 (0,0)):=by have q5:=(hg.block n aa (λe=>rB.1 e.symm)).trans h1;have q4:(W2.setCell ⟨n,0,none⟩ Ih).heap[n]? =some (.cells #[Ih] 27 (0,0)):=heap_set q5 0 _;exact(dq.block n aa (λe=>rR.1 e.symm)).trans ((jE.block n aa).trans q4)
 have b1:W4.heap[n+1]? =some (.cells #[vR] 28 (0,0)):=by have q5:=(hg.block (n+1) aa (λe=>rB.2.1 e.symm)).trans h2;have q4:(W2.setCell ⟨n,0,none⟩ Ih).heap[n+1]? =W2.heap[n+1]? :=af _ _ _ _ (by show n+1≠n;omega);exact(dq.block (n+1) aa (λe=>rR.2.1 e.symm)).trans ((jE.block (n+1) aa).trans (q4.trans q5))
 refine⟨?_,⟨f5 (a:=⟨n+2,0,none⟩) (far (n+2) aa aa aa),World.frozen?_of_block (a:=⟨n+2,0,none⟩) (far (n+2) aa aa aa)⟩,⟨⟨Ih,xh,?_,heap_set b1 0 _,?_⟩,(far (n+3) aa aa aa).trans h.n2,?_,by rw[eR];omega⟩⟩;·exact((((KeepsOthers.Hc aI).trans (KeepsOthers.of_grownBy hg (λj o hj ho=>hv.isCells hj ho))).trans (KeepsOthers.setCell _ _ _)).trans (KeepsOthers.Hc alM)).trans ((KeepsOthers.of_grownBy dq (λj o hj ho=>wP hT3.G7 hj ho)).trans (KeepsOthers.setCell _ _ _))
 ·exact(af _ _ _ _ (by show n≠n+1;omega)).trans b0
 ·rw[iI,iI];exact hT4.set (p:=⟨n+1,0,none⟩) (by show n+1<n+4;omega) xh
 ·have i9:Below n W0 W1:=h.below.trans (aI.mono aa);have fq:Below n W0 W2:=i9.grown hg aa (λg e=>by have:=(hv.lt g e).1;omega);have iP:Below n W0 W3:=(fq.setCell (by show n<=n;omega) Ih).trans (jE.mono aa);exact((iP.grown dq aa (λg e=>by have:=(hT3.G7.lt g e).1;omega)).setCell (by show n<=n+1;omega) xh)
end
section
open Go.RowKit Go.Shelf
attribute [local go_sem] Oper.semAt_some
abbrev StO(lc lp pb nice chunk block check:Int)(ch:Value)(dict:Nat):Value:= .agg #[.int .i64 lc,.int .i64 lp,.int .i64 pb,.int .i64 nice,.int .i64 chunk,.int .i64 block,.int .i64 check,ch,.int .u32 dict]
theorem Qn{w W:Lo}{vs:List Value}{t0 t1 t2:TypeId}{v1 v2:Value}(h:((w.alloc (.cells vs.toArray t0)).alloc (.cells #[v1] t1)).alloc (.cells #[v2] t2)=W):
  W.heap[w.heap.size]? =some (.cells vs.toArray t0 (0,0))/\W.heap[w.heap.size+1]? =some (.cells #[v1] t1 (0,0))/\W.heap[w.heap.size+1+1]? =some (.cells #[v2] t2 (0,0))/\Below w.heap.size w W/\W.heap.size=w.heap.size+3:=by
 subst h;have up: ∀{b:Nat} {W:Lo} {o':Obj} (o:Obj),W.heap[b]? =some o'->(W.alloc o).heap[b]? =some o':=λo h=>(ee _ _ _ (bU h)).trans h;have Zp: ∀(W:Lo) (o:Obj) (b:Nat),b=W.heap.size->(W.alloc o).heap[b]? =some o:=λW o b e=>FG;refine⟨up _ (up _ (Zp _ _ _ rfl)),up _ (Zp _ _ _ ah),Zp _ _ _ ah,?_,ah⟩;refine m7 ?_ aH _;refine m7 ?_ ah _;exact az
theorem wV{w W:Lo}{vs:List Value}{t:TypeId}(h:w.alloc (.cells vs.toArray t)=W):W.heap[w.heap.size]? =some (.cells vs.toArray t (0,0))/\Below w.heap.size w W:=by subst h;exact⟨bz w _,az⟩
def afF(w:Lo)(L:An)(r:Nat×Nat)(e:Ending)(w':Lo):Prop:= ∃g c,e= .returned (.tuple #[.slice (some ⟨g,0,none⟩) L.length c,.agg #[.int .i64 r.1,.int .i64 r.2],.int .i64 0])/\(L.length<=c/\c<=9223372036854775807)/\(w.heap.size<=g/\g<w'.heap.size)/\Bytes w' (some ⟨g,0,none⟩) L/\Below w.heap.size w w'
def uO(w:Lo)(L:An)(e:Ending)(w':Lo):Prop:= ∃g cap,e= .returned (.tuple #[.slice (some ⟨g,0,none⟩) L.length cap,.int .i64 0])/\(L.length<=cap/\cap<=9223372036854775807)/\(w.heap.size<=g/\g<w'.heap.size)/\Bytes w' (some ⟨g,0,none⟩) L/\Below w.heap.size w w'
theorem tp{ts t:TypeId}{z:Value}{bytes:Nat}(hE:Elem ts t z bytes){F:Fence}{n:Nat}{ops:Array Oper}{rest:List Oper}{o:Oper}{a:Act}{Q:Exit->Act->World->Prop}(oV:o.guard=none)(s x:Operand)
  (ho:o.op= .call {callee:= .builtin .append,args:= #[s,x],argTypes:= #[ts,ts]})
  (base:Nat) (w:Lo) (v:Value) (l:List Value) (hs:a.eval s=v) (aL:aZ t base w v l) (hh m c:Nat) (news:List Value) (hx:a.eval x= .slice (some ⟨hh,0,none⟩) m c) (hl:news.length=m)
  (hc: ∀i (h:i<news.length),w.cell? ⟨hh,i,none⟩=some news[i]) (h1: ∀u∈news,u.oneCell'=true) (dF:(l.length+m)*bytes<=140737488355328) (yp:l.length+m<=140737488355328) (aX:base<=w.heap.size)
  (h: ∀v' w',aZ t base w' v' (l++news)->w.grownBy w' v.ownBlock->(v'.ownBlock=v.ownBlock\/v'.ownBlock=some w.heap.size)->wpListIn F n prog ops Q rest (a.put o.dst v') w'):wpListIn F n prog ops Q (o::rest) a w:=by
 refine wpListIn_plain oV λK hK=> ?_;obtain⟨v',w',hr,h2,h3,h4⟩:=jn hE base o.type w v l aL hh m c news hl hc h1 dF yp aX;unfold Oper.wpIn;refine⟨?_,?_⟩;·simp[Oper.about,ho,resolve,Target.leads,Sem.run_pure]
 ·rw[Oper.semAt_plain F _ _ (by rw[ho];intro c VS;cases VS)];simp[execOp,ho,resolve,invoke,builtin,hs,hx,hr,Result.andThen];exact hK _ _ (h v' w' h2 h3 h4)
theorem sj{ts t:TypeId}{z:Value}{bytes:Nat}(hE:wM ts t z bytes){F:Fence}{n:Nat}{ops:Array Oper}{rest:List Oper}{o:Oper}{a:Act}{Q:Exit->Act->World->Prop}(oV:o.guard=none)(s x:Operand)
  (ho:o.op= .call {callee:= .builtin .append,args:= #[s,x],argTypes:= #[ts,ts]})
  (base:Nat) (w:Lo) (v:Value) (l:List (Int×Int)) (hs:a.eval s=v) (aL:dY t base w v l) (hh c:Nat) (r:Int×Int) (hx:a.eval x= .slice (some ⟨hh,0,none⟩) 1 c)
  (h0:w.cell? ⟨hh,0,none⟩=some (.int .i64 r.1)) (h1:w.cell? ⟨hh,1,none⟩=some (.int .i64 r.2)) (dF:(l.length+1)*bytes<=140737488355328) (yp:l.length+1<=140737488355328) (aX:base<=w.heap.size)
  (h: ∀v' w',dY t base w' v' (l++[r])->w.grownBy w' v.ownBlock->(v'.ownBlock=v.ownBlock\/v'.ownBlock=some w.heap.size)->wpListIn F n prog ops Q rest (a.put o.dst v') w'):wpListIn F n prog ops Q (o::rest) a w:=by
 refine wpListIn_plain oV λK hK=> ?_;obtain⟨v',w',hr,h2,h3,h4⟩:=qg hE base o.type w v l aL hh c r h0 h1 dF yp aX;unfold Oper.wpIn;refine⟨?_,?_⟩;·simp[Oper.about,ho,resolve,Target.leads,Sem.run_pure]
 ·rw[Oper.semAt_plain F _ _ (by rw[ho];intro c VS;cases VS)];simp[execOp,ho,resolve,invoke,builtin,hs,hx,hr,Result.andThen];exact hK _ _ (h v' w' h2 h3 h4)
theorem YA:wM 28 51 (.agg #[.int .i64 0,.int .i64 0]) 16:=⟨underlying28,ak,rfl⟩
theorem Ti(lc lp pb nice chunk block check:Int)(ch:Value)(dict:Nat)(A:As)(D:An)(c:Nat)(w:Lo)(fb:List UInt8->List UInt8)(fr:List UInt8->Nat×Nat)(ST:An)
  (hB:Bytes w A D) (hA: ∀a,A=some a->a.block<w.heap.size) (hc:D.length<=c) (hm:c<=9223372036854775807) (hl:D.length<=3000) (aI:1<=block) (aK:block<=9223372036854775807)
  (hF: ∀W,Below w.heap.size w W->Calls prog 13 #[StO lc lp pb nice chunk block check ch dict] W λe w'=>e= .returned (.bool true)/\Below W.heap.size W w')
  (hK: ∀W,Below w.heap.size w W-> ∀A' P c',Bytes W A' P->P.length<=c'->c'<=9223372036854775807->P.length<=3000->Calls prog 20 #[.slice A' P.length c',StO lc lp pb nice chunk block check ch dict] W (afF W (fb P) (fr P)))
  (hJ: ∀W,Below w.heap.size w W-> ∀base vB vR,qs 51 base W vB vR ((eG block.toNat D).map fb) ((eG block.toNat D).map λP=>(((fr P).1:Int),((fr P).2:Int)))->Calls prog 11 #[StO lc lp pb nice chunk block check ch dict,vB,vR] W (uO W ST)):
  Calls prog 9 #[.slice A D.length c,StO lc lp pb nice chunk block check ch dict] w (uO w ST):=by
 have⟨W,hW⟩:=ex (((w.alloc (.cells #[.int .i64 lc,.int .i64 lp,.int .i64 pb,.int .i64 nice,.int .i64 chunk,.int .i64 block,.int .i64 check,ch,.int .u32 dict] 26)).alloc (.cells #[.slice none 0 0] 22)).alloc (.cells #[.int .i64 0] 36));obtain⟨r0,r1,r2,bZ,hs⟩:=Qn (vs:=[.int .i64 lc,.int .i64 lp,.int .i64 pb,.int .i64 nice,.int .i64 chunk,.int .i64 block,.int .i64 check,ch,.int .u32 dict]) hW;have xl:Hid (∀W',Below W.heap.size W W'->W'.cell? ⟨w.heap.size,0,none⟩=some (.int .i64 lc)/\W'.cell? ⟨w.heap.size,1,none⟩=some (.int .i64 lp)/\W'.cell? ⟨w.heap.size,2,none⟩=some (.int .i64 pb)/\W'.cell? ⟨w.heap.size,3,none⟩=some (.int .i64 nice)/\W'.cell? ⟨w.heap.size,4,none⟩=some (.int .i64 chunk)/\W'.cell? ⟨w.heap.size,5,none⟩=some (.int .i64 block)/\W'.cell? ⟨w.heap.size,6,none⟩=some (.int .i64 check)/\W'.cell? ⟨w.heap.size,7,none⟩=some ch/\W'.cell? ⟨w.heap.size,8,none⟩=some (.int .u32 dict)):=ae (λW' yE=>by
  have r:=(yE.block _ (bU r0)).trans r0;refine⟨?_,?_,?_,?_,?_,?_,?_,?_,?_⟩<;>(rw[aC W' _ _ _ _ _ r];rfl))
 obtain⟨k0,k1,k2,k3,k4,k5,k6,k7,k8⟩:=xl.out W (aP _ _);have HF:=ae (hF W bZ);have HK:=ae hK;have HJ:=ae hJ;have HR:Hid (W.heap[w.heap.size+1]? =some (.cells #[.slice none 0 0] 22 (0,0))/\W.heap[w.heap.size+1+1]? =some (.cells #[.int .i64 0] 36 (0,0))):=ae ⟨r1,r2⟩;have HW:=ae hW;have cW:=ae bZ;have gx:=ae (ap hB (ap hA (ap hc (ap hm hl))));have HN:=ae (ap aI (ap aK hs));clear hW bZ hs r0 r1 r2 hB hA hc hm hF hK hJ;refine(callsIn_wide (n:=6)).1 ?_;refine callsIn_of_wp_marks func9 rfl trivial ?_ rfl;simp only[ntmps9,List.size_toArray,el,List.length_nil,Nat.reduceAdd,Nat.reduceSub,Array.replicate_succ,Array.replicate_zero,List.push_toArray,List.append_toArray,fL,List.cons_append]
 gi_wp2_with fail
 rw[HW.out];refine⟨trivial,(callsIn_wide.2 HF.out).mono ?_⟩;rintro e w1 ⟨rfl,aI⟩;clear k0 k1 k2 k3 k4 k5 k6 k7 k8;obtain⟨k0,k1,k2,k3,k4,k5,k6,k7,k8⟩:=xl.out w1 aI;have bF:=ae aI;clear aI;have⟨n,hn⟩:=ex (w1.heap.size);have⟨W2,gH⟩:=ex ((w1.alloc (.cells #[.slice none 0 0] 27)).alloc (.cells #[.slice none 0 0] 28));have tM:W2.heap[n]? =some (.cells #[.slice none 0 0] 27 (0,0)):=by rw[<-gH,<-hn];exact(ee _ _ _ ah).trans (bz w1 _)
 have Bi:W2.heap[n+1]? =some (.cells #[.slice none 0 0] 28 (0,0)):=by have h:=bz (w1.alloc (.cells #[.slice none 0 0] 27)) (.cells #[.slice none 0 0] 28);rw[pV,hn,gH]at h;exact h
 have aK:Below w1.heap.size w1 W2:=by rw[<-gH];exact(az).alloc ah _
 have qx:W2.heap.size=n+2:=by rw[<-gH,<-hn];simp
 obtain⟨_,_,_,_,_,d5,_,_,_⟩:=xl.out W2 (aQ bF.out aK);rw[<-gH]at d5;have dG:=ae (aQ bF.out aK);have rf:=ae gH;have HQ:=ae (ap tM (ap Bi (ap qx hn)));have RL:=ae (λW=>ze A D.length c block W);clear gH tM Bi aK qx hn
 gi_wp2_with fail
 rw[rf.out];refine⟨trivial,(callsIn_wide.2 (RL W2)).mono ?_⟩;rintro e W4 ⟨rfl,lP⟩;clear d5 k0 k1 k2 k3 k4 k5 k6 k7 k8;rw[HQ.2.2.2,HQ.2.2.1]
 gi_wp2_with fail
 have ks:W4.heap[n+2]? =some (.cells #[.slice A D.length c] 22 (0,0)):=by rw[<-lP,<-HQ.2.2.1];exact(ee _ _ _ ah).trans (bz W2 _)
 have fK:W4.heap[n+3]? =some (.cells #[.int .i64 block] 3 (0,0)):=by have h:=bz (W2.alloc (.cells #[.slice A D.length c] 22)) (.cells #[.int .i64 block] 3);rw[pV,HQ.2.2.1,lP]at h;exact h
 have bc:Below W2.heap.size W2 W4:=by rw[<-lP];exact(az).alloc ah _
 have tg:W4.heap.size=n+4:=by rw[<-lP];simp[HQ.2.2.1]
 have⟨s,hsb⟩:=ex (block.toNat);have Jb:(s:Int)=block:=av HN.out;obtain⟨b,off,hAb⟩: ∃b off,D.length≠0->A=some ⟨b,off,none⟩/\b<w.heap.size/\Bytes w (some ⟨b,off,none⟩) D:=by
  by_cases h0:D.length=0;·exact⟨0,0,λh=>absurd h0 h⟩
  ·obtain⟨b,off,e,hb,_⟩:=gx.1.addr aa;exact⟨b,off,λ_=>⟨e,hb,e▸gx.1⟩⟩
 have fJ:=ae (aQ dG.out bc)
 have H0:Hid (Ig n W4 (λx:Pt D.length=>fb x.of) (λx=>(((fr x.of).1:Int),((fr x.of).2:Int))) [] W4):=ae
  ⟨⟨_,_,(bc.block _ (av HQ.2.2.1)).trans HQ.1,(bc.block _ (av HQ.2.2.1)).trans HQ.2.1,qs.nil _ _⟩,rfl,aP _ _,Nat.le_of_eq tg.symm⟩
 have HX:=ae (ap ks (ap fK (ap tg hAb)));have hnw:w.heap.size+3<=n:=by have h1:=HN.2.2;have h2:=bF.size;have h3:=HQ.2.2.2;omega
 have HNW:=ae hnw;have LP:=ae (ap hsb Jb);clear ks fK bc tg hAb lP hsb Jb hnw
 refine wN rfl ar (gf:=33) (lb:= #[PF (n+2),PF (n+3)]) rfl trivial (enters_of func33 ak rfl)
  (zd Fence.wide 5 trivial rfl ar D b off c s (n+2) (n+3) A (λh=>(HX.2.2.2 h).1) gx.2.2.1 gx.2.2.2.1 (av gx.2.2.2.2) zW zW W4 sw aa (by rw[aC W4 _ _ _ _ _ HX.1];rfl) (aS _ _ _ _ _ HX.1) (by rw[LP.2];exact HX.2.1) sw) sw (λx=>rfl)
  (Ig n W4 (λx:Pt D.length=>fb x.of) (λx=>(((fr x.of).1:Int),((fr x.of).2:Int)))) (λs W o h=>h.alloc s W o) (λs W l o o' h=>h.put HX.2.2.1 s W l o o') Ig.Ov (λs W h=>h.n2) H0.out
  (λx=>{tmps:= #[.slice A D.length c,(StO lc lp pb nice chunk block check ch dict),undef,.pointer (some ⟨w.heap.size,0,none⟩),.pointer (some ⟨w.heap.size+1,0,none⟩),.pointer (some ⟨w.heap.size+1+1,0,none⟩),.pointer (some ⟨n,0,none⟩),.pointer (some ⟨n+1,0,none⟩),(.slice (some ⟨b,off+x.1.1,none⟩) x.1.2 (c-x.1.1)),undef,undef,undef,(StO lc lp pb nice chunk block check ch dict),.bool true,.bool false,.slice A D.length c,.pointer (some ⟨w.heap.size,5,none⟩),.int .i64 block,.func (.func 33) #[] #[PF (n+2),PF (n+2+1)],(.slice (some ⟨b,off+x.1.1,none⟩) x.1.2 (c-x.1.1)),undef,undef,undef,undef,undef,undef,undef,undef,undef,undef,undef,undef,undef,undef,undef,undef,undef,undef,undef,undef,undef,undef,undef,undef],defers:=[]}) ?assign ?body ?done
 case assign=>
  intro l x Wx K hK;unfold aa4
  gi_wp2
  exact hK
 case body=>
  rintro l pre x Wr hI xe;obtain⟨vB,vR,dE,ei,zg⟩:=hI.ex;have xJ:=x.2;have hWn:W.heap.size<=n:=by have h1:=bF.size;have h3:=HQ.2.2.2;omega
  have Dy:Below W.heap.size W Wr:=fJ.trans (hI.below.mono hWn);obtain⟨k0,k1,k2,k3,k4,k5,k6,k7,k8⟩:=xl.out Wr Dy;have ja:=aQ cW.out Dy;obtain⟨Zs,hA2,hA3⟩:=HX.2.2.2 aa;have hBP:Bytes Wr (some ⟨b,off+x.1.1,none⟩) x.of:=((Bytes.drop x.1.1 hA3).take x.1.2).below ja;have asR:x.of.length=x.1.2:=by unfold Pt.of;rw[eZ,fZ];omega
  have KS:=ae (HK Wr ja (some ⟨b,off+x.1.1,none⟩) x.of (c-x.1.1) hBP (av gx.out) (av gx.out) (av gx.out));rw[asR]at KS;have HI:=ae hI;have HP:=ae (ap dE (ap ei (ap zg (ap Dy xe))));clear dE ei zg xJ Dy ja Zs hA2 hA3 hBP hI xe
  gi_wp2_with fail
  refine⟨trivial,(CallsIn.inRound _ (callsIn_wide.2 KS.out)).mono ?_⟩;rintro e W1 ⟨g,cg,rfl,hcg,BJ,hBg,aI⟩;obtain⟨vs,hv,xr,hve⟩:=HP.2.2.1.vs;obtain⟨⟨r1,r2⟩,hr⟩: ∃r,fr x.of=r:=⟨_,rfl⟩
  have⟨L,hL⟩:=ex (fb x.of);rw[hL]at hcg hBg ⊢;rw[hr];have dF:=HI.sz;have⟨Wa,hWa⟩:=ex (W1.alloc (.cells #[.int .i64 r1,.int .i64 r2] 51));obtain⟨PM,p8⟩:=wV (vs:=[.int .i64 r1,.int .i64 r2]) hWa;have⟨Wb,hWb⟩:=ex (Wa.alloc (.cells #[.slice (some ⟨g,0,none⟩) L.length cg] 22));obtain⟨Hd,fE⟩:=wV (vs:=[.slice (some ⟨g,0,none⟩) L.length cg]) hWb;have h1a:Below Wr.heap.size Wr Wa:=aQ aI p8;have i_:Below Wr.heap.size Wr Wb:=aQ h1a fE;have sa:Wa.heap.size=W1.heap.size+1:=by rw[<-hWa];simp
  have sb:Wb.heap.size=Wa.heap.size+1:=by rw[<-hWb];simp
  have s1:=aI.size;have q0:=(i_.block n aa).trans HP.1;have q1:=(i_.block (n+1) aa).trans HP.2.1;have hTb:=HP.2.2.1.below i_;have hvb:aZ 22 (n+4) Wb vB vs:=hv.below i_;have hu:wO (n+4) Wb vB vR (.slice (some ⟨g,0,none⟩) L.length cg) L:=⟨g,cg,rfl,hcg,⟨aa,aa⟩,(λe=>by have:=(hv.lt _ e).2;omega),(λe=>by have:=(HP.2.2.1.G7.lt _ e).2;omega),hBg.below (aQ p8 fE)⟩
  have alP: ∀(i:Nat) v L',vs[i]? =some v->(pre.map λx:Pt D.length=>fb x.of)[i]? =some L'->wO (n+4) Wb vB vR v L':=λi v L' h1 h2=>by obtain⟨g',c',e,e1,e2,e3,e4,e5⟩:=hve i v L' h1 h2;exact⟨g',c',e,e1,⟨e2.1,aa⟩,e3,e4,e5.below i_⟩
  have c0:Wa.cell? ⟨n,0,none⟩=some vB:=by have:=(h1a.block n aa).trans HP.1;rw[aC _ _ _ _ _ _ this];rfl
  rw[<-hWa]at c0;have hlen:vs.length<=3000:=by rw[xr,cX];have:=HP.2.2.2.2;omega
  have HWB:=ae (show(W1.alloc (.cells #[.int .i64 r1,.int .i64 r2] 51)).alloc (.cells #[.slice (some ⟨g,0,none⟩) L.length cg] 22)=Wb by rw[hWa];exact hWb);have HWA:=ae hWa;have yC:=ae (ap q0 (ap q1 (ap hTb (ap hvb (ap hu alP)))));have HS:=ae (ap sa (ap sb (ap dF (ap s1 (ap hlen xr)))));have zE:=ae (ap ((fE.block _ (bU PM)).trans PM) Hd);have H1B:=ae i_;have HLR:=ae (ap hL hr);have zv:Hid (∀i (h:i<[Value.slice (some ⟨g,0,none⟩) L.length cg].length),Wb.cell? ⟨W1.heap.size+1,i,none⟩=some [Value.slice (some ⟨g,0,none⟩) L.length cg][i]):=ae (λi hi=>by
   obtain rfl:i=0:=jP;rw[<-sa,aC _ _ _ _ _ _ Hd];rfl)
  have alQ:Hid (∀(v4:Value) (w4:Lo),Wb.grownBy w4 vB.ownBlock->(w4.heap[n]? =some (.cells #[vB] 27 (0,0))/\w4.heap[n+1]? =some (.cells #[vR] 28 (0,0))/\w4.heap[W1.heap.size]? =some (.cells #[.int .i64 r1,.int .i64 r2] 51 (0,0)))):=ae (λv4 w4 hg=>by
   have e1:W1.heap.size<Wb.heap.size:=aa;refine⟨(hg.block n aa (λe=> ?_)).trans q0,(hg.block (n+1) aa (λe=> ?_)).trans q1,(hg.block _ e1 (λe=> ?_)).trans ((fE.block _ (bU PM)).trans PM)⟩;·have:=(hv.lt _ e.symm).1;omega
   ·have:=(hv.lt _ e.symm).1;omega
   ·have:=(hv.lt _ e.symm).2;omega)
  clear hcg BJ hBg aI k0 k1 k2 k3 k4 k5 k6 k7 k8 hv xr hve hL hr dF hWa p8 hWb fE h1a i_ sa sb s1 q0 q1 hTb hvb hu alP hlen PM Hd;have hvn:=HS.out;have aBz:pre.length<=3000:=av HP.2.2.2.2
  gi_wp2_with (first|(gi_at_builtin;rw[HWB.out];refine tp CU ?_ (.tmp 30) (.tmp 32) ?_ (n+4) Wb vB vs ?_ yC.2.2.2.1 (W1.heap.size+1) 1 1 [.slice (some ⟨g,0,none⟩) L.length cg] ?_ rfl zv.out oY aa aa aa ?_;rfl;rfl;rfl;rfl;intro v4 w4 bM dq KT;obtain⟨A4,k4,c4,rfl⟩: ∃A4 k4 c4,v4= .slice A4 k4 c4:=(by obtain⟨A4,c4,e,_⟩:=bM.read;exact⟨A4,_,c4,e⟩);have vA:=ae (ap bM (ap dq KT));have Ri:=ae (yC.2.2.1.G7.aU (w':=w4) λg e=>dq.block g (yC.2.2.1.G7.lt g e).2 (λe2=>yC.2.2.1.ne g e2.symm e));have H4N:=ae (ap dq.size (alQ (.slice A4 k4 c4) w4 dq));have hq4:=alQ.out (.slice A4 k4 c4) w4 dq;have cO4:w4.cell? ⟨n,0,none⟩=some vB:=(by rw[aC _ _ _ _ _ _ hq4.1];rfl);have fO4:w4.frozen? ⟨n,0,none⟩=false:=aS _ _ _ _ _ hq4.1;have cR4:(w4.setCell ⟨n,0,none⟩ (.slice A4 k4 c4)).cell? ⟨n+1,0,none⟩=some vR:=(by rw[aC _ _ _ _ _ _ ((af _ _ _ _ (by show n+1≠n;omega)).trans hq4.2.1)];rfl);have cA0:(w4.setCell ⟨n,0,none⟩ (.slice A4 k4 c4)).cell? ⟨W1.heap.size,0,none⟩=some (.int .i64 r1):=O1;have cA1:(w4.setCell ⟨n,0,none⟩ (.slice A4 k4 c4)).cell? ⟨W1.heap.size,1,none⟩=some (.int .i64 r2):=O1;clear bM dq KT hq4 c0)|(gi_at_builtin;obtain⟨Wc,hWc⟩: ∃Wc,(w4.setCell ⟨n,0,none⟩ (.slice A4 k4 c4)).alloc (.cells #[.int .i64 r1,.int .i64 r2] 51)=Wc:=⟨_,rfl⟩;rw[hWc];have tg:(w4.setCell ⟨n,0,none⟩ (.slice A4 k4 c4)).heap.size=w4.heap.size:=pU _ _ _;have Lu:Below w4.heap.size (w4.setCell ⟨n,0,none⟩ (.slice A4 k4 c4)) Wc:=(by rw[<-hWc];exact(aP _ _).alloc (Nat.le_of_eq tg.symm) _);have hrc:Wc.heap[w4.heap.size]? =some (.cells #[.int .i64 r1,.int .i64 r2] 51 (0,0)):=(by have h:=bz (w4.setCell ⟨n,0,none⟩ (.slice A4 k4 c4)) (.cells #[.int .i64 r1,.int .i64 r2] 51);rw[tg,hWc]at h;exact h);have hRc:dY 51 (n+4) Wc vR (pre.map (λx:Pt D.length=>(((fr x.of).1:Int),((fr x.of).2:Int)))):=(Ri.set (p:=⟨n,0,none⟩) (by show n<n+4;omega) (.slice A4 k4 c4)).aU (λg e=>Lu.block g (Ri.lt g e).2);have HBC:=ae Lu;have HRC:=ae hRc;have H4S:=H4N.1;have hSc:=Lu.size;rw[tg]at hSc;refine sj YA ?_ (.tmp 34) (.tmp 36) ?_ (n+4) Wc vR (pre.map (λx:Pt D.length=>(((fr x.of).1:Int),((fr x.of).2:Int)))) ?_ hRc w4.heap.size 1 ((r1:Int),(r2:Int)) ?_ (by rw[aC _ _ _ _ _ _ hrc];rfl) (by rw[aC _ _ _ _ _ _ hrc];rfl) (by rw[cX]at*;omega) (by rw[cX]at*;omega) aa ?_;rfl;rfl;rfl;rfl;intro v6 w6 T9 ot lf;obtain⟨A6,k6,c6,rfl⟩: ∃A6 k6 c6,v6= .slice A6 k6 c6:=(by obtain⟨A6,c6,e⟩:=SY T9;exact⟨A6,_,c6,e⟩);have Pn:=ae (ap T9 (ap ot lf));have hq6:w6.heap[n+1]? =some (.cells #[vR] 28 (0,0)):=(ot.block (n+1) aa (λe=>by have:=(HRC.lt _ e.symm).1;omega)).trans ((Lu.block (n+1) aa).trans ((af _ _ _ _ (by show n+1≠n;omega)).trans H4N.2.2.1));have cO6:w6.cell? ⟨n+1,0,none⟩=some vR:=(by rw[aC _ _ _ _ _ _ hq6];rfl);have fO6:w6.frozen? ⟨n+1,0,none⟩=false:=aS _ _ _ _ _ hq6;clear T9 ot lf hq6 cR4 cA0 cA1 hWc tg Lu hrc hRc cO4 fO4))
  exact Ig.push HI.out H1B.out yC.1 yC.2.1 yC.2.2.1 yC.2.2.2.1 HS.2.2.2.2.2 yC.2.2.2.2.2 (u:= .slice (some ⟨g,0,none⟩) L.length cg) (by show wO _ _ _ _ _ (fb x.of);rw[HLR.1];exact yC.2.2.2.2.1) vA.1 vA.2.1 vA.2.2 HBC.out (by show dY _ _ _ _ (_++[(((fr x.of).1:Int),((fr x.of).2:Int))]);rw[HLR.2];exact Pn.1) Pn.2.1 Pn.2.2
 case done=>
  rintro DD xs W5 hD hS hI hKd;obtain⟨vB,vR,dE,ei,zg⟩:=hI.ex;have hWn:W.heap.size<=n:=by have h1:=bF.size;have h3:=HQ.2.2.2;omega
  have Dy:Below W.heap.size W W5:=fJ.trans (hI.below.mono hWn);obtain⟨k0,k1,k2,k3,k4,k5,k6,k7,k8⟩:=xl.out W5 Dy;have ja:=aQ cW.out Dy;have e1:xs.map (λx:Pt D.length=>fb x.of)=(eG block.toNat D).map fb:=by rw[LP.1,<-hS,List.map_map];rfl
  have e2:xs.map (λx:Pt D.length=>(((fr x.of).1:Int),((fr x.of).2:Int)))=(eG block.toNat D).map λP=>(((fr P).1:Int),((fr P).2:Int)):=by rw[LP.1,<-hS,List.map_map];rfl
  rw[e1,e2]at zg;have HJN:=ae (HJ W5 ja (n+4) vB vR zg);have cB:W5.cell? ⟨n,0,none⟩=some vB:=by rw[aC _ _ _ _ _ _ dE];rfl
  have cR:W5.cell? ⟨n+1,0,none⟩=some vR:=by rw[aC _ _ _ _ _ _ ei];rfl
  have lV:=ae (ap ((Dy.block _ (bU HR.1)).trans HR.1) ((Dy.block _ (bU HR.2)).trans HR.2));have alR:=ae ja;have Zz:=ae hKd;have Pw:=ae (ap hD (ap HX.2.2.1 hI.sz));clear dE ei zg e1 e2 Dy ja hI hKd hD hS
  gi_wp2_with fail
  refine⟨trivial,(callsIn_wide.2 HJN.out).mono ?_⟩;rintro e W6 ⟨g,cap,rfl,IU,ot,zG,oq⟩;have qj:=(oq.block _ (bU lV.1)).trans lV.1;have nR:=(oq.block _ (bU lV.2)).trans lV.2;have cr1:W6.cell? ⟨w.heap.size+1,0,none⟩=some (.slice none 0 0):=by rw[aC _ _ _ _ _ _ qj];rfl
  have cr2:W6.cell? ⟨w.heap.size+1+1,0,none⟩=some (.int .i64 0):=by rw[aC _ _ _ _ _ _ nR];rfl
  have fr1:W6.frozen? ⟨w.heap.size+1,0,none⟩=false:=aS _ _ _ _ _ qj;have fr2:W6.frozen? ⟨w.heap.size+1+1,0,none⟩=false:=aS _ _ _ _ _ nR;have HJ6:=ae (ap IU (ap ot (ap zG (ap oq (ap qj nR)))));clear IU ot zG oq qj nR k0 k1 k2 k3 k4 k5 k6 k7 k8 cB cR
  gi_wp2_with fail
  have⟨W8,RM⟩:=ex ((W6.setCell ⟨w.heap.size+1,0,none⟩ (.slice (some ⟨g,0,none⟩) ST.length cap)).setCell ⟨w.heap.size+1+1,0,none⟩ (.int .i64 0));have h66:=HJ6.out;have hdd:=Pw.out;have hnw:=HNW.out;have s6:=h66.2.2.2.1.size;have Jz:=(bU Zz.out)
  have oth: ∀i,i≠w.heap.size+1->i≠w.heap.size+1+1->W8.heap[i]? =W6.heap[i]? :=λi h1 h2=>by rw[<-RM];exact(af _ _ _ _ h2).trans (af _ _ _ _ h1)
  have hK8:W8.heap[DD]? =some (.deferred (some [])):=(oth DD aa aa).trans ((h66.2.2.2.1.block _ Jz).trans Zz.out);have g1:W8.heap[w.heap.size+1]? =some (.cells #[.slice (some ⟨g,0,none⟩) ST.length cap] 22 (0,0)):=by rw[<-RM];exact(af _ _ _ _ (by show w.heap.size+1≠w.heap.size+1+1;omega)).trans (heap_set h66.2.2.2.2.1 0 _)
  have g2:W8.heap[w.heap.size+1+1]? =some (.cells #[.int .i64 0] 36 (0,0)):=by rw[<-RM];exact heap_set ((af _ _ _ _ (by show w.heap.size+1+1≠w.heap.size+1;omega)).trans h66.2.2.2.2.2) 0 _
  have sz8:W8.heap.size=W6.heap.size:=by rw[<-RM,pU,pU]
  have rG:Below w.heap.size w W8:=by rw[<-RM];exact((aQ alR.out h66.2.2.2.1).setCell pa _).setCell FN _
  rw[RM];have kk1:(W8.putObj DD (.deferred none)).cell? ⟨w.heap.size+1,0,none⟩=some (.slice (some ⟨g,0,none⟩) ST.length cap):=by rw[aC _ _ _ _ _ _ ((World.putObj_heap_other aa).trans g1)];rfl
  have kk2:(W8.putObj DD (.deferred none)).cell? ⟨w.heap.size+1+1,0,none⟩=some (.int .i64 0):=by rw[aC _ _ _ _ _ _ ((World.putObj_heap_other aa).trans g2)];rfl
  have Fn:Bytes (W8.putObj DD (.deferred none)) (some ⟨g,0,none⟩) ST:=h66.2.2.1.Qi (by rw[World.putObj_size,sz8];exact aF _) ((World.putObj_heap_other aa).trans (oth g aa aa));have Du:Below w.heap.size w (W8.putObj DD (.deferred none)):=rG.grown (grownBy_putObj' W8 DD (.deferred none)) rG.size (λk e=>t6);have hs9:g<(W8.putObj DD (.deferred none)).heap.size:=by rw[World.putObj_size,sz8];exact h66.2.1.2
  have J3:w.heap.size<=g:=by have:=h66.2.1.1;have:=alR.size;omega
  refine⟨ah,.inl ⟨_,_,rfl,run_takeDeferred (b:=DD) (ds:=[]) hK8,?_⟩⟩;exact⟨_,(by simp[results,results9,go_sem,kk1,kk2]),g,cap,rfl,h66.1,⟨J3,hs9⟩,Fn,Du⟩
end
end Go.Proofs.YtfcaoggfnkhfiaaGreatDoor
