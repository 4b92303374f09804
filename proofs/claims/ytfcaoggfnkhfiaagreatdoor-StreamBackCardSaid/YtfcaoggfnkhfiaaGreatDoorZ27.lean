import Derived.Test.YtfcaoggfnkhfiaaGreatDoorZ17
import Derived.Deep.Slices
import Derived.Deep.Fields
import Derived.ChangeSame
import Derived.Lib.SmallJoins
import Derived.RangeFuncOwn
import Derived.Maps.AppendAt
import Derived.Deep.CutBlock
import Derived.Deep.DeepCutAuto
import Derived.Test.YtfcaoggfnkhfiaaGreatDoorZ24
import Derived.Test.YtfcaoggfnkhfiaaGreatDoorZ26
import Derived.Deep.RegionHeld3
namespace Go.Proofs.YtfcaoggfnkhfiaaGreatDoor
set_option maxRecDepth 100000
set_option maxHeartbeats 8000000
open Go.RowKit Go.Proofs.Tryz
variable{l rs:List (Int×Int)}{Ls:List (List UInt8)}{D:List UInt8}{b base g j n:Nat}{o:Obj}{t:TypeId}{v' vB vR z:Value}{W W' w w':World}
structure Op where
 lc:Int
 lp:Int
 pb:Int
 nice:Int
 chunk:Int
 block:Int
 check:Int
 A:Option Addr
 l:List bS
 c:Nat
 dict:Nat
abbrev Op.ch(o:Op):Value:= .slice o.A o.l.length o.c
abbrev Op.v(o:Op):Value:=Bh o.lc o.lp o.pb o.nice o.chunk o.block o.check o.ch o.dict
def Op.jP(o:Op):Bool:=jU o.lc o.lp o.pb o.nice o.chunk o.dict&&jE o.l&&bG o.check
structure uY(w:World)(o:Op):Prop where
 pD:fN w o.A o.l
 lc:o.l.length≤o.c
 c:o.c≤9223372036854775807
 dict:o.dict<4294967296
 few:o.l.length≤20
theorem uY.below{o:Op}(h:uY w o)(hb:Below w.heap.size w w'):uY w' o:=⟨h.pD.below hb,h.lc,h.c,h.dict,h.few⟩
theorem eb{o:Op}(h:W.heap[b]? =some (.cells (iG o.lc o.lp o.pb o.nice o.chunk o.block o.check o.ch o.dict).toArray 26 (0,0))):
  W.cell? ⟨b,0,none⟩=some (.int .i64 o.lc)∧W.cell? ⟨b,1,none⟩=some (.int .i64 o.lp)∧W.cell? ⟨b,2,none⟩=some (.int .i64 o.pb)∧W.cell? ⟨b,3,none⟩=some (.int .i64 o.nice)∧W.cell? ⟨b,4,none⟩=some (.int .i64 o.chunk)∧W.cell? ⟨b,5,none⟩=some (.int .i64 o.block)∧W.cell? ⟨b,6,none⟩=some (.int .i64 o.check)∧W.cell? ⟨b,7,none⟩=some o.ch∧W.cell? ⟨b,8,none⟩=some (.int .u32 (o.dict:Nat)):=by
 refine⟨?_,?_,?_,?_,?_,?_,?_,?_,?_⟩<;>(rw[cell_of_row W _ _ _ _ _ h];rfl)
theorem vW(n:Nat)(hn:n≤1000000000)(w:World):Calls prog 40 #[.int .i64 (n:Nat)] w fun e w'=>e= .returned (.int .i64 (aO n:Nat))∧w=w':=by have h:(4-(n:Int)%4)%4=((aO n:Nat):Int):=pN;have H:=ae h;clear h;go_enter func40,ntmps40;go_wp2_with fail;go_ret;exact⟨by rw[←H.out];rfl,rfl⟩
theorem Ko(a:Int)(n:Nat)(hn:n≤1000000000)(w:World):Calls prog 140 #[.int .i64 a,.int .i64 (n:Nat)] w fun e w'=>e= .returned (.bool (decide (a<0)||a==(n:Int)))∧w=w':=by
 have hw:IntKind.i64.wrap (n:Int)=(n:Int):=IntWalk.i64_in _ aa;by_cases h:a<0;·go_enter func140,ntmps140;go_wp2_with fail;go_ret;exact⟨dD,rfl⟩
 ·go_enter func140,ntmps140;go_wp2_with fail;go_ret;exact⟨av,rfl⟩
theorem zE(o:Op)(w:World)(hO:uY w o):Calls prog 26 #[o.v] w (kU o.jP w):=by
 have⟨W,hW⟩:=ex (w.alloc (.cells #[.int .i64 o.lc,.int .i64 o.lp,.int .i64 o.pb,.int .i64 o.nice,.int .i64 o.chunk,.int .i64 o.block,.int .i64 o.check,o.ch,.int .u32 (o.dict:Nat)] 26));obtain⟨aP,fw⟩:=gz (vs:=iG o.lc o.lp o.pb o.nice o.chunk o.block o.check o.ch o.dict) hW;have HC:=ae (fun(W':World) (h:Below W.heap.size W W')=>eb ((h.block _ (cr aP)).trans aP));obtain⟨k0,k1,k2,k3,k4,k5,k6,k7,k8⟩:=HC.out W (Below.refl _ _);have H1:=ae (FU o.lc o.lp o.pb o.nice o.chunk o.block o.check o.ch o.dict W);have H2:=ae (fun(W':World) (h:Below W.heap.size W W')=>th o.A o.l o.c W' ((hO.pD.below fw).below h) hO.few);have H3:=ae (fun(W':World)=>kZ o.check W');have HW:=ae hW;have dE:=ae fw;have HR:Hid (o.jP=(jU o.lc o.lp o.pb o.nice o.chunk o.dict&&jE o.l&&bG o.check)):=ae rfl;generalize jU o.lc o.lp o.pb o.nice o.chunk o.dict=b1 at*;generalize jE o.l=b2 at*;generalize bG o.check=b3 at*;generalize o.jP=b at*;clear aP hW fw hO;cases b1 with
 | false=>
  go_enter func26,ntmps26;go_upto_region 1 with fail;rw[HW.out];go_wp2_with fail;refine H1.out.mono ?_;rintro e w1 ⟨rfl,az⟩;have a7:=ae az;clear az;go_wp2_with fail;go_ret;exact⟨by rw[HR.out];rfl,aM dE.out a7.out⟩
 | true=>
  cases b2 with
  | false=>
   go_enter func26,ntmps26;go_upto_region 1 with fail;rw[HW.out];go_wp2_with fail;refine H1.out.mono ?_;rintro e w1 ⟨rfl,az⟩;have a7:=ae az;clear az k0 k1 k2 k3 k4 k5 k6 k7 k8;obtain⟨k0,k1,k2,k3,k4,k5,k6,k7,k8⟩:=HC.out w1 a7.out;go_wp2_with fail;refine(H2.out w1 a7.out).mono ?_;rintro e w2 ⟨rfl,aD⟩;have dW:=ae (aM a7.out aD);clear aD;go_wp2_with fail;go_ret;exact⟨by rw[HR.out];rfl,aM dE.out dW.out⟩
  | true=>
   go_enter func26,ntmps26;go_upto_region 1 with fail;rw[HW.out];go_wp2_with fail;refine H1.out.mono ?_;rintro e w1 ⟨rfl,az⟩;have a7:=ae az;clear az k0 k1 k2 k3 k4 k5 k6 k7 k8;obtain⟨k0,k1,k2,k3,k4,k5,k6,k7,k8⟩:=HC.out w1 a7.out;go_wp2_with fail;refine(H2.out w1 a7.out).mono ?_;rintro e w2 ⟨rfl,aD⟩;have dW:=ae (aM a7.out aD);clear aD k0 k1 k2 k3 k4 k5 k6 k7 k8;obtain⟨k0,k1,k2,k3,k4,k5,k6,k7,k8⟩:=HC.out w2 dW.out;go_wp2_with fail;refine(H3.out w2).mono ?_;rintro e w3 ⟨rfl,bA⟩;have gF:=ae (aM dW.out bA);clear bA;go_wp2_with fail;go_ret;exact⟨by rw[HR.out];rfl,aM dE.out gF.out⟩
section
open Go.ChangeShapes Go.WideShapes Go.ChangeAt Go.RowKit Go.Joins
theorem GM:prog.cellsOf 109=2:=ai
theorem GN(b o k:Nat):(⟨b,o,none⟩:Addr).add k=⟨b,o+k,none⟩:=by unfold Addr.add;split<;>simp_all
theorem OX{H:Type}{enc:TypeId×Value→H}{W:World}{v:Value}{y:DataW H×List MemPlace}{n0:Nat}
  (hf:DataW.trod enc prog W 0 (fun _=>true) true n0 23 [v]=some y):
  ∃(A:Option Addr) (l:List bS) (c:Nat),v= .slice A l.length c∧l.length≤c∧c≤9223372036854775807∧fN W A l:=by
 rcases Go.Deep.open_slice underlying23 hf with⟨hcs,_⟩ | ⟨a,len,cap,m,n,D,Pl,hcs,_,hl,hm,IH,_,hi⟩
 ·injection hcs with hcs;subst hcs;exact⟨none,[],0,rfl,ag,aa,.inl rfl⟩
 ·injection hcs with hcs;subst hcs;simp only[if_true]at IH;unfold maxLen at hm;obtain⟨b,off,spot⟩:=a;have hsp:0<len→spot=none:=by intro AK;obtain⟨cs',hc,_⟩:=hi 0 aa;rw[GM]at hc;obtain⟨_,eS,dm⟩:=World.cells?_some hc;have:=World.cell?_spot ((dm 0 aa).trans (List.getElem?_eq_getElem aa));simpa [Addr.add]using this
  have key: ∀i,i<len→spot=none∧b<W.heap.size∧ ∃f,Cy W b (off+i*2) f:=by
   intro i hil;obtain⟨cs',hc,ht⟩:=hi i aa;rw[GM]at hc;obtain⟨_,eS,dm⟩:=World.cells?_some hc;obtain⟨ys,n',_,_,_,hyl,hf⟩:=DataW.trod_struct underlying109 ht;have ob: ∀j,j<2→ys[j]?.isSome=true:=fun j hj=>(by rw[List.getElem?_eq_getElem (by rw[hyl];exact hj)];rfl);obtain⟨z0,e0,w0⟩:=fx (j:=0) underlying3 aa (ob 0 aa) (hf 0 _ rfl);obtain⟨z1,e1,w1⟩:=fx (j:=1) underlying24 aa (ob 1 aa) (hf 1 _ rfl);have Qz:spot=none:=hsp aa;subst Qz;have QL: ∀j,((⟨b,off,none⟩:Addr).add (i*2)).add j=⟨b,off+i*2+j,none⟩:=(by intro j;rw[GN,GN]);have h0:=(dm 0 aa).trans e0;have h1:=(dm 1 aa).trans e1;rw[QL]at h0 h1;have hz:=vl w0;refine⟨rfl,?_,⟨z0,(BitVec.ofNat 32 z1.toNat).toNat⟩,h0,?_,hz.1,hz.2,(BitVec.ofNat 32 z1.toNat).isLt⟩;·exact block_lt_of_cell h0
   ·rw[←Le w1];exact h1
  refine⟨some ⟨b,off,spot⟩,(List.range len).map (fun i=>if h:i<len then Classical.choose (key i h).2.2 else⟨0,0⟩),cap,ag,by simpa using hl,hm,?_⟩;rcases Nat.eq_zero_or_pos len with h0 | AK;·subst h0;exact .inl rfl
  ·obtain⟨rfl,hb,_⟩:=key 0 AK;refine .inr ⟨b,off,rfl,hb,fun i hil=> ?_⟩;have ahf:i<len:=(by simpa using hil);have:=Classical.choose_spec (key i ahf).2.2;rw[List.getElem_map,List.getElem_range,dif_pos ahf];exact this
theorem zF{H:Type}{enc:TypeId×Value→H}{W:World}{b0:Nat}{v:Value}{d:DataW H}{p:List MemPlace}
  (hval:Value.okWide prog W .any b0 26 v) (h:DataW.Trod enc prog W 0 (fun _=>true) true 26 v d p):
  ∃o:Op,v=o.v∧fN W o.A o.l∧(∀f∈o.l,f.ok)∧o.l.length≤o.c∧o.c≤9223372036854775807∧o.dict<4294967296∧o.block≤9223372036854775807:=by
 obtain⟨cs,rfl,dl⟩:=okWide_struct underlying26 hval;rw[RX]at dl;obtain⟨a,b,c,d',e,f,g,i,j,hl⟩:=afh (l:=cs.toList) (by simpa using dl);obtain⟨fuel,hf⟩:=h;obtain⟨ys,n',_,_,_,hyl,YR⟩:=DataW.trod_struct underlying26 hf;have ob: ∀j,j<9→ys[j]?.isSome=true:=fun j hj=>by rw[List.getElem?_eq_getElem (by rw[hyl];exact hj)];rfl
 have eS:(Value.agg cs).cells.toList.length=9:=by simpa [Value.cells]using dl
 obtain⟨z0,e0,w0⟩:=fx (j:=0) underlying3 aa (ob 0 aa) (YR 0 _ rfl);obtain⟨z1,e1,w1⟩:=fx (j:=1) underlying3 aa (ob 1 aa) (YR 1 _ rfl);obtain⟨z2,e2,w2⟩:=fx (j:=2) underlying3 aa (ob 2 aa) (YR 2 _ rfl);obtain⟨z3,e3,w3⟩:=fx (j:=3) underlying3 aa (ob 3 aa) (YR 3 _ rfl);obtain⟨z4,e4,w4⟩:=fx (j:=4) underlying3 aa (ob 4 aa) (YR 4 _ rfl);obtain⟨z5,e5,w5⟩:=fx (j:=5) underlying3 aa (ob 5 aa) (YR 5 _ rfl);obtain⟨z6,e6,w6⟩:=fx (j:=6) underlying3 aa (ob 6 aa) (YR 6 _ rfl);obtain⟨z8,e8,w8⟩:=fx (j:=8) underlying24 aa (ob 8 aa) (YR 8 _ rfl);have hce:(Value.agg cs).cells.toList=[a,b,c,d',e,f,g,i,j]:=hl;obtain⟨y7,hy7⟩:=Option.isSome_iff_exists.1 (ob 7 aa);have h7:=YR 7 _ rfl;rw[hy7,hce]at h7;obtain⟨A,l,cc,e7,si,qn,hF⟩:=OX (v:=i) h7;subst e7;rw[hce]at e0 e1 e2 e3 e4 e5 e6 e8;simp only[List.getElem?_cons_zero,List.getElem?_cons_succ,Option.some.injEq]at e0 e1 e2 e3 e4 e5 e6 e8;subst e0 e1 e2 e3 e4 e5 e6 e8;have eu:=vl w5;refine⟨⟨z0,z1,z2,z3,z4,z5,z6,A,l,cc,(BitVec.ofNat 32 z8.toNat).toNat⟩,?_,hF,?_,si,qn,(BitVec.ofNat 32 z8.toNat).isLt,eu.2⟩;·have e32:=Le w8;show Value.agg cs= .agg #[.int .i64 z0,.int .i64 z1,.int .i64 z2,.int .i64 z3,.int .i64 z4,.int .i64 z5,.int .i64 z6,.slice A l.length cc,.int .u32 ((BitVec.ofNat 32 z8.toNat).toNat:Nat)];rw[←e32];obtain⟨cl⟩:=cs;have:cl=_:=hl;subst this;rfl
 ·intro f hf;obtain⟨n,hn,rfl⟩:=List.getElem_of_mem hf;obtain⟨_,_,_,_,dm⟩:=hF.addr (Nat.lt_of_le_of_lt (Nat.zero_le _) hn);exact(dm n hn).ok
end
section
open Go.ChangeShapes Go.WideShapes Go.ChangeAt Go.RowKit Go.Joins
section
variable{H:Type}{enc:TypeId×Value→H}{P:Program}{w:World}{base:Nat}{spare:Nat→Bool}{held:Bool}
theorem Et{t t' t'' t3 t4:TypeId}{args:Array Value}{ds:List (DataW H)}{ps:List MemPlace}(h:DataW.TrodAll enc P w base spare held [t,t',t'',t3,t4] args.toList ds ps):
  ∃v v' v'' v3 v4 d d' d'' d3 d4 p p' p'' p3 p4,args= #[v,v',v'',v3,v4]∧ds=[d,d',d'',d3,d4]∧ps=p++p'++p''++p3++p4∧DataW.Trod enc P w base spare held t v d p∧DataW.Trod enc P w base spare held t' v' d' p'∧DataW.Trod enc P w base spare held t'' v'' d'' p''∧DataW.Trod enc P w base spare held t3 v3 d3 p3∧DataW.Trod enc P w base spare held t4 v4 d4 p4:=by
 obtain⟨v,vs,d,ds',p,q,ZF,rfl,rfl,hd,qP⟩:=trodAll_cons h;obtain⟨v',vs',d',awN,p',q',rfl,rfl,rfl,hd',aca⟩:=trodAll_cons qP;obtain⟨v'',awO,d'',arM,p'',q'',rfl,rfl,rfl,anU,YS⟩:=trodAll_cons aca;obtain⟨v3,vs3,d3,ds3,p3,q3,rfl,rfl,rfl,vV,acb⟩:=trodAll_cons YS;obtain⟨v4,vs4,d4,ds4,p4,q4,rfl,rfl,rfl,hd4,acd⟩:=trodAll_cons acb;obtain⟨rfl,rfl,rfl⟩:=trodAll_nil acd;exact⟨v,v',v'',v3,v4,d,d',d'',d3,d4,p,p',p'',p3,p4,by cases args;simp_all,rfl,ag,hd,hd',anU,vV,hd4⟩
end
end
section
open Go Go.RowKit
def ahg{α:Type}(F:Fence)(n:Nat)(P:Program)(g:Nat)(lb:Array Value)(uS:α→Array Value)(bn bs:Nat)(S:List α→Prop)(N:Nat)(w:World):Prop:=
 ∀(l:Nat) (J:List α→World→Prop) (W:World),Below w.heap.size w W→jm bn J→(∀s W,J s W→W.heap[bs]? =w.heap[bs]?)→
  (∀pre x W1,J pre W1→pre.length<N→YieldAt F (n-1) P l (uS x) W1 fun e W'=>e= .returned (.bool true)∧J (pre++[x]) W'∧fp bn W1 W')→
  J [] W→
  CallsIn F n P g (#[.func (.yield l) #[] #[]]++lb) W fun e W'=>(∃v,e= .returned v)∧ ∃xs,S xs∧J xs W'
variable{F:Fence}{n:Nat}{P:Program}
theorem Ev{α:Type}{g:Operand}{ps:Array Tmp}{assign body:Code}{Q:Exit→Act→World→Prop}{a:Act}{w:World}
  (kv:F.round=none) (h1:1≤n) {gf:Nat} {lb:Array Value} (hg:a.eval g= .func (.func gf) #[] lb) (hFg:F.fn gf) (eg: ∀args w,(callFunc gf args).run P w= .ok (.enter gf args) w)
  {uS:α→Array Value} {bn bs:Nat} {S:List α→Prop} {N:Nat} (Bj:ahg F (n-1) P gf lb uS bn bs S N w) (P8:bn<w.heap.size) (VO: ∀x,(uS x).size=ps.size)
  (I:List α→World→Prop) (hIa: ∀s W o,I s W→I s (W.alloc o)) (DM: ∀s W l o o',I s W→w.heap.size≤l→W.heap[l]? =some o→o.isCells=false→I s (W.putObj l o')) (hIc:jm bn I) (hIb: ∀s W,I s W→W.heap[bs]? =w.heap[bs]?) (h0:I [] w) (a₁:α→Act)
  (nh: ∀(l:Nat) (x:α) (W:World) (K:Act→World→Prop),K (a₁ x) W→
   assign.wpIn (F.inRound l) (n-1-1) P (Exit.then K (fun _ _ _=>False)) {tmps:=(ps.zip (uS x)).foldl (fun t (p,v)=>t.setIfInBounds p v) a.tmps,defers:=[]} W)
  (yl: ∀(l:Nat) (pre:List α) (x:α) (W:World),I pre W→pre.length<N→body.wpIn (F.inRound l) (n-1-1) P (Mf bn I (pre++[x]) W) (a₁ x) W)
  (qG: ∀(D:Nat) (xs:List α) (W:World),w.heap.size≤D→S xs→I xs W→W.heap[D]? =some (.deferred (some []))→Q .normal {a with defers:={target:= .collected D,args:= #[]}::a.defers} W):
  (Code.rangeFunc g ps assign body).wpIn F n P Q a w:=by
 refine wpIn_rangeFunc fun fn ot=> ?_;rw[kv];let ji:LoopState→Loop:=fun st=>{state:=st,pending:=none,fn,tmps:=a.tmps,params:=ps,assign,body,defers:=w.heap.size}
 have⟨W1,fv⟩:=ex ((w.alloc (.deferred (some []))).alloc (.loop (ji .ready)));have az:Below w.heap.size w W1:=by rw[←fv];exact((Below.refl _ w).alloc (Nat.le_refl _) _).alloc ag _
 have LQ:W1.heap[w.heap.size+1]? =some (.loop (ji .ready)):=by rw[←fv];have:=World.alloc_heap_new (w.alloc (.deferred (some []))) (.loop (ji .ready));rwa [World.size_alloc]at this
 have VP:W1.heap[w.heap.size]? =some (.deferred (some [])):=by rw[←fv];exact(Below.heap_alloc _ _ _ ag).trans (World.alloc_heap_new w _)
 have Xx:I [] W1:=CZ
 refine⟨w.heap.size+1,[{target:= .collected w.heap.size,args:= #[]}],W1,{target:= .fn (.func gf) lb,args:= #[.func (.yield (w.heap.size+1)) #[] #[]]},W1,gf,
  #[.func (.yield (w.heap.size + 1)) #[] #[]] ++ lb, W1, ?_, ?_, ?_, ?_, fun _ => h1, ?_⟩
 ·rw[←fv];exact run_enterLoop_outer _ _ _ _ _
 ·simp only[resolve,hg];simp[go_sem]
 ·intro f' R2;simp[Target.leads]at R2;subst R2;exact hFg
 ·simp[invoke,go_sem,eg]
 ·refine(Bj (w.heap.size+1) (fun pre W=>I pre W∧W.heap[w.heap.size+1]? =some (.loop (ji .ready))∧W.heap[w.heap.size]? =some (.deferred (some []))) W1 az ?_ (fun s W hs=>hIb s W hs.1) ?_ ⟨Xx,LQ,VP⟩).mono ?_;·intro s W v hs;exact⟨hIc s W v hs.1,(heap_setCell_other _ _ _ _ (by show w.heap.size+1≠bn;omega)).trans hs.2.1,(heap_setCell_other _ _ _ _ (by show w.heap.size≠bn;omega)).trans hs.2.2⟩
  ·rintro pre x W ⟨hi,hl,hk⟩ hlen;have aH:w.heap.size+1<W.heap.size:=(cr hl)
   have hy:=run_yield (P:=P) (args:=uS x) hl (VO x);refine⟨fn,_,assign,body,hy,roundIn_of_wpIn ot (nh _ x W _ ⟨_,run_beginRound hl rfl,?_⟩)⟩;have wY:(W.putObj (w.heap.size+1) (.loop (ji .busy))).heap[w.heap.size+1]? =some (.loop (ji .busy)):=World.putObj_heap_same aH;have l6:(W.putObj (w.heap.size+1) (.loop (ji .busy))).heap[w.heap.size]? =some (.deferred (some [])):=(World.putObj_heap_other aa).trans hk;have cU:fp bn W (W.putObj (w.heap.size+1) (.loop (ji .busy))):=gR _ _ aa;refine wpIn_mono (yl _ pre x _ (DM _ _ _ _ _ hi aa hl rfl) hlen) ?_;rintro e a3 W3 hp;cases e with
   | normal=>
    obtain⟨mi,hkc,VN⟩:=hp;have qu:=mi.same _ _ wY rfl;have yV:=run_endRound (P:=P) none qu;exact⟨_,_,yV,rfl,⟨DM _ _ _ _ _ VN aa qu rfl,World.putObj_heap_same (cr qu),(World.putObj_heap_other aa).trans (mi.same _ _ l6 rfl)⟩,(cU.trans hkc).trans (gR _ _ aa)⟩
   | ret=>exact hp.elim
   | exit id=>exact hp.elim
   | goto t=>exact hp.elim
   | panic ch=>exact hp.elim
   | outgrown=>exact hp.elim
  ·rintro e W2 ⟨⟨v,rfl⟩,xs,hS,hi,hl,hk⟩;exact⟨none,_,run_endLoop (P:=P) hl (by simp[ji]),qG _ xs _ (Nat.le_refl _) hS (DM _ _ _ _ _ hi aa hl rfl) ((World.putObj_heap_other aa).trans hk)⟩
end
theorem ace:Elem 27 22 (.slice none 0 0) 24:=⟨underlying27,ai,rfl⟩
theorem wG{ts:TypeId}{bytes:Nat}(hE:CG ts t z bytes)(base:Nat)(ty:TypeId)(w:World)(v:Value)(l:List (Int×Int))(aK:dz t base w v l)(hh c:Nat)(r:Int×Int)
  (h0:w.cell? ⟨hh,0,none⟩=some (.int .i64 r.1)) (h1:w.cell? ⟨hh,1,none⟩=some (.int .i64 r.2)) (dl:(l.length+1)*bytes≤140737488355328) (Fc:l.length+1≤140737488355328) (bR:base≤w.heap.size):
  ∃v' w',(Builtin.append_ #[ts,ts] ty #[v,.slice (some ⟨hh,0,none⟩) 1 c]).run prog w= .ok v' w'∧dz t base w' v' (l++[r])∧w.grownBy w' v.ownBlock∧(v'.ownBlock=v.ownBlock∨v'.ownBlock=some w.heap.size):=by
 obtain⟨i,hi,hz⟩:=Option.map_eq_some_iff.1 hE.info;injection hz with kw hz;injection hz with eQ oC
 obtain⟨v',w',hr,h2,h3,_,h5⟩:=run_append_own_at (P:=prog) w base ts ty t i z 2 bytes hE.und hi kw eQ oC hE.two ak
  v l.length (da l) aK ⟨hh,0,none⟩ 1 c (da [r]) (by rw[jQ];rfl) (by
   intro j u hu;have e:(⟨hh,0,none⟩:Addr).add j=⟨hh,j,none⟩:=ml;rw[e];match j,hu with
   | 0,hu=>rw[h0];exact hu
   | 1,hu=>rw[h1];exact hu
   | j+2,hu=>simp[da]at hu) (by intro u hu;simp[da]at hu;rcases hu with rfl | rfl<;>rfl) fF dl bR
 exact⟨v',w',hr,by unfold dz;rw[oc];simpa using h2,h3,h5⟩
def By(base:Nat)(W:World)(vB vR v:Value)(L:List UInt8):Prop:=
 ∃g c,v= .slice (some ⟨g,0,none⟩) L.length c∧(L.length≤c∧c≤9223372036854775807)∧(base≤g∧g<W.heap.size)∧vB.ownBlock≠some g∧vR.ownBlock≠some g∧Bytes W (some ⟨g,0,none⟩) L
structure tV(base:Nat)(W:World)(vB vR:Value)(Ls:List (List UInt8))(rs:List (Int×Int)):Prop where
 vs: ∃vs:List Value,ey 22 base W vB vs∧vs.length=Ls.length∧ ∀(i:Nat) v L,vs[i]? =some v→Ls[i]? =some L→By base W vB vR v L
 Kp:dz 51 base W vR rs
 ne: ∀g,vB.ownBlock=some g→vR.ownBlock≠some g
theorem ey.isCells{v:Value}{l:List Value}(h:ey t base W v l)(hj:v.ownBlock=some j)(ho:W.heap[j]? =some o):o.isCells=true:=by
 rcases h with⟨_,⟨rfl,_⟩ | ⟨g',dX,cur,rfl,_,h4,_⟩⟩
 ·cases hj
 ·have e:g'=j:=by simpa [Value.ownBlock]using hj
  subst e;rw[ho]at h4;injection h4 with h4;subst h4;rfl
theorem tA{v:Value}(h:dz t base W v l)(hj:v.ownBlock=some j)(ho:W.heap[j]? =some o):o.isCells=true:=by
 rcases h with⟨_,⟨rfl,_⟩ | ⟨g',dX,cur,rfl,_,h4,_⟩⟩
 ·cases hj
 ·have e:g'=j:=by simpa [Value.ownBlock]using hj
  subst e;rw[ho]at h4;injection h4 with h4;subst h4;rfl
theorem OY{v:Value}(h:dz t base w v l): ∃A c,v= .slice A l.length c:=by
 rcases h with⟨_,⟨h2,h3⟩ | ⟨g,cap,cur,h2,_⟩⟩
 ·exact⟨none,0,by rw[h2,h3]⟩
 ·exact⟨_,cap,h2⟩
theorem Bytes.Ml{l:List UInt8}(h:Bytes W (some ⟨g,0,none⟩) l)(hs:W.heap.size≤W'.heap.size)(he:W'.heap[g]? =W.heap[g]?):Bytes W' (some ⟨g,0,none⟩) l:=by
 rcases h with h | ⟨b,off,e,h2,h3⟩
 ·exact .inl h
 ·injection e with e;injection e with e1 e2;subst e1;subst e2;exact .inr ⟨_,_,rfl,Nat.lt_of_lt_of_le h2 hs,fun k hk=>(World.cell?_of_block (a:=⟨g,0+k,none⟩) he).trans (h3 k hk)⟩
theorem Bytes.qT{l:List UInt8}(h:Bytes W (some ⟨g,0,none⟩) l)(hs:W.heap.size≤W'.heap.size)(he:(∀o,W.heap[g]? =some o→o.isCells=true)→W'.heap[g]? =W.heap[g]?):Bytes W' (some ⟨g,0,none⟩) l:=by
 by_cases hl:0<l.length;·refine h.Ml hs (he fun o ho=> ?_);obtain⟨b,off,e,_,hc⟩:=h.addr hl;injection e with e;injection e with e1 e2;subst e1;subst e2;obtain⟨o',h1,h2⟩:=cells_of_cell (hc 0 hl);rw[ho]at h1;injection h1 with h1;subst h1;exact h2
 ·exact .inl (List.eq_nil_of_length_eq_zero aa)
theorem tV.aA(h:tV base W vB vR Ls rs)(hs:W.heap.size≤W'.heap.size)
  (hk: ∀g,base≤g→g<W.heap.size→(∀o,W.heap[g]? =some o→o.isCells=true)→W'.heap[g]? =W.heap[g]?):tV base W' vB vR Ls rs:=by
 obtain⟨vs,h1,h2,h3⟩:=h.vs;refine⟨⟨vs,h1.aA fun g hg=>hk g (h1.lt g hg).1 (h1.lt g hg).2 fun o ho=>h1.isCells hg ho,h2,fun i v L hv hL=> ?_⟩,h.Kp.aA fun g hg=>hk g (h.Kp.lt g hg).1 (h.Kp.lt g hg).2 fun o ho=>tA h.Kp hg ho,h.ne⟩;obtain⟨g,c,e,hc,hg,n1,n2,hB⟩:=h3 i v L hv hL;exact⟨g,c,e,hc,⟨hg.1,Nat.lt_of_lt_of_le hg.2 hs⟩,n1,n2,hB.qT hs fun ho=>hk g hg.1 hg.2 ho⟩
theorem tV.below(h:tV base W vB vR Ls rs)(hb:Below W.heap.size W W'):tV base W' vB vR Ls rs:=
 h.aA hb.size fun g _ hg _=>hb.block g hg
theorem tV.set(h:tV base W vB vR Ls rs){p:Addr}(hp:p.block<base)(u:Value):tV base (W.setCell p u) vB vR Ls rs:=
 h.aA (Nat.le_of_eq (World.size_setCell _ _ _).symm) fun g hg _ _=>heap_setCell_other _ _ _ _ aa
theorem tV.put(h:tV base W vB vR Ls rs){l:Nat}(o':Obj)(hl:W.heap[l]? =some o)(ho:o.isCells=false):tV base (W.putObj l o') vB vR Ls rs:=
 h.aA (by rw[World.putObj];simp) fun g _ _ hc=>World.putObj_heap_other fun e=>by subst e;have:=hc o hl;rw[ho]at this;cases this
theorem tV.nil(base:Nat)(W:World):tV base W (.slice none 0 0) (.slice none 0 0) [] []:=
 ⟨⟨[],ey.nil _ _ _,rfl,fun i v L hv _=>by simp at hv⟩,dz.nil _ _ _,fun g e=>gw⟩
theorem tV.ahh{vs:List Value}(h:tV base W vB vR Ls rs)(_:ey 22 base W vB vs)(hlen:vs.length=Ls.length)(hel: ∀(i:Nat) v L,vs[i]? =some v→Ls[i]? =some L→By base W vB vR v L)
  {u:Value} {L:List UInt8} (hu:By base W vB vR u L) (hn:ey 22 base W' v' (vs++[u])) (hg:W.grownBy W' vB.ownBlock) (ho:v'.ownBlock=vB.ownBlock∨v'.ownBlock=some W.heap.size):tV base W' v' vR (Ls++[L]) rs:=by
 have hs:=hg.size;have key: ∀{v:Value} {L:List UInt8},By base W vB vR v L→By base W' v' vR v L:=by
  rintro v L ⟨g,c,e,hc,Ce,n1,n2,hB⟩;refine⟨g,c,e,hc,⟨Ce.1,Nat.lt_of_lt_of_le Ce.2 hs⟩,?_,n2,hB.Ml hs (hg.block g Ce.2 fun e=>n1 e.symm)⟩;rcases ho with e | e;·rw[e];exact n1
  ·rw[e];intro e2;injection e2 with e2;omega
 refine⟨⟨_,hn,by rw[List.length_append,List.length_append,hlen];rfl,fun i v L' Qh hL'=> ?_⟩,h.Kp.aA fun g e=>hg.block g (h.Kp.lt g e).2 fun e2=>h.ne g e2.symm e,fun g e e2=> ?_⟩
 ·rcases Nat.lt_or_ge i vs.length with hi | hi;·rw[List.getElem?_append_left hi]at Qh;rw[List.getElem?_append_left aa]at hL';exact key (hel i v L' Qh hL')
  ·rw[List.getElem?_append_right hi]at Qh;rw[List.getElem?_append_right aa,←hlen]at hL';match hj:i-vs.length,Qh,hL' with
   | 0,Qh,hL'=>simp at Qh hL';subst Qh;subst hL';exact key hu
   | j+1,Qh,_=>simp at Qh
 ·rcases ho with e3 | e3;·exact h.ne g (e3▸e) e2
  ·rw[e3]at e;injection e with e;have:=(h.Kp.lt g e2).2;omega
theorem tV.ahi{rs':List (Int×Int)}(h:tV base W vB vR Ls rs)
  (hn:dz 51 base W' v' rs') (hg:W.grownBy W' vR.ownBlock) (ho:v'.ownBlock=vR.ownBlock∨v'.ownBlock=some W.heap.size):tV base W' vB v' Ls rs':=by
 have hs:=hg.size;obtain⟨vs,h1,h2,h3⟩:=h.vs;refine⟨⟨vs,h1.aA fun g e=>hg.block g (h1.lt g e).2 fun e2=>h.ne g e e2.symm,h2,fun i v L hv hL=> ?_⟩,hn,fun g e e2=> ?_⟩
 ·obtain⟨g,c,e,hc,Ce,n1,n2,hB⟩:=h3 i v L hv hL;refine⟨g,c,e,hc,⟨Ce.1,Nat.lt_of_lt_of_le Ce.2 hs⟩,n1,?_,hB.Ml hs (hg.block g Ce.2 fun e=>n2 e.symm)⟩;rcases ho with e | e;·rw[e];exact n2
  ·rw[e];intro e2;injection e2 with e2;omega
 ·rcases ho with e3 | e3;·exact h.ne g e (e3▸e2)
  ·rw[e3]at e2;injection e2 with e2;have:=(h1.lt g e).2;omega
theorem CH(ls:List (List UInt8)):Lib.join ls []=ls.flatten:=by
 cases ls with
 | nil=>rfl
 | cons x r=>rw[Lib.join_cons];simp[Lib.joinTail]
theorem CI(ls:List (List UInt8)):Lib.lens ls=ls.flatten.length:=by
 unfold Lib.lens;induction ls with
 | nil=>rfl
 | cons x r ih=>simp only[List.map_cons,List.sum_cons,List.flatten_cons,List.length_append,ih]
def acg(w:World)(L:List UInt8)(e:Ending)(w':World):Prop:=
 ∃A c,e= .returned (.slice A L.length c)∧(L.length≤c∧c≤9223372036854775807)∧(∀a,A=some a→a.block<w'.heap.size)∧Bytes w' A L∧Below w.heap.size w w'
theorem zH(g i:Nat):(⟨g,0,none⟩:Addr).add i=⟨g,i,none⟩:=ml
theorem Um(h:tV base W vB vR Ls rs)(dH: ∀L∈Ls,0<L.length)(hl:Ls.flatten.length≤100000000000)(hn:Ls.length≤1000000):
  Calls prog 24 #[vB,.slice none 0 0] W (acg W Ls.flatten):=by
 obtain⟨vs,h1,h2,h3⟩:=h.vs;match hL:Ls,h2 with
 | [],h2=>
  have hv:vs=[]:=List.eq_nil_of_length_eq_zero h2;subst hv;obtain⟨A,c,rfl,hc,hm,_⟩:=h1.read;refine(oh A c (.slice none 0 0) W).mono ?_;rintro e w' ⟨rfl,rfl⟩;exact⟨_,0,rfl,⟨Nat.le_refl _,ak⟩,fun a e=>by injection e with e;subst e;simp,.inl rfl,ar⟩
 | [L],h2=>
  obtain⟨v,rfl⟩: ∃v,vs=[v]:=by
   match vs,h2 with
   | [v],_=>exact⟨v,rfl⟩
  obtain⟨g,cap,rfl,_,_,_,_,hcell⟩:=h1.vn ag;have Dz:=hcell 0 ag;obtain⟨g2,c2,e,hc,hg,_,_,hB⟩:=h3 0 v L rfl rfl;have u_:=dH L ag;subst e;obtain⟨b,off,e1,hb,Ig⟩:=hB.addr u_;injection e1 with e1;injection e1 with e1 e2;subst e1;subst e2;simp only[List.flatten_cons,List.flatten_nil,List.append_nil]at hl ⊢;refine(oV g 0 cap ⟨g2,0,none⟩ c2 L (.slice none 0 0) W Dz (fun i x hx=> ?_) u_ aa).mono ?_
  ·have hi:i<L.length:=by
    rcases Nat.lt_or_ge i L.length with h | h;·exact h
    ·rw[List.getElem?_eq_none h]at hx;cases hx
   rw[List.getElem?_eq_getElem hi]at hx;injection hx with hx;subst hx
   rw[zH];have:=Ig i hi;rw[Nat.zero_add]at this;exact this
  ·rintro e w' ⟨v,rfl,hv,yv⟩;obtain⟨g',dX,rfl,q1,q2,q3,q4,q5⟩:=kq hv u_;exact⟨_,dX,rfl,⟨q1,q2⟩,fun a e=>by injection e with e;subst e;exact q4,q5.bytes q4,yv⟩
 | L::L2::Lt,h2=>
  obtain⟨g,cap,rfl,_,_,Du,_,hcell⟩:=h1.vn (by rw[h2];simp);have hP:Lib.PartsAt W ⟨g,0,none⟩ vs (L::L2::Lt):=by
   refine⟨h2,fun i v hv=> ?_,fun i v l hv hl=> ?_⟩
   ·have hi:i<vs.length:=by
     rcases Nat.lt_or_ge i vs.length with h | h;·exact h
     ·rw[List.getElem?_eq_none h]at hv;cases hv
    rw[List.getElem?_eq_getElem hi]at hv;injection hv with hv;subst hv
    rw[zH];exact hcell i hi
   ·obtain⟨g2,c2,rfl,_,_,_,_,hB⟩:=h3 i v l hv hl;exact dq hB
  have hp:0<(L::L2::Lt).flatten.length:=by have:=dH L ag;simp;omega
  refine(fz g 0 vs.length cap vs (L::L2::Lt) (.slice none 0 0) [] W h2.symm (by rw[h2];simp) hP Du ⟨none,0,rfl,fun _=>rfl,fun a e=>gw⟩ aa (by rw[CI];simp only[List.length_nil,Nat.zero_mul,Nat.add_zero];omega)).mono ?_;rintro e w' ⟨v,rfl,hv,yv⟩;rw[CH]at hv;obtain⟨g',dX,rfl,q1,q2,q3,q4,q5⟩:=kq hv hp;exact⟨_,dX,rfl,⟨q1,q2⟩,fun a e=>by injection e with e;subst e;exact q4,q5.bytes q4,yv⟩
theorem ahj{A0 A1 A2 A3:Option Addr}{l0 l1 l2 l3:List UInt8}{c0 c1 c2 c3:Nat}(w:World)(h0:Bytes w A0 l0)(h1:Bytes w A1 l1)(h2:Bytes w A2 l2)(h3:Bytes w A3 l3)
  (k0:w.cell? ⟨g,0,none⟩=some (.slice A0 l0.length c0)) (k1:w.cell? ⟨g,1,none⟩=some (.slice A1 l1.length c1)) (k2:w.cell? ⟨g,2,none⟩=some (.slice A2 l2.length c2)) (k3:w.cell? ⟨g,3,none⟩=some (.slice A3 l3.length c3))
  (L:List UInt8) (hL:l0++(l1++(l2++l3))=L) (hl:L.length≤100000000000) (hp:0<L.length):
  Calls prog 24 #[.slice (some ⟨g,0,none⟩) 4 4,.slice none 0 0] w (uW w L):=by
 have hlen:l0.length+(l1.length+(l2.length+l3.length))=L.length:=by rw[←hL];simp
 have hP:Lib.PartsAt w ⟨g,0,none⟩ [.slice A0 l0.length c0,.slice A1 l1.length c1,.slice A2 l2.length c2,.slice A3 l3.length c3] [l0,l1,l2,l3]:=by
  refine⟨rfl,fun i v hv=> ?_,fun i v l hv hl=> ?_⟩
  ·rw[zH];match i with
   | 0=>simp at hv;subst hv;exact k0
   | 1=>simp at hv;subst hv;exact k1
   | 2=>simp at hv;subst hv;exact k2
   | 3=>simp at hv;subst hv;exact k3
   | i+4=>simp at hv
  ·match i with
   | 0=>simp at hv hl;subst hv;subst hl;exact dq h0
   | 1=>simp at hv hl;subst hv;subst hl;exact dq h1
   | 2=>simp at hv hl;subst hv;subst hl;exact dq h2
   | 3=>simp at hv hl;subst hv;subst hl;exact dq h3
   | i+4=>simp at hv
 refine(fz g 0 4 4 _ [l0,l1,l2,l3] (.slice none 0 0) [] w rfl aa hP aa ⟨none,0,rfl,fun _=>rfl,fun a e=>gw⟩ aa (by rw[CI];simp;omega)).mono ?_;rintro e w' ⟨v,rfl,hv,hb⟩;have ej:Lib.join [l0,l1,l2,l3] []=L:=by rw[CH,←hL];simp
 rw[ej]at hv;obtain⟨g',cap,rfl,q1,q2,q3,q4,q5⟩:=kq hv hp;exact⟨g',cap,rfl,q1,q2,q3,q4,q5,hb⟩
theorem GO(o:Op)(w:World)(hO:uY w o):Calls prog 25 #[o.v] w (kU o.jP w):=by
 have⟨W,hW⟩:=ex (w.alloc (.cells #[.int .i64 o.lc,.int .i64 o.lp,.int .i64 o.pb,.int .i64 o.nice,.int .i64 o.chunk,.int .i64 o.block,.int .i64 o.check,o.ch,.int .u32 (o.dict:Nat)] 26));obtain⟨aP,fw⟩:=gz (vs:=iG o.lc o.lp o.pb o.nice o.chunk o.block o.check o.ch o.dict) hW;have HC:=ae (fun(W':World) (h:Below W.heap.size W W')=>eb (((h.block _ (cr aP)).trans aP)));obtain⟨k0,k1,k2,k3,k4,k5,k6,k7,k8⟩:=HC.out W (Below.refl _ _);have H1:=ae (OW o.lc o.lp o.pb o.nice o.chunk o.block o.check o.ch o.dict W);have H2:=ae (fun(W':World) (h:Below W.heap.size W W')=>Oj o.A o.l o.c W' ((hO.pD.below fw).below h) hO.few);have H3:=ae (fun(W':World)=>Ox o.check W');have HW:=ae hW;have dE:=ae fw;have HR:Hid (o.jP=(jU o.lc o.lp o.pb o.nice o.chunk o.dict&&jE o.l&&decide (0≤uR o.check))):=ae (by
  unfold Op.jP uR;cases h:bG o.check;·rfl
  ·simp)
 generalize jU o.lc o.lp o.pb o.nice o.chunk o.dict=b1 at*;generalize jE o.l=b2 at*;generalize uR o.check=b3 at*;generalize o.jP=b at*;clear aP hW fw hO;go_enter func25,ntmps25;go_upto_region 1 with fail;rw[HW.out];go_wp2_with fail;refine H1.out.mono ?_;rintro e w1 ⟨rfl,az⟩;have a7:=ae az;clear az k0 k1 k2 k3 k4 k5 k6 k7 k8;obtain⟨k0,k1,k2,k3,k4,k5,k6,k7,k8⟩:=HC.out w1 a7.out;go_wp2_with fail;refine(H2.out w1 a7.out).mono ?_;rintro e w2 ⟨rfl,aD⟩;have dW:=ae (aM a7.out aD);clear aD k0 k1 k2 k3 k4 k5 k6 k7 k8;obtain⟨k0,k1,k2,k3,k4,k5,k6,k7,k8⟩:=HC.out w2 dW.out;cases b1 with
 | false=>
  go_wp2_with fail;go_ret;exact⟨by rw[HR.out];rfl,aM dE.out dW.out⟩
 | true=>
  cases b2 with
  | false=>
   go_wp2_with fail;go_ret;exact⟨by rw[HR.out];rfl,aM dE.out dW.out⟩
  | true=>
   go_wp2_with fail;refine(H3.out w2).mono ?_;rintro e w3 ⟨rfl,rfl⟩;have AX:=ae (show b=decide (0≤b3) by rw[HR.out];rfl);go_wp2_with fail;go_ret;exact⟨by rw[AX.out];rfl,aM dE.out dW.out⟩
theorem zI(o:Op)(w:World)(hO:uY w o):Calls prog 13 #[o.v] w (kU (o.jP&&decide (1≤o.block)) w):=by
 have⟨W,hW⟩:=ex (w.alloc (.cells #[.int .i64 o.lc,.int .i64 o.lp,.int .i64 o.pb,.int .i64 o.nice,.int .i64 o.chunk,.int .i64 o.block,.int .i64 o.check,o.ch,.int .u32 (o.dict:Nat)] 26));obtain⟨aP,fw⟩:=gz (vs:=iG o.lc o.lp o.pb o.nice o.chunk o.block o.check o.ch o.dict) hW;have HC:=ae (fun(W':World) (h:Below W.heap.size W W')=>eb ((h.block _ (cr aP)).trans aP));obtain⟨k0,k1,k2,k3,k4,k5,k6,k7,k8⟩:=HC.out W (Below.refl _ _);have H1:=ae (zE o W (hO.below fw));have HW:=ae hW;have dE:=ae fw;clear aP hW fw hO;generalize o.jP=b at*;go_enter func13,ntmps13;go_upto_region 1 with fail;rw[HW.out];go_wp2_with fail;refine H1.out.mono ?_;rintro e w1 ⟨rfl,az⟩;have a7:=ae az;clear az k0 k1 k2 k3 k4 k5 k6 k7 k8;obtain⟨k0,k1,k2,k3,k4,k5,k6,k7,k8⟩:=HC.out w1 a7.out;cases b with
 | false=>
  go_wp2_with fail;go_ret;exact⟨rfl,aM dE.out a7.out⟩
 | true=>
  have hE:Hid (decide (((1:Int))≤(o.block))=decide (1≤o.block)):=ae (by by_cases h:1≤o.block<;>simp[h]<;>omega);go_wp2_with fail;go_ret;exact⟨by first | rfl | (rw[←hE.out];rfl),aM dE.out a7.out⟩
theorem vX(o:Op)(w:World)(hO:uY w o):Calls prog 12 #[o.v] w (kU (o.jP&&decide (1≤o.block)) w):=by
 have⟨W,hW⟩:=ex (w.alloc (.cells #[.int .i64 o.lc,.int .i64 o.lp,.int .i64 o.pb,.int .i64 o.nice,.int .i64 o.chunk,.int .i64 o.block,.int .i64 o.check,o.ch,.int .u32 (o.dict:Nat)] 26));obtain⟨aP,fw⟩:=gz (vs:=iG o.lc o.lp o.pb o.nice o.chunk o.block o.check o.ch o.dict) hW;have HC:=ae (fun(W':World) (h:Below W.heap.size W W')=>eb ((h.block _ (cr aP)).trans aP));obtain⟨k0,k1,k2,k3,k4,k5,k6,k7,k8⟩:=HC.out W (Below.refl _ _);have H1:=ae (GO o W (hO.below fw));have HW:=ae hW;have dE:=ae fw;clear aP hW fw hO;generalize o.jP=b at*;go_enter func12,ntmps12;go_upto_region 1 with fail;rw[HW.out];go_wp2_with fail;refine H1.out.mono ?_;rintro e w1 ⟨rfl,az⟩;have a7:=ae az;clear az k0 k1 k2 k3 k4 k5 k6 k7 k8;obtain⟨k0,k1,k2,k3,k4,k5,k6,k7,k8⟩:=HC.out w1 a7.out;cases b with
 | false=>
  go_wp2_with fail;go_ret;exact⟨rfl,aM dE.out a7.out⟩
 | true=>
  have hE:Hid (decide (((0:Int))<(o.block))=decide (1≤o.block)):=ae (by by_cases h:1≤o.block<;>simp[h]<;>omega);go_wp2_with fail;go_ret;exact⟨by first | rfl | (rw[←hE.out];rfl),aM dE.out a7.out⟩
def vY(n:Nat):Nat→List UInt8→List (List UInt8)
 | 0,_=>[]
 | f+1,D=>if D.length=0 then []else D.take n::vY n f (D.drop n)
def gD(n:Nat)(D:List UInt8):List (List UInt8):=vY n D.length D
theorem zJ(n:Nat)(hn:1≤n): ∀(f g:Nat) (D:List UInt8),D.length≤f→D.length≤g→vY n f D=vY n g D
 | 0,0,D,_,_=>rfl
 | 0,g+1,D,h,_=>by unfold vY;rw[if_pos aa]
 | f+1,0,D,_,h=>by unfold vY;rw[if_pos aa]
 | f+1,g+1,D,h1,h2=>by
  unfold vY;by_cases hp:D.length=0;·rw[if_pos hp,if_pos hp]
  ·rw[if_neg hp,if_neg hp,zJ n hn f g _ jL jL]
theorem CJ(hn:1≤n)(h:D.length≠0):gD n D=D.take n::gD n (D.drop n):=by
 unfold gD;obtain⟨f,hf⟩: ∃f,D.length=f+1:=⟨D.length-1,aa⟩
 rw[hf];conv=>lhs;unfold vY
 rw[if_neg h,zJ n hn f (D.drop n).length _ jL (Nat.le_refl _)]
theorem GP(h:D.length=0):gD n D=[]:=by unfold gD;rw[h];rfl
theorem tB(hn:1≤n)(p:List UInt8→List (List UInt8)→Prop)(h0:p [] [])(h1: ∀D,D.length≠0→p (D.drop n) (gD n (D.drop n))→p D (D.take n::gD n (D.drop n))): ∀(f:Nat) (D:List UInt8),D.length≤f→p D (gD n D)
 | f,D,hf=>by
  by_cases h:D.length=0;·have:D=[]:=List.eq_nil_of_length_eq_zero h;subst this;exact h0
  ·rw[CJ hn h];match f,hf with
   | 0,hf=>omega
   | f+1,hf=>exact h1 D h (tB hn p h0 h1 f _ jL)
theorem uZ(hn:1≤n)(D:List UInt8):(gD n D).flatten=D:=
 tB hn (fun D l=>l.flatten=D) rfl (fun D _ ih=>by rw[List.flatten_cons,ih,List.take_append_drop]) _ D (Nat.le_refl _)
theorem tC(hn:1≤n)(D:List UInt8):(gD n D).length≤D.length:=
 tB hn (fun D l=>l.length≤D.length) (Nat.le_refl _) (fun D h ih=>by rw[List.length_drop]at ih;rw[List.length_cons];omega) _ D (Nat.le_refl _)
theorem Un(hn:1≤n)(D:List UInt8): ∀P∈gD n D,1≤P.length∧P.length≤D.length:=
 tB hn (fun D l=> ∀P∈l,1≤P.length∧P.length≤D.length) ag (fun D h ih P hP=>by
  rcases List.mem_cons.1 hP with rfl | hP;·rw[List.length_take];omega
  ·have:=ih P hP;rw[List.length_drop]at this;omega) _ D (Nat.le_refl _)
def dy:List UInt8→Nat
 | []=>0
 | b::l=>if b=0 then dy l+1 else 0
theorem rV(n:Nat)(E:List UInt8)(h:E.head?≠some 0):dy (List.replicate n 0++E)=n:=by
 induction n with
 | zero=>
  cases E with
  | nil=>rfl
  | cons b l=>
   have:b≠0:=fun e=>h (by rw[e];rfl);simp[dy,this]
 | succ n ih=>rw[List.replicate_succ];show(if(0:UInt8)=0 then dy (List.replicate n 0++E)+1 else 0)=n+1;rw[if_pos rfl,ih]
theorem OZ(l:List UInt8):dy l≤l.length:=by
 induction l with
 | nil=>exact Nat.le_refl _
 | cons b l ih=>unfold dy;split<;>simp<;>omega
theorem GQ(l:List UInt8)(n:Nat)(h:dy (l.drop n)+n=dy l)(hn:n≤l.length):(n<l.length∧l.getD n 0=0→dy (l.drop (n+1))+(n+1)=dy l)∧(¬(n<l.length∧l.getD n 0=0)→dy l=n):=by
 by_cases hl:n<l.length
 ·have e:l.drop n=l[n]::l.drop (n+1):=List.drop_eq_getElem_cons hl;have g:l.getD n 0=l[n]:=by rw[List.getD_eq_getElem?_getD,List.getElem?_eq_getElem hl];rfl
  have h2:dy (l[n]::l.drop (n+1))=if l[n]=0 then dy (l.drop (n+1))+1 else 0:=rfl;rw[e,h2]at h;rw[g];constructor;·rintro⟨_,h0⟩;rw[h0,if_pos rfl]at h;omega
  ·intro h0;rw[if_neg (fun hh=>h0 ⟨hl,hh⟩)]at h;omega
 ·constructor;·rintro⟨h1,_⟩;exact absurd h1 hl
  ·intro _;rw[List.drop_eq_nil_of_le aa]at h;have h2:dy []=0:=rfl;rw[h2]at h;omega
theorem Hb(k:gG)(A:Option Addr)(c:Nat): ∀(l:List (Nat×Nat)) (z:eZ×Bool),aU {k with A:=A,cD:=c} l z=aU k l z
 | [],_=>rfl
 | x::l,z=>by have h:=Hb k A c l (aJ k x.1 x.2 z.1 z.2).2;show((aJ k x.1 x.2 z.1 z.2).1++(aU {k with A:=A,cD:=c} l (aJ k x.1 x.2 z.1 z.2).2).1,(aU {k with A:=A,cD:=c} l (aJ k x.1 x.2 z.1 z.2).2).2)=_;rw[h];rfl
theorem Y9(k:gG)(A:Option Addr)(c:Nat):gu {k with A:=A,cD:=c}=gu k:=by unfold gu;exact congrArg (fun z:List UInt8×eZ×Bool=>z.1++[0]) (Hb k A c _ _)
def Op.k(o:Op)(D:List UInt8):gG:=⟨none,D,0,o.lc.toNat,o.lp.toNat,o.pb.toNat,o.nice,o.chunk,o.block,o.check,o.ch,o.dict,0⟩
def Op.packed(o:Op)(D:List UInt8):List UInt8:=gu (o.k (dY o.l D))
def Op.head(o:Op)(D:List UInt8):eO:=⟨(o.packed D).length,D.length,o.l,aR (bh o.dict)⟩
def Op.sc(o:Op)(D:List UInt8):List UInt8:=fD (o.head D)++o.packed D
def Op.ay(o:Op)(D:List UInt8):List UInt8:=o.sc D++(List.replicate (aO (o.sc D).length) 0++iJ o.check D)
def Op.rc(o:Op)(D:List UInt8):Nat×Nat:=((o.sc D).length+cM o.check,D.length)
abbrev acF(r:Nat×Nat):Value:= .agg #[.int .i64 (r.1:Nat),.int .i64 (r.2:Nat)]
theorem least(p:Nat→Prop) [DecidablePred p]: ∀n,p n→ ∃k,k≤n∧p k∧ ∀j,j<k→ ¬p j
 | 0,h=>⟨0,Nat.le_refl _,h,fun _ hj=>absurd hj (Nat.not_lt_zero _)⟩
 | n+1,h=>by
  by_cases hn: ∃j,j≤n∧p j;·obtain⟨j,hj,hp⟩:=hn;obtain⟨k,hk,h1,h2⟩:=least p j hp;exact⟨k,aa,h1,h2⟩
  ·exact⟨n+1,Nat.le_refl _,h,fun j hj hp=>hn ⟨j,aa,hp⟩⟩
theorem KR(k:Nat)(h:k≤40):bh (aR k)=k:=zy _ _ h (Nat.le_refl _) fun j hj=>zx j k hj h
theorem kI(d:Nat)(h:d≤67108864):d≤aR (bh d)∧aR (bh d)≤67108864:=by
 have e28:aR 28=67108864:=ak;obtain⟨k,hk,h1,h2⟩:=least (fun k=>d≤aR k) 28 (by show d≤aR 28;rw[e28];exact h);rw[zy d k aa h1 (fun j hj=>Nat.lt_of_not_le (h2 j hj))];refine⟨h1,?_⟩;rcases Nat.lt_or_ge k 28 with hl | hl;·have:=zx k 28 hl aa;omega
 ·have:k=28:=by omega
  subst this;rw[e28];exact Nat.le_refl _
structure Op.Ok(o:Op):Prop where
 lc:0≤o.lc∧o.lc≤4
 lp:0≤o.lp∧o.lp≤4
 pb:0≤o.pb∧o.pb≤4
 JQ:o.lc+o.lp≤4
 nice:2≤o.nice∧o.nice≤273
 chunk:1≤o.chunk∧o.chunk≤65536
 dict:4096≤o.dict∧o.dict≤67108864
 may:jE o.l=true
 check:bG o.check=true
theorem Op.Ok.of{o:Op}(h:o.jP=true):o.Ok:=by unfold Op.jP jU jT at h;simp only[Bool.and_eq_true,decide_eq_true_iff]at h;obtain⟨⟨⟨p1,p2,p3,p4⟩,p5⟩,p6⟩:=h;exact⟨aa,aa,aa,aa,p2,p3,p4,p5,p6⟩
theorem Aa(l:List bS)(h:jE l=true):l.all dF=true∧l.length≤3:=by unfold jE at h;rw[Bool.and_eq_true,decide_eq_true_iff]at h;exact⟨h.2,h.1⟩
theorem Op.Ok.pko{o:Op}(h:o.Ok)(D:List UInt8)(A:Option Addr)(c:Nat):PkO {o.k D with A:=A,cD:=c} o.v:=by
 have h1:=h.lc;have h2:=h.lp;have h3:=h.pb;have h4:=h.JQ;refine⟨?_,?_,?_,?_,?_,h.nice,h.chunk,h.dict⟩;·show Bh o.lc o.lp o.pb o.nice o.chunk o.block o.check o.ch o.dict=Bh ((o.lc.toNat:Nat):Int) ((o.lp.toNat:Nat):Int) ((o.pb.toNat:Nat):Int) o.nice o.chunk o.block o.check o.ch o.dict;rw[Int.toNat_of_nonneg h1.1,Int.toNat_of_nonneg h2.1,Int.toNat_of_nonneg h3.1]
 ·show o.lc.toNat≤4;omega
 ·show o.lp.toNat≤4;omega
 ·show o.pb.toNat≤4;omega
 ·show o.lc.toNat+o.lp.toNat≤4;omega
theorem Op.Ok.bk{o:Op}(h:o.Ok)(D:List UInt8)(hD:D.length≤100000):G2 (o.k D):=by have h1:=h.lc;have h2:=h.lp;have h3:=h.pb;have h4:=h.JQ;have h5:=h.dict;exact⟨by show o.lc.toNat≤4∧o.lp.toNat≤4∧o.pb.toNat≤4∧o.lc.toNat+o.lp.toNat≤4;omega,h.nice.2,by show 1≤o.dict;omega,hD⟩
theorem Op.Ok.acG{o:Op}(h:o.Ok):1≤o.chunk.toNat:=am h.chunk
theorem Op.nJ{o:Op}(h:o.Ok)(D:List UInt8):1≤(o.packed D).length∧(o.packed D).length≤4*D.length+1:=by have h1:=KK (k:=o.k (dY o.l D)) h.acG;have h2:(o.k (dY o.l D)).D.length=D.length:=dk _ _;rw[h2]at h1;exact⟨by unfold Op.packed gu;rw[List.length_append];simp,h1⟩
theorem Op.gP{o:Op}(h:o.Ok)(D:List UInt8)(hD:D.length≤100000):(o.head D).ok∧ie (o.head D)=true:=by
 have hp:=o.nJ h D;have hd:=kI o.dict h.dict.2;refine⟨?_,?_⟩;·show -9223372036854775808≤((o.packed D).length:Int)∧((o.packed D).length:Int)≤9223372036854775807∧ -9223372036854775808≤(D.length:Int)∧(D.length:Int)≤9223372036854775807∧aR (bh o.dict)<4294967296;omega
 ·show(rQ ((o.packed D).length:Int) (D.length:Int)&&jE o.l&&tx (aR (bh o.dict)))=true;rw[h.may];unfold rQ tx;rw[KR _ (pC _)];simp;omega
theorem Op.Ab{o:Op}(h:o.Ok)(D:List UInt8)(hD:D.length≤100000)(hf: ∀f∈o.l,f.ok):(fD (o.head D)).length≤128∧(fD (o.head D)).length%4=0:=by obtain⟨h1,h2⟩:=o.gP h D hD;obtain⟨e1,e2,e3,_⟩:=jI (o.head D) h1 hf h2;have e4:=tJ (o.head D) h1 hf h2;have e5:(di (bE (o.head D))).length≤(bE (o.head D)).length+3:=K8;rw[e1];omega
def UcR(L:List UInt8)(d:Nat)(r:List UInt8×Nat×Nat):Prop:= ∀(A:Option Addr) (c:Nat) (W:World),Bytes W A L→(∀a,A=some a→a.block<W.heap.size)→L.length≤c→c≤9223372036854775807→L.length≤1000000→Calls prog 138 #[.slice A L.length c,.int .i64 (d:Nat)] W (jq W r)
def KS(B:List UInt8)(mem:Nat)(r:List UInt8×Nat×Nat):Prop:=
 (∃h n er,gO B=(h,n,er)∧er≠0∧r=([],0,er))∨
 (∃h n,gO B=(h,n,0)∧h.d<4294967296∧mem<h.d∧r=([],0,9))∨
 (∃h n S p er,gO B=(h,n,0)∧(1≤h.d∧h.d<4294967296∧h.d≤mem∧n≤B.length)∧UcR (B.drop n) h.d (S,p,er)∧
  ((er≠0∧r=([],0,er))∨(er=0∧jE h.l=true∧h.p=p∧h.q=S.length∧S.length≤1000000∧p≤1000000000∧n≤1000000000∧r=(lL h.l S,n+p,0))))
theorem aoN{x y u:Value}(h:W.heap[b]? =some (.cells [x,y,z,u].toArray t (0,0))):W.cell? ⟨b,0,none⟩=some x∧W.cell? ⟨b,1,none⟩=some y∧W.cell? ⟨b,2,none⟩=some z∧W.cell? ⟨b,3,none⟩=some u:=
 ⟨pT,pT,pT,pT⟩
theorem jq.U4(hb:Below w.heap.size w w'):jq w ([],0,n) (.returned (.tuple #[.slice none 0 0,.int .i64 0,.int .i64 (n:Nat)])) w':=⟨none,0,rfl,⟨Nat.le_refl _,aa⟩,.nil,hb⟩
theorem Hc(A:Option Addr)(B:List UInt8)(c mem:Nat)(w:World)(r:List UInt8×Nat×Nat)(hr:KS B mem r)(hB:Bytes w A B)(hA: ∀a,A=some a→a.block<w.heap.size)(hc:B.length≤c)(hm:c≤9223372036854775807)(hl:B.length≤1000000)(Jz:mem<18446744073709551616):
  Calls prog 94 #[.slice A B.length c,.int .u64 (mem:Nat)] w (jq w r):=by
 have HG:=ae (Pv A B c w hB hc hm hl);have qw:(B.length:Int)≤1000000:=aa;have EN:(c:Int)≤9223372036854775807:=aa;have pW:(B.length:Int)≤(c:Int):=aa;have aid:(mem:Int)<18446744073709551616:=aa;have HB:=ae (And.intro hB (And.intro hA (And.intro hc (And.intro hm hl))));clear hB hA hc hm hl Jz;rcases hr with⟨h,n,er,e1,e2,rfl⟩ | ⟨h,n,e1,hd,e2,rfl⟩ | ⟨h,n,S,p,er,e1,⟨d1,d2,d3,hn⟩,f1,hr⟩
 ·rw[e1]at HG;obtain⟨hp,hq,hL,d⟩:=h;obtain⟨ei,Qs⟩: ∃x:Int,(er:Int)=x:=⟨_,rfl⟩
  have dH:(ei==0)=false:=C1;have HEI:=ae Qs;clear e1 e2 Qs qw EN pW aid;go_enter func94,ntmps94;go_wp2_with fail;refine HG.out.mono ?_;rintro e w1 ⟨A1,c1,rfl,_,_,_,az⟩;have a7:=ae az;clear az;rw[HEI.out];go_wp2_with fail;go_ret3;rw[←HEI.out];exact jq.U4 (a7.out.trans ((bt _ _).mono a7.out.size))
 ·rw[e1]at HG;obtain⟨hp,hq,hL,d⟩:=h;have Oi:IntKind.u64.wrap (d:Int)=(d:Int):=IntWalk.u64_in _ (by simp only at hd;omega);have hmd:(mem:Int)<(d:Int):=by simp only at e2;omega
  clear e1 e2 hd;go_enter func94,ntmps94;go_wp2_with fail;refine HG.out.mono ?_;rintro e w1 ⟨A1,c1,rfl,_,_,_,az⟩;have a7:=ae az;clear az;go_wp2_with fail;go_ret3;exact jq.U4 (a7.out.trans ((bt _ _).mono a7.out.size))
 ·rw[e1]at HG;obtain⟨hp,hq,hL,d⟩:=h;simp only at d1 d2 d3 f1 hr;have⟨z,hz⟩:=ex ((d:Int):Int);have Oi:IntKind.u64.wrap z=z:=IntWalk.u64_in _ aa;have hwi:IntKind.i64.wrap z=z:=IntWalk.i64_in _ aa;have VG:z<4294967296:=aa;have kw:0≤z:=aa;obtain⟨me,Jz⟩: ∃z:Int,(mem:Int)=z:=⟨_,rfl⟩
  have hmd:decide (me<z)=false:=decide_eq_false aa;rw[Jz];have Xr:Hid (Calls prog 137 #[.slice A B.length c] w fun e w'=> ∃A1 c1,e= .returned (.tuple #[.agg #[.int .i64 hp,.int .i64 hq,.slice A1 hL.length c1,.int .u32 z],.int .i64 (n:Nat),.int .i64 0])∧fN w' A1 hL∧hL.length≤c1∧c1≤9223372036854775807∧Below w.heap.size w w'):=ae (by rw[←hz];exact HG.out);have HZ:=ae (And.intro hz Jz);clear HG;have pX:(n:Int)≤(B.length:Int):=aa;have MG:(n:Int)≤(c:Int):=aa;have⟨m,hm⟩:=ex (B.length-n);obtain⟨c2,cU⟩: ∃m,c-n=m:=⟨_,rfl⟩
  have aoO:(B.length:Int)-(n:Int)=(m:Int):=aa;have acl:(c:Int)-(n:Int)=(c2:Int):=am HB.out.2.2.1;have HU:=ae (fun(W:World) (hb:Below w.heap.size w W)=>(show Calls prog 138 #[.slice (if c=n then A else A.map fun x=>x.add n) m c2,.int .i64 (d:Nat)] W (jq W (S,p,er))from by
   have hl:(B.drop n).length=m:=(by rw[List.length_drop];exact hm);have hB:=HB.out;have Pm: ∀a,(if c=n then A else A.map fun x=>x.add n)=some a→a.block<W.heap.size:=by
    intro a ha;split at ha;·exact Nat.lt_of_lt_of_le (hB.2.1 a ha) hb.size
    ·cases hA:A with
     | none=>rw[hA]at ha;cases ha
     | some x=>
      rw[hA]at ha;have e:x.add n=a:=(by simpa using ha);have:a.block=x.block:=(by rw[←e];unfold Addr.add;split<;>rfl);rw[this];exact Nat.lt_of_lt_of_le (hB.2.1 x hA) hb.size
   have h:=f1 (if c=n then A else A.map fun x=>x.add n) c2 W ((hB.1.below hb).cutFrom hn hB.2.2.1) Pm aa aa aa;rw[hl]at h;exact h))
  have HN:=ae (And.intro hn (And.intro hm cU));clear e1 d1 d2 d3 f1 hn hm cU hz Jz;go_enter func94,ntmps94;go_wp2_with fail;refine Xr.out.mono ?_;rintro e w1 ⟨A1,c1,rfl,hF1,aie,i9,az⟩;have a7:=ae az;have H1:=ae (And.intro hF1 (And.intro aie i9));clear az hF1 aie i9;go_upto_region 6 with fail;obtain⟨w2,xU⟩: ∃W,w1.alloc (.cells #[.int .i64 hp,.int .i64 hq,.slice A1 hL.length c1,.int .u32 z] 75)=W:=⟨_,rfl⟩
  obtain⟨kL,aD⟩:=gz (vs:=[.int .i64 hp,.int .i64 hq,.slice A1 hL.length c1,.int .u32 z]) xU;rw[xU];have YM:=ae (fun(W:World) (h:Below w2.heap.size w2 W)=>aoN ((h.block _ (cr kL)).trans kL));have dW:=ae (aM a7.out aD);have HAG:Hid (∀(n:Nat) (W:World),n≤1000000000→Calls prog 140 #[.int .i64 (n:Nat),.int .i64 (n:Nat)] W fun e w'=>e= .returned (.bool true)∧W=w'):=ae (fun n W hn=>by
   have h:=Ko (n:Nat) n hn W;rw[show(decide ((n:Int)<0)||(n:Int)==(n:Int))=true by simp]at h;exact h)
  have HF2:=ae (H1.out.1.below aD);have bw:=a8 w2;obtain⟨A2,Pm⟩: ∃x,(if c=n then A else A.map fun x=>x.add n)=x:=⟨_,rfl⟩
  rw[Pm]at HU;rw[HZ.out.1]at HU;clear xU kL aD;refine wp_region_held_drew (S:=fun W=>Below w2.heap.size w2 W) ai bw (fun hS=> ?_);refine af 0 hS (h:=af 1 hS (h:= ?_));refine gK 2 (v:= .slice A2 m c2) ?aoQ hS ?_;case aoQ=>intro w hSw;go_simp;(try rw[Pm]);exact⟨HN.out.2.1,HN.out.2.2⟩
  refine dM ?_;refine af 3 hS (h:=bI 4 YM.out hS (h:=af 5 hS (h:= ?_)));refine aC 6 (fun K hK=> ?_);go_simp;refine(HU.out _ (aM dW.out bw)).mono ?_;rintro e w3 ⟨A3,c3,rfl,oj,ln,bA⟩;have g3:Below w2.heap.size w2 w3:=bw.trans bA;have H3:=ae (And.intro ln (And.intro oj g3));clear oj ln bA;go_wp2_with fail;refine hK.out _ _ g3 (fun _=> ?_);clear hK K;refine af 7 g3 (h:=af 8 g3 (h:=af 9 g3 (h:=af 10 g3 (h:=af 11 g3 (h:=af 12 g3 (h:=af 13 g3 (h:= ?_)))))));refine wpAnyH_done ai ?_ _;clear hS bw HU Xr;have gF:=ae (aM dW.out g3);obtain⟨y0,y1,y2,_⟩:=YM.out w3 g3;have HG3:=ae g3;clear g3;rcases hr with⟨dH,rfl⟩ | ⟨rfl,rM,rfl,rfl,hSl,qp,Bl,rfl⟩
  ·obtain⟨ei,Qs⟩: ∃x:Int,(er:Int)=x:=⟨_,rfl⟩
   have aoS:(ei==0)=false:=C1;rw[Qs];have HEI:=ae Qs;clear dH Qs aoO acl pX MG qw EN pW aid hmd VG kw Oi hwi y0 y1 y2 Pm;go_wp2_with fail;go_ret3;rw[←HEI.out];exact jq.U4 gF.out
  ·obtain⟨dp,h3⟩:=Aa _ rM;have wS:=ae (J5 A1 hL c1 w3 (HF2.out.below HG3.out) aa dp rM A3 S c3 H3.out.1 hSl);have⟨q,hq⟩:=ex (n+p);have rq:(n:Int)+(p:Int)=(q:Int):=aa;have ZI:(q:Int)≤2000000000:=aa;have HQ:=ae (And.intro hq (And.intro hSl qp));clear rM dp h3 hSl qp Bl hq;go_wp2_with fail;refine wS.out.mono ?_;rintro e w4 ⟨v4,rfl,cY,bm⟩;obtain⟨A4,c4,rfl,qE,mS,uw⟩:=cY.read;have H4:=ae (And.intro uw (And.intro qE (And.intro mS (aM gF.out bm))));have wP:(lL hL S).length=S.length:=ti _ _;obtain⟨y0,y1,_,_⟩:=YM.out w4 (aM HG3.out bm);have xF:=ae wP;rw[wP];clear cY bm qE mS uw wP y2;go_wp2_with fail;refine(HAG.out p _ HQ.out.2.2).mono ?_;rintro e w5 ⟨rfl,rfl⟩;go_wp2_with fail;refine(HAG.out S.length _ (am HQ.out.2.1)).mono ?_;rintro e w6 ⟨rfl,rfl⟩;go_wp2_with fail;go_ret3;exact⟨A4,c4,by simp only;rw[xF.out,HQ.out.1];rfl,⟨H4.out.2.1,H4.out.2.2.1⟩,H4.out.1,H4.out.2.2.2⟩
end Go.Proofs.YtfcaoggfnkhfiaaGreatDoor
