import Derived.Test.YtgfpocdiojifoaaGreatDoorZ25
import Derived.Lib.MinMax
import Derived.OwnWalkIn
namespace Go.Proofs.YtgfpocdiojifoaaGreatDoor
set_option maxRecDepth 100000
set_option maxHeartbeats 8000000
open Go.RowKit
def sS(k:jv):UInt8:=UInt8.ofNat (k.lc+9*(k.lp+5*k.pb))
def cZ(k:jv)(a b:Nat)(s:iq)(had:Bool)(r:List UInt8):List UInt8:=
 (([uV a had s]++yZ (b-a-1))++yZ (r.length-1))++(if 192≤uV a had s then [sS k]else [])++r
def aC(k:jv)(a b:Nat)(s:iq)(had:Bool):List UInt8×iq×Bool:=
 let r:=codeOf k a b (dV s)
 if b-a+3≤(cZ k a b s had r.1).length∨65536<r.1.length then(fF k.D a b,none,had)else(cZ k a b s had r.1,some r.2,true)
def TG(w:World)(p:Nat)(k:jv)(Y:List Nat)(r:List UInt8×iq×Bool)(e:Ending)(w':World):Prop:=
 ∃v Y',e= .returned (.tuple #[v,.int .i64 0])∧Own w.heap.size w' v r.1∧Pk w' p k r.2.1 r.2.2 Y'∧Only (p::Y) w w'∧ ∀i∈Y',i∈Y∨w.heap.size≤i
theorem Own.GR{base:Nat}{w w':World}{v:Value}{l:List UInt8}(h:Own base w v l)(hb: ∀g,v.ownBlock=some g→w'.heap[g]? =w.heap[g]?):Own base w' v l:=by
 rcases h with⟨h1,h2 | ⟨g,cap,cur,h2,h3,h4,h5⟩⟩
 ·exact⟨h1,.inl h2⟩
 ·exact⟨h1,.inr ⟨g,cap,cur,h2,h3,(hb g (by rw[h2];rfl)).trans h4,h5⟩⟩
theorem TI{w0 w:World}{p:Nat}{k:jv}{s:iq}{had:Bool}{Y:List Nat}{AF:Option Addr}{cF mp B bD oD:Nat}(c:PkC w0 k AF cF mp B bD oD)(hb:Below w0.heap.size w0 w)(h:Pk w p k s had Y)(hp:w0.heap.size≤p)(hY: ∀i∈Y,w0.heap.size≤i)(a b:Nat)(hab:a<b)(hbl:b≤k.D.length):
  Calls Tryz.prog 42 #[PF p,.int .i64 (a:Nat),.int .i64 (b:Nat)] w (TG w p k Y (aC k a b s had)):=by
 have HCT:=Lib.hid (KO h a)
 have HTR:=Lib.hid (try_any c hb h hp hY a b hab hbl)
 obtain⟨⟨R,s2⟩,hR⟩: ∃r,codeOf k a b (dV s)=r:=⟨_,rfl⟩
 obtain⟨x,hx⟩: ∃x,uV a had s=x:=⟨_,rfl⟩
 obtain⟨T1,hT1⟩: ∃T,yZ (b-a-1)=T:=⟨_,rfl⟩
 obtain⟨T2,hT2⟩: ∃T,yZ (R.length-1)=T:=⟨_,rfl⟩
 obtain⟨P,hP⟩: ∃P,(if 192≤x then [sS k]else [])=P:=⟨_,rfl⟩
 obtain⟨O,hO⟩: ∃O,((([x]++T1)++T2)++P)++R=O:=⟨_,rfl⟩
 obtain⟨RES,sU⟩: ∃RES,aC k a b s had=RES:=⟨_,rfl⟩
 rw[hx]at HCT
 rw[hR]at HTR
 have hpk:cZ k a b s had R=O:=by unfold cZ;rw[hx,hT1,hT2,hP,hO]
 have xJ:Hid (RES=if b-a+3≤O.length∨65536<R.length then(fF k.D a b,none,had)else(O,some s2,true)):=Lib.hid (by rw[←sU];unfold aC;rw[hR];show(if b-a+3≤(cZ k a b s had R).length∨_ then _ else _)=_;rw[hpk])
 rw[sU]
 have aiC:=Lib.hid (fun W=>qC (b-a-1) (by have:=c.small;omega) W)
 have amN:Hid (5≤R.length→R.length+100≤140737488355328→ ∀W,Calls Tryz.prog 77 #[.int .i64 (R.length:Nat)] W (Iu W T2)):=Lib.hid (fun h1 h2 W=>by
  have h:=qC (R.length-1) (by omega) W
  rw[show R.length-1+1=R.length by omega,hT2]at h
  exact h)
 rw[show((b-a-1+1:Nat):Int)=(b:Int)-(a:Int) by omega,hT1]at aiC
 have HT1:Hid (T1.length=2):=Lib.hid (by rw[←hT1];rfl)
 have HT2:Hid (T2.length=2):=Lib.hid (by rw[←hT2];rfl)
 have HPP:Hid (P.length≤1):=Lib.hid (by rw[←hP];split<;>simp)
 have HP:=Lib.hid hP
 obtain⟨q,hq⟩: ∃q,decide ((192:Int)≤(x.toNat:Int))=q:=⟨_,rfl⟩
 have HQ:Hid (q=true↔192≤x):=Lib.hid (by
  rw[←hq,decide_eq_true_iff,UInt8.le_iff_toNat_le]
  show _↔192≤x.toNat
  omega)
 have HO:=Lib.hid hO
 have HC:=Lib.hid c
 have HB:=Lib.hid hb
 have HPY:=Lib.hid (And.intro hp hY)
 have HAB:=Lib.hid (And.intro hab hbl)
 have Fa:=Lib.hid h.lt
 have hai:(a:Int)<(b:Int):=by omega
 have hdi:(k.D.length:Int)≤100000:=by have:=c.small;omega
 have hbi:(b:Int)≤(k.D.length:Int):=by omega
 clear c hb h hp hY hab hbl hR hx hpk sU hT1 hT2 hP hO
 go_enter Tryz.func42,Tryz.ntmps42
 go_wp2_with fail
 refine HCT.out.mono ?_
 rintro e w1 ⟨rfl,rfl⟩
 go_wp2_with fail
 refine HTR.out.mono ?_
 rintro e w2 ⟨v2,Y2,rfl,ho2,hP2,iQ,hY2,hR5,hRm⟩
 simp only at ho2 hP2 hR5 hRm
 obtain⟨AR,cR,rfl,_,_,hBR⟩:=ho2.read
 obtain⟨W3,hW3⟩: ∃W3,w2.alloc (.cells #[B8 x] 5)=W3:=⟨_,rfl⟩
 have ho3:Own w2.heap.size W3 (.slice (some ⟨w2.heap.size,0,none⟩) 1 1) [x]:=by rw[←hW3];exact Own.lit w2 [x] (Nat.le_refl _) (by simp)
 have hb3:Below w2.heap.size w2 W3:=by rw[←hW3];exact(Below.refl _ _).alloc (Nat.le_refl _) _
 have HBR:=Lib.hid hBR
 have HP2:=Lib.hid hP2
 have lW:=Lib.hid iQ
 have HY2:=Lib.hid hY2
 have HR5:=Lib.hid (And.intro hR5 hRm)
 have HW3:=Lib.hid hW3
 have Xw:=Lib.hid ho3
 have HB3:=Lib.hid hb3
 have hRi:(R.length:Int)≤140737488355328:=by omega
 clear ho2 hP2 iQ hY2 hR5 hRm hBR hW3 ho3 hb3 HCT HTR
 go_wp2_with fail
 rw[show w2.alloc (Obj.cells #[B8 x] 5)=W3 from HW3.out]
 refine(aiC.out _).mono ?_
 rintro e w4 ⟨v4,rfl,fE,hb4⟩
 obtain⟨A4,c4,rfl,_,_,hB4⟩:=fE.read
 have HB4:=Lib.hid (HB3.out.trans (hb4.mono HB3.out.size))
 have aiD:=Lib.hid (Xw.out.below hb4)
 have amP:=Lib.hid hB4
 clear fE hb4 hB4
 go_upto_region 6 with(at_builtin;refine ay ?_ (.tmp 26) (.tmp 30) ?_ w2.heap.size w4 (.slice (some ⟨w2.heap.size,0,none⟩) 1 1) [x] ?_ aiD.out A4 T1 c4 ?_ amP.out (by rw[HT1.out];show 1+2≤140737488355328;decide) HB4.out.size ?_;rfl;rfl;rfl;rfl;intro v5 w5 qj hg5;have Vw:=Lib.hid qj;have zk:=Lib.hid (below_grown HB4.out hg5 HB4.out.size (fun g e=>(aiD.out.aF g e).1));clear qj hg5)
 go_wp2_with fail
 refine(amN.out HR5.out.1 HR5.out.2 _).mono ?_
 rintro e w6 ⟨v6,rfl,BP,hb6⟩
 obtain⟨A6,c6,rfl,_,_,Fg⟩:=BP.read
 have Gv:=Lib.hid (zk.out.trans (hb6.mono zk.out.size))
 have aiE:=Lib.hid (Vw.out.below hb6)
 have amQ:=Lib.hid Fg
 clear BP hb6 Fg
 go_upto_region 7 with(at_builtin;refine ay ?_ (.tmp 32) (.tmp 35) ?_ w2.heap.size w6 v5 ([x]++T1) ?_ aiE.out A6 T2 c6 ?_ amQ.out (by rw[List.length_append,HT1.out,HT2.out];show 1+2+2≤140737488355328;decide) Gv.out.size ?_;rfl;rfl;rfl;rfl;intro v7 w7 Bd VD;have HO7:=Lib.hid Bd;have vJ:=Lib.hid (below_grown Gv.out VD Gv.out.size (fun g e=>(aiE.out.aF g e).1));clear Bd VD)
 go_upto_if 38 with fail
 go_cut [11]from 39 (fun s11 wx=>Own w2.heap.size wx s11 ((([x]++T1)++T2)++P)∧Below w2.heap.size w2 wx)
 case first=>
  cases q with
  | true=>
   have hx:=HQ.out.1 rfl
   have hP1:P=[sS k]:=by rw[←HP.out,if_pos hx]
   obtain⟨cv,Ym,_⟩:=(HP2.out.below vJ.out).ex
   obtain⟨o4,o5,o6,o7,o8,o9⟩:=Ym.opts
   have o1:=Ym.lc
   have o2:=Ym.lp
   have o3:=Ym.pb
   have HPR:=Lib.hid (SC k.lc k.lp k.pb k.nice k.chunk k.block k.check k.chain k.dict HC.out.lc HC.out.lp HC.out.pb w7)
   clear hx Ym
   go_wp2_with fail
   refine HPR.out.mono ?_
   rintro e w8 ⟨rfl,hb8⟩
   obtain⟨y,hy⟩: ∃y,UInt8.ofNat (k.lc+9*(k.lp+5*k.pb))=y:=⟨_,rfl⟩
   have hP2:P=[y]:=by rw[hP1,←hy];rfl
   rw[hy]
   obtain⟨W9,hW9⟩: ∃W9,w8.alloc (.cells #[B8 y] 5)=W9:=⟨_,rfl⟩
   have HW9:=Lib.hid hW9
   have HX9:Hid (Bytes W9 (some ⟨w8.heap.size,0,none⟩) [y]):=Lib.hid (by rw[←hW9];exact Bytes.one w8 y)
   have afa:Below w7.heap.size w7 W9:=by rw[←hW9];exact hb8.alloc hb8.size _
   have FQ:=Lib.hid (vJ.out.trans (afa.mono vJ.out.size))
   have aiF:=Lib.hid (HO7.out.below afa)
   have amR:=Lib.hid hP2
   clear o1 o2 o3 o4 o5 o6 o7 o8 o9 hP1 hP2 hy hW9 hb8 afa
   go_wp2_with (at_builtin;rw[HW9.out];refine ay ?_ (.tmp 39) (.tmp 45) ?_ w2.heap.size W9 v7 (([x]++T1)++T2) ?_ aiF.out (some ⟨w8.heap.size,0,none⟩) [y] 1 ?_ HX9.out (by rw[List.length_append,List.length_append,HT1.out,HT2.out];show 1+2+2+1≤140737488355328;decide) FQ.out.size ?_;rfl;rfl;rfl;rfl;intro v10 w10 KY aiG;have Yn:=Lib.hid KY;have oN:=Lib.hid (below_grown FQ.out aiG FQ.out.size (fun g e=>(aiF.out.aF g e).1));clear KY aiG)
   go_meet
   exact⟨by rw[amR.out];exact Yn.out,oN.out⟩
  | false=>
   have hx: ¬192≤x:=fun h=>Bool.noConfusion (HQ.out.2 h)
   have hP1:P=[]:=by rw[←HP.out,if_neg hx]
   have HP1:=Lib.hid hP1
   clear hx hP1
   go_wp2_with fail
   go_meet
   exact⟨by rw[HP1.out,List.append_nil];exact HO7.out,vJ.out⟩
 case rest=>
 obtain⟨Jw,hb8⟩:=hcut
 have HO8:=Lib.hid Jw
 have OM:=Lib.hid hb8
 clear Jw hb8
 go_upto_region 10 with(at_builtin;refine ay ?_ (.tmp 47) (.tmp 48) ?_ w2.heap.size wc u11 ((([x]++T1)++T2)++P) ?_ HO8.out AR R cR ?_ (HBR.out.below OM.out) (by have:=HR5.out.2;have:=HPP.out;rw[List.length_append,List.length_append,List.length_append,HT1.out,HT2.out];show 1+2+2+P.length+R.length≤140737488355328;omega) OM.out.size ?_;rfl;rfl;rfl;rfl;intro v9 w9 ho9 hg9;rw[HO.out]at ho9;have HO9:=Lib.hid ho9;have FQ:=Lib.hid (below_grown OM.out hg9 OM.out.size (fun g e=>(HO8.out.aF g e).1));clear ho9 hg9)
 obtain⟨A9,c9,hv9,_,hc9,_⟩:=HO9.out.read
 have Yo:=HP2.out.below FQ.out
 have hp2:p<w2.heap.size:=Nat.lt_of_lt_of_le Fa.out lW.out.size
 have abZ:Below w0.heap.size w0 w9:=by
  have h2:Below w0.heap.size w0 w2:=HB.out.trans (lW.out.below HB.out.size (fun i hi=>by
   rcases List.mem_cons.1 hi with rfl | hi
   ·exact HPY.out.1
   ·exact HPY.out.2 i hi))
  exact h2.trans (FQ.out.mono h2.size)
 have aiK:=Lib.hid (Tq Yo HC.out.addr (HC.out.bytes.below abZ) (by have:=HC.out.blk;have:=HPY.out.1;omega) HC.out.cap HC.out.small a b HAB.out.1 HAB.out.2)
 have hOi:(O.length:Int)≤9223372036854775807:=by
  have h:=HR5.out.2
  have h2:=HPP.out
  rw[←HO.out,List.length_append,List.length_append,List.length_append,List.length_append,HT1.out,HT2.out]
  show((1+2+2+P.length+R.length:Nat):Int)≤_
  omega
 by_cases h1:b-a+3≤O.length
 ·have HST:Hid (b-a+3≤O.length∨65536<R.length):=Lib.hid (.inl h1)
  have h1i:(b:Int)-(a:Int)+3≤(O.length:Int):=by omega
  subst hv9
  clear h1 Yo hp2 abZ hc9
  ·skip
   go_wp2_with fail
   refine aiK.out.mono ?_
   rintro e w10 ⟨v10,rfl,KY,Yp,KZ⟩
   have Yn:=Lib.hid KY
   have afb:=Lib.hid Yp
   have Yq:=Lib.hid KZ
   clear KY Yp KZ
   go_wp2_with fail
   go_ret2
   have hres:RES=(fF k.D a b,none,had):=by rw[xJ.out];exact if_pos HST.out
   rw[hres]
   refine⟨v10,[],rfl,Yn.out.weaken (Nat.le_trans lW.out.size FQ.out.size),afb.out,?_,fun i hi=>by cases hi⟩
   exact(lW.out.trans (Only.of_below FQ.out) (fun i hi=> .inl hi)).trans Yq.out (fun i hi=> .inl (by simp only[List.mem_cons,List.not_mem_nil,or_false]at hi;simp[hi]))
 ·have h1i: ¬(b:Int)-(a:Int)+3≤(O.length:Int):=by omega
  by_cases h2:65536<R.length
  ·have HST:Hid (b-a+3≤O.length∨65536<R.length):=Lib.hid (.inr h2)
   have h2i:(65536:Int)<(R.length:Int):=by omega
   subst hv9
   clear h1 h2 Yo hp2 abZ hc9
   go_wp2_with fail
   refine aiK.out.mono ?_
   rintro e w10 ⟨v10,rfl,KY,Yp,KZ⟩
   have Yn:=Lib.hid KY
   have afb:=Lib.hid Yp
   have Yq:=Lib.hid KZ
   clear KY Yp KZ
   go_wp2_with fail
   go_ret2
   have hres:RES=(fF k.D a b,none,had):=by rw[xJ.out];exact if_pos HST.out
   rw[hres]
   refine⟨v10,[],rfl,Yn.out.weaken (Nat.le_trans lW.out.size FQ.out.size),afb.out,?_,fun i hi=>by cases hi⟩
   exact(lW.out.trans (Only.of_below FQ.out) (fun i hi=> .inl hi)).trans Yq.out (fun i hi=> .inl (by simp only[List.mem_cons,List.not_mem_nil,or_false]at hi;simp[hi]))
  ·have HST:Hid (¬(b-a+3≤O.length∨65536<R.length)):=Lib.hid (fun h=>h.elim h1 h2)
   have h2i: ¬(65536:Int)<(R.length:Int):=by omega
   obtain⟨cv,hPw,hCw⟩:=Yo.ex
   have c12:=hPw.aik
   have f12:=hPw.frozen 12
   have QL:=Lib.hid hPw
   have HCW:=Lib.hid hCw
   have Nc:=Lib.hid hp2
   have HV9:=Lib.hid hv9
   subst hv9
   clear h1 h2 Yo hp2 abZ hc9 hPw hCw
   go_wp2_with fail
   go_ret2
   have hres:RES=(O,some s2,true):=by rw[xJ.out];exact if_neg HST.out
   rw[hres]
   have hpO:=(show Pk w9 p k (some s2) had Y2 from⟨cv,QL.out,HCW.out⟩).own HO9.out
   refine⟨_,Y2,rfl,((HO9.out.GR (fun g hg=>ah _ _ _ _ (by show g≠p;intro e;subst e;exact hpO _ hg (by simp)))).weaken lW.out.size),⟨cv,QL.out.ae3 true,?_⟩,?_,HY2.out⟩
   ·refine HCW.out.keep fun i hi=>ah _ _ _ _ ?_
    show i≠p
    intro e;subst e
    exact HCW.out.apart QL.out (by decide) (by decide) hi
   ·exact(lW.out.trans (Only.of_below FQ.out) (fun i hi=> .inl hi)).setCell (.inl (by simp)) _
section
open Go Go.RowKit
variable{F:Fence}{n:Nat}{P:Program}
def aiL(F:Fence)(n:Nat)(P:Program)(g:Nat)(lb:Array Value)(b1 b2:Nat)(L:List (Nat×Nat))(w:World):Prop:=
 ∀(l:Nat) (J:List (Nat×Nat)→World→Prop) (W:World),(∀s W,J s W→W.heap[b1]? =w.heap[b1]? ∧W.heap[b2]? =w.heap[b2]?)→
  (∀pre x t W1,L=pre++x::t→J pre W1→YieldAt F (n-1) P l #[.int .i64 (x.1:Nat),.int .i64 (x.2:Nat)] W1 fun e W'=>e= .returned (.bool true)∧J (pre++[x]) W')→
  J [] W→
  CallsIn F n P g (#[.func (.yield l) #[] #[]]++lb) W fun e W'=>(∃v,e= .returned v)∧J L W'
def ab1(I:List (Nat×Nat)→World→Prop)(xs:List (Nat×Nat))(W:World):Exit→Act→World→Prop
 | .normal,_,W'=>KeepsOthers W W'∧I xs W'
 | _,_,_=>False
theorem IW{g:Operand}{ps:Array Tmp}{assign body:Code}{Q:Exit→Act→World→Prop}{a:Act}{w:World}
  (hro:F.round=none) (h1:1≤n) {gf:Nat} {lb:Array Value} (hg:a.eval g= .func (.func gf) #[] lb) (hFg:F.fn gf) (eg: ∀args w,(callFunc gf args).run P w= .ok (.enter gf args) w)
  {L:List (Nat×Nat)} {b1 b2:Nat} {w0:World} (hseq:aiL F (n-1) P gf lb b1 b2 L w0) (hps:ps.size=2)
  (I:List (Nat×Nat)→World→Prop)
  (hIa: ∀s W o,I s W→I s (W.alloc o)) (Oc: ∀s W l o o',I s W→w.heap.size≤l→W.heap[l]? =some o→o.isCells=false→I s (W.putObj l o')) (hIb: ∀s W,I s W→W.heap[b1]? =w0.heap[b1]? ∧W.heap[b2]? =w0.heap[b2]?) (h0:I [] w) (a₁:Nat×Nat→Act)
  (hassign: ∀(l:Nat) (x:Nat×Nat) (W:World) (K:Act→World→Prop),K (a₁ x) W→
   assign.wpIn (F.inRound l) (n-1-1) P (Exit.then K (fun _ _ _=>False)) {tmps:=(ps.zip #[.int .i64 (x.1:Nat),.int .i64 (x.2:Nat)]).foldl (fun t (p,v)=>t.setIfInBounds p v) a.tmps,defers:=[]} W)
  (hbody: ∀(l:Nat) (pre:List (Nat×Nat)) (x:Nat×Nat) (t:List (Nat×Nat)) (W:World),L=pre++x::t→I pre W→body.wpIn (F.inRound l) (n-1-1) P (ab1 I (pre++[x]) W) (a₁ x) W)
  (hdone: ∀(D:Nat) (W:World),w.heap.size≤D→I L W→W.heap[D]? =some (.deferred (some []))→Q .normal {a with defers:={target:= .collected D,args:= #[]}::a.defers} W):
  (Code.rangeFunc g ps assign body).wpIn F n P Q a w:=by
 refine wpIn_rangeFunc fun fn hfn=> ?_
 rw[hro]
 obtain⟨sV,hrec⟩: ∃rec:LoopState→Loop,rec=fun st=>{state:=st,pending:=none,fn,tmps:=a.tmps,params:=ps,assign,body,defers:=w.heap.size}:=⟨_,rfl⟩
 obtain⟨W1,hW1⟩: ∃W1,(w.alloc (.deferred (some []))).alloc (.loop (sV .ready))=W1:=⟨_,rfl⟩
 have hL1:W1.heap[w.heap.size+1]? =some (.loop (sV .ready)):=by
  rw[←hW1];have:=World.alloc_heap_new (w.alloc (.deferred (some []))) (.loop (sV .ready));rwa [World.size_alloc]at this
 have hK1:W1.heap[w.heap.size]? =some (.deferred (some [])):=by
  rw[←hW1];exact(Below.heap_alloc _ _ _ (by simp)).trans (World.alloc_heap_new w _)
 have hI1:I [] W1:=by rw[←hW1];exact hIa _ _ _ (hIa _ _ _ h0)
 refine⟨w.heap.size+1,[{target:= .collected w.heap.size,args:= #[]}],W1,{target:= .fn (.func gf) lb,args:= #[.func (.yield (w.heap.size+1)) #[] #[]]},W1,gf,
  #[.func (.yield (w.heap.size + 1)) #[] #[]] ++ lb, W1, ?_, ?_, ?_, ?_, fun _ => h1, ?_⟩
 ·rw[←hW1,hrec];exact run_enterLoop_outer _ _ _ _ _
 ·simp only[resolve,hg]
  simp[go_sem]
 ·intro f' hf';simp[Target.leads]at hf';subst hf';exact hFg
 ·simp[invoke,go_sem,eg]
 ·refine(hseq (w.heap.size+1)
   (fun pre W=>I pre W∧W.heap[w.heap.size+1]? =some (.loop (sV .ready))∧W.heap[w.heap.size]? =some (.deferred (some [])))
   W1 (fun s W hs=>hIb s W hs.1) ?_ ⟨hI1,hL1,hK1⟩).mono ?_
  ·rintro pre x t W hsplit ⟨hi,hl,hk⟩
   have hlt:w.heap.size+1<W.heap.size:=(Array.getElem?_eq_some_iff.1 hl).1
   have hy:=run_yield (P:=P) (args:= #[.int .i64 (x.1:Nat),.int .i64 (x.2:Nat)]) hl (by rw[hrec];simp[hps])
   rw[hrec]at hy
   refine⟨fn,_,assign,body,hy,roundIn_of_wpIn hfn (hassign _ x W _ ⟨_,run_beginRound hl (by rw[hrec]),?_⟩)⟩
   have hl2:(W.putObj (w.heap.size+1) (.loop {sV .ready with state:= .busy})).heap[w.heap.size+1]? =some (.loop {sV .ready with state:= .busy}):=World.putObj_heap_same hlt
   have hk2:(W.putObj (w.heap.size+1) (.loop {sV .ready with state:= .busy})).heap[w.heap.size]? =some (.deferred (some [])):=(World.putObj_heap_other (by omega)).trans hk
   refine wpIn_mono (hbody _ pre x t _ hsplit (Oc _ _ _ _ _ hi (by omega) hl rfl)) ?_
   rintro e a3 W3 hp
   cases e with
   | normal=>
    obtain⟨hk3,hi3⟩:=hp
    have hl3:=hk3.same _ _ hl2 rfl
    have hend:=run_endRound (P:=P) none hl3
    rw[hrec]at hend hl3
    refine⟨_,_,hend,rfl,Oc _ _ _ _ _ hi3 (by omega) hl3 rfl,?_,(World.putObj_heap_other (by omega)).trans (hk3.same _ _ hk2 rfl)⟩
    rw[hrec]
    exact World.putObj_heap_same (Array.getElem?_eq_some_iff.1 hl3).1
   | ret=>exact hp.elim
   | exit id=>exact hp.elim
   | goto t=>exact hp.elim
   | panic ch=>exact hp.elim
   | outgrown=>exact hp.elim
  ·rintro e W2 ⟨⟨v,rfl⟩,hi,hl,hk⟩
   exact⟨none,_,by have:=run_endLoop (P:=P) hl (by rw[hrec];simp);rw[hrec]at this;exact this,hdone _ _ (Nat.le_refl _) (Oc _ _ _ _ _ hi (by omega) hl rfl) ((World.putObj_heap_other (by omega)).trans hk)⟩
end
section
open Go.RowKit Go.Shelf
attribute [local go_sem] Oper.semAt_some
def partsOf(n c:Nat):Nat→Nat→List (Nat×Nat)
 | 0,_=>[]
 | f+1,a=>if a<n then(a,min (a+c) n)::partsOf n c f (a+c)else []
theorem xR(n c:Nat)(hc:1≤c): ∀(f g a:Nat),n-a≤f→n-a≤g→partsOf n c f a=partsOf n c g a
 | 0,0,a,_,_=>rfl
 | 0,g+1,a,h,_=>by unfold partsOf;rw[if_neg (by omega)]
 | f+1,0,a,_,h=>by unfold partsOf;rw[if_neg (by omega)]
 | f+1,g+1,a,h1,h2=>by
  unfold partsOf
  by_cases hp:a<n
  ·rw[if_pos hp,if_pos hp,xR n c hc f g _ (by omega) (by omega)]
  ·rw[if_neg hp,if_neg hp]
def aT(n c a:Nat):List (Nat×Nat):=partsOf n c (n-a) a
theorem jP{n c a:Nat}(hc:1≤c)(h:a<n):aT n c a=(a,min (a+c) n)::aT n c (a+c):=by
 unfold aT
 obtain⟨f,hf⟩: ∃f,n-a=f+1:=⟨n-a-1,by omega⟩
 rw[hf]
 conv=>lhs;unfold partsOf
 rw[if_pos h,xR n c hc f (n-(a+c)) _ (by omega) (by omega)]
theorem dh{n c a:Nat}(h: ¬a<n):aT n c a=[]:=by
 unfold aT
 rw[show n-a=0 by omega];rfl
theorem TJ(F:Fence)(m:Nat)(hfn:F.fn 74)(hro:F.round=none)(hm:1≤m)(n c b1 b2:Nat)(hc:1≤c)(hcb:c≤65536)(hn:n≤4611686018427387904)(w:World)(hx1:aI b1 w (.int .i64 (n:Nat)))(hx2:aI b2 w (.int .i64 (c:Nat))):
  aiL F m Tryz.prog 74 #[PF b1,PF b2] b1 b2 (aT n c 0) w:=by
 obtain⟨f1,f2,f4,f3⟩:=F
 obtain rfl:f3=none:=hro
 intro l J W hJB hY h0
 have HC:Hid (∀s W,J s W→W.cell? ⟨b1,0,none⟩=some (.int .i64 (n:Nat))∧W.cell? ⟨b2,0,none⟩=some (.int .i64 (c:Nat))):=Lib.hid (fun s W h=>by
  obtain⟨k1,k2⟩:=hJB s W h
  exact⟨(hx1.keep k1).cell,(hx2.keep k2).cell⟩)
 have HY:=Lib.hid hY
 have HX0:=Lib.hid h0
 have hni:(n:Int)≤4611686018427387904:=by omega
 have hci:(c:Int)≤65536:=by omega
 have HCC:=Lib.hid (And.intro hc hn)
 obtain⟨c1,c2⟩:=HC.out _ _ h0
 clear hx1 hx2 hJB hY h0 hc
 refine callsIn_of_wp Tryz.func74 rfl hfn ?_ rfl
 simp only[Tryz.ntmps74,List.size_toArray,List.length_cons,List.length_nil,Nat.reduceAdd,Nat.reduceSub,Array.replicate_succ,Array.replicate_zero,List.push_toArray,List.append_toArray,List.nil_append,List.cons_append]
 gi_wp2
 gi_loopw [4] (fun v wr=> ∃(pre:List (Nat×Nat)) (a:Nat),v= .int .i64 (a:Nat)∧Hid (aT n c 0=pre++aT n c a)∧a≤n+65536∧J pre wr) (fun v _=>n+65536-(intOf v).toNat)
 case atStart=>exact⟨[],0,rfl,Lib.hid rfl,Nat.zero_le _,HX0.out⟩
 case round=>
  obtain⟨pre,a,rfl,HL,ha,hJs⟩:=hrel
  clear c1 c2
  obtain⟨c1,c2⟩:=HC.out _ _ hJs
  have HJS:=Lib.hid hJs
  have hai:(a:Int)≤4611686018427453440:=by omega
  by_cases han:a<n
  ·have e1:(a:Int)<(n:Int):=by omega
   have h1c:=HCC.out.1
   have HST:=jP h1c han
   obtain⟨M,hM⟩: ∃M,min (a+c) n=M:=⟨_,rfl⟩
   rw[hM]at HST
   have hMi:min ((a:Int)+(c:Int)) (n:Int)=(M:Int):=by omega
   obtain⟨fn,tmps,assign,body,hy,hR⟩:=HY.out pre (a,M) (aT n c (a+c)) wr (by rw[HL.out,HST]) hJs
   have HLE:Hid (aT n c 0=(pre++[(a,M)])++aT n c (a+c)):=Lib.hid (by rw[HL.out,HST];simp)
   have e2:Hid (((a:Int)+(c:Int))=((a+c:Nat):Int)):=Lib.hid (by omega)
   have hnew:a+c≤n+65536∧a<a+c:=by omega
   clear hM HST hJs h1c
   have hwr:IntKind.i64.wrap ((a:Int)+(c:Int))=(a:Int)+(c:Int):=IntWalk.i64_in _ (by omega)
   gi_wp2
   refine hR.mono ?_
   rintro e W3 ⟨rfl,hJ3⟩
   obtain⟨c1,c2⟩:=HC.out _ _ hJ3
   have HJ3:=Lib.hid hJ3
   clear hJ3
   gi_wp2
   go_roundw
   case rel=>exact⟨pre++[(a,M)],a+c,by rw[←e2.out],HLE,hnew.1,HJ3.out⟩
   case measure=>simp[intOf];omega
  ·have e1: ¬(a:Int)<(n:Int):=by omega
   have HE:Hid (pre=aT n c 0):=Lib.hid (by rw[HL.out,dh han,List.append_nil])
   clear han hJs
   gi_wp2
   go_end0
   exact⟨⟨_,rfl⟩,by rw[←HE.out];exact HJS.out⟩
def TK(n c:Nat)(w:World)(e:Ending)(w':World):Prop:=e= .returned (.func (.func 74) #[] #[PF w.heap.size,PF (w.heap.size+1)])∧(w.alloc (.cells #[.int .i64 (n:Nat)] 3)).alloc (.cells #[.int .i64 (c:Nat)] 3)=w'
theorem TL(n c:Nat)(w:World):Calls Tryz.prog 41 #[.int .i64 (n:Nat),.int .i64 (c:Nat)] w (TK n c w):=by
 go_enter Tryz.func41,Tryz.ntmps41
 go_wp2_with fail
 go_ret
 exact⟨rfl,rfl⟩
end
theorem DK{n c:Nat}(hc:1≤c): ∀(f a:Nat),n-a≤f→ ∀x∈aT n c a,x.1<x.2∧x.2≤n
 | 0,a,h,x,hx=>by
  rw[dh (by omega)]at hx;cases hx
 | f+1,a,h,x,hx=>by
  by_cases ha:a<n
  ·rw[jP hc ha]at hx
   rcases List.mem_cons.1 hx with rfl | hx
   ·show a<min (a+c) n∧min (a+c) n≤n;omega
   ·exact DK hc f (a+c) (by omega) x hx
  ·rw[dh ha]at hx;cases hx
theorem qF{n c:Nat}(hc:1≤c): ∀(f a:Nat),n-a≤f→(aT n c a).length≤n-a
 | 0,a,h=>by
  rw[dh (by omega)];exact Nat.zero_le _
 | f+1,a,h=>by
  by_cases ha:a<n
  ·rw[jP hc ha]
   have:=qF (n:=n) hc f (a+c) (by omega)
   simp only[List.length_cons];omega
  ·rw[dh ha];exact Nat.zero_le _
theorem Ag{n c:Nat}(hc:1≤c): ∀(f a:Nat),n-a≤f→(aT n c a).length*c≤(n-a)+(c-1)
 | 0,a,h=>by
  rw[dh (by omega)];simp
 | f+1,a,h=>by
  by_cases ha:a<n
  ·rw[jP hc ha]
   by_cases hb:a+c<n
   ·have:=Ag (n:=n) hc f (a+c) (by omega)
    simp only[List.length_cons,Nat.add_mul,Nat.one_mul];omega
   ·rw[dh hb]
    simp only[List.length_cons,List.length_nil,Nat.zero_add,Nat.one_mul];omega
  ·rw[dh ha];simp
theorem sW{D:List UInt8}{a b:Nat}(hab:a<b)(hb:b≤D.length):(fF D a b).length=b-a+3:=by
 unfold fF
 rw[List.length_append,List.length_cons,List.length_take,List.length_drop]
 have:(yZ (b-a-1)).length=2:=rfl
 omega
theorem sZ{k:jv}{a b:Nat}{s:iq}{had:Bool}(hab:a<b)(hb:b≤k.D.length):(aC k a b s had).1.length≤b-a+3:=by
 have e:aC k a b s had=if b-a+3≤(cZ k a b s had (codeOf k a b (dV s)).1).length∨65536<(codeOf k a b (dV s)).1.length then(fF k.D a b,none,had)else(cZ k a b s had (codeOf k a b (dV s)).1,some (codeOf k a b (dV s)).2,true):=rfl
 rw[e]
 split
 ·show(fF k.D a b).length≤_
  rw[sW hab hb]
  exact Nat.le_refl _
 ·rename_i h
  show(cZ k a b s had (codeOf k a b (dV s)).1).length≤_
  rw[not_or]at h
  omega
def aH(k:jv):List (Nat×Nat)→iq×Bool→List UInt8×iq×Bool
 | [],z=>([],z)
 | x::l,z=>((aC k x.1 x.2 z.1 z.2).1++(aH k l (aC k x.1 x.2 z.1 z.2).2).1,(aH k l (aC k x.1 x.2 z.1 z.2).2).2)
theorem Ah(k:jv)(x:Nat×Nat): ∀(l:List (Nat×Nat)) (z:iq×Bool),aH k (l++[x]) z=((aH k l z).1++(aC k x.1 x.2 (aH k l z).2.1 (aH k l z).2.2).1,(aC k x.1 x.2 (aH k l z).2.1 (aH k l z).2.2).2)
 | [],z=>by
  show((aC k x.1 x.2 z.1 z.2).1++[],(aC k x.1 x.2 z.1 z.2).2)=([]++(aC k x.1 x.2 z.1 z.2).1,_)
  rw[List.append_nil,List.nil_append];rfl
 | y::l,z=>by
  have h:=Ah k x l (aC k y.1 y.2 z.1 z.2).2
  show((aC k y.1 y.2 z.1 z.2).1++(aH k (l++[x]) (aC k y.1 y.2 z.1 z.2).2).1,(aH k (l++[x]) (aC k y.1 y.2 z.1 z.2).2).2)=_
  rw[h,←List.append_assoc];rfl
theorem qG{k:jv}{n c:Nat}(hc:1≤c)(hn:n=k.D.length): ∀(f a:Nat) (z:iq×Bool),n-a≤f→(aH k (aT n c a) z).1.length≤(n-a)+3*(aT n c a).length
 | 0,a,z,h=>by
  rw[dh (by omega)];exact Nat.zero_le _
 | f+1,a,z,h=>by
  by_cases ha:a<n
  ·rw[jP hc ha]
   have h1:=qG hc hn f (a+c) (aC k a (min (a+c) n) z.1 z.2).2 (by omega)
   have h2:=sZ (k:=k) (a:=a) (b:=min (a+c) n) (s:=z.1) (had:=z.2) (by omega) (by omega)
   show((aC k a (min (a+c) n) z.1 z.2).1++(aH k (aT n c (a+c)) (aC k a (min (a+c) n) z.1 z.2).2).1).length≤_
   rw[List.length_append,List.length_cons]
   omega
  ·rw[dh ha];exact Nat.zero_le _
theorem DL{k:jv}: ∀(l:List (Nat×Nat)) (z:iq×Bool),(∀x∈l,x.1<x.2∧x.2≤k.D.length)→(aH k l z).1.length≤l.length*(k.D.length+3)
 | [],_,_=>Nat.zero_le _
 | x::l,z,h=>by
  have h1:=DL l (aC k x.1 x.2 z.1 z.2).2 (fun y hy=>h y (by simp[hy]))
  obtain⟨h3,h4⟩:=h x (by simp)
  have h2:=sZ (k:=k) (a:=x.1) (b:=x.2) (s:=z.1) (had:=z.2) h3 h4
  show((aC k x.1 x.2 z.1 z.2).1++(aH k l (aC k x.1 x.2 z.1 z.2).2).1).length≤_
  rw[List.length_append,List.length_cons,Nat.add_mul,Nat.one_mul]
  omega
def dU(k:jv):List UInt8:=(aH k (aT k.D.length k.chunk.toNat 0) (none,false)).1++[0]
theorem kD{F:Fence}{n:Nat}{ops:Array Oper}{rest:List Oper}{o:Oper}{a:Act}{Q:Exit→Act→World→Prop}(hgd:o.guard=none)(s x:Operand)
  (ho:o.op= .call {callee:= .builtin .append,args:= #[s,x],argTypes:= #[22,22]})
  (base:Nat) (w:World) (v:Value) (xs:List UInt8) (hs:a.eval s=v) (hown:Own base w v xs) (A:Option Addr) (l:List UInt8) (c:Nat) (hx:a.eval x= .slice A l.length c) (hB:Bytes w A l)
  (hsz:xs.length+l.length≤140737488355328) (hbase:base≤w.heap.size)
  (h: ∀v' w',Own base w' v' (xs++l)→w.grownBy w' v.ownBlock→wpListIn F n Tryz.prog ops Q rest (a.put o.dst v') w'):wpListIn F n Tryz.prog ops Q (o::rest) a w:=by
 refine wpListIn_plain hgd fun K hK=> ?_
 obtain⟨v',w',hr,h2,h3⟩:=kE base o.type w v xs hown A l c hB hsz hbase
 unfold Oper.wpIn
 refine⟨?_,?_⟩
 ·simp[Oper.about,ho,resolve,Target.leads,Sem.run_pure]
 ·rw[Oper.semAt_plain F _ _ (by rw[ho];intro c hc';cases hc')]
  simp[execOp,ho,resolve,invoke,builtin,hs,hx,hr,Result.andThen]
  exact hK _ _ (h v' w' h2 h3)
section
open Go.RowKit Go.Shelf
attribute [local go_sem] Oper.semAt_some
theorem GU{w W:World}{vs:List Value}{t0 t1 t2:TypeId}{v1 v2:Value}(h:((w.alloc (.cells vs.toArray t0)).alloc (.cells #[v1] t1)).alloc (.cells #[v2] t2)=W):
  W.heap[w.heap.size]? =some (.cells vs.toArray t0 (0,0))∧W.heap[w.heap.size+1]? =some (.cells #[v1] t1 (0,0))∧W.heap[w.heap.size+1+1]? =some (.cells #[v2] t2 (0,0))∧Below w.heap.size w W∧W.heap.size=w.heap.size+1+1+1:=by
 subst h
 have up: ∀{b:Nat} {W:World} {o':Obj} (o:Obj),W.heap[b]? =some o'→(W.alloc o).heap[b]? =some o':=fun o h=>(Below.heap_alloc _ _ _ (Array.getElem?_eq_some_iff.1 h).1).trans h
 have mk2: ∀(W:World) (o:Obj) (b:Nat),b=W.heap.size→(W.alloc o).heap[b]? =some o:=fun W o b e=>by subst e;exact heap_alloc_last W o
 refine⟨up _ (up _ (mk2 _ _ _ rfl)),up _ (mk2 _ _ _ (by simp)),mk2 _ _ _ (by simp),?_,by simp⟩
 refine Below.alloc ?_ (by simp;omega) _
 refine Below.alloc ?_ (by simp) _
 exact(Below.refl _ _).alloc (Nat.le_refl _) _
structure PkO(k:jv)(o:Value):Prop where
 val:o=FK (k.lc:Nat) (k.lp:Nat) (k.pb:Nat) k.nice k.chunk k.block k.check k.chain k.dict
 lc:k.lc≤4
 lp:k.lp≤4
 pb:k.pb≤4
 OL:k.lc+k.lp≤4
 nice:2≤k.nice∧k.nice≤273
 chunk:1≤k.chunk∧k.chunk≤65536
 dict:4096≤k.dict∧k.dict≤67108864
end
end Go.Proofs.YtgfpocdiojifoaaGreatDoor
