import Derived.Test.YtfcaoggfnkhfiaaGreatDoorZ21
import Derived.Deep.CutBlock
import Derived.Deep.DeepCutAuto
namespace Go.Proofs.YtfcaoggfnkhfiaaGreatDoor
set_option maxRecDepth 100000
set_option maxHeartbeats 8000000
open Go.RowKit Go.Proofs.Tryz
variable{a:Act}{ops:Array Oper}{Q:Exit→Act→World→Prop}{l:List UInt8}{base bo bytes c f i k:Nat}{o:Oper}{A:Option Addr}{t ts:TypeId}{v z:Value}{w w':World}
theorem rU(n:Nat):(Builtin.zeroCells (Value.int .u8 0).cells n).toList=List.replicate n (Value.int .u8 0):=by
 have hc:(Value.int .u8 0).cells= #[Value.int .u8 0]:=rfl;rw[hc];unfold Builtin.zeroCells;apply List.ext_getElem;·simp
 ·intro i h1 h2;simp[Nat.mod_one]
theorem uV(base:Nat)(ty:TypeId)(w:World)(v:Value)(xs:List UInt8)(aK:Own base w v xs)(h0:0<xs.length)(z:Nat)(hz:z≤1000000)(dl:xs.length+z≤140737488355328)(bR:base≤w.heap.size):
  ∃v' w',(Builtin.append_ #[22,3] ty #[v,.int .i64 (z:Nat)]).run prog w= .ok v' w'∧Own base w' v' (xs++List.replicate z 0)∧w.grownBy w' v.ownBlock:=by
 obtain⟨i,hi,kw,eQ,oC⟩:=info_parts oK;have vq:IntKind.i64.wrap (z:Int)=(z:Int):=IntWalk.i64_in _ aa;have az: ¬(z:Int)<0:=aa;have aD: ¬(281474976710656:Int)<(z:Int):=aa;have agR:(xs++List.replicate z (0:UInt8)).map B8=xs.map B8++List.replicate z (Value.int .u8 0):=by rw[List.map_append,List.map_replicate];rfl
 have Eb:(if z*i.size=0 then(pure #[]:Sem (Array Value))else pure (Builtin.zeroCells (Value.int .u8 0).cells z))=pure (List.replicate z (Value.int .u8 0)).toArray:=by
  rw[eQ,Nat.mul_one];by_cases Kn:z=0;·subst Kn;rfl
  ·rw[if_neg Kn];congr 1;apply Array.ext';rw[rU]
 rcases aK with⟨hl,⟨_,h⟩ | ⟨g,cap,cur,rfl,hb,hg,MG,qn,hcs,xH⟩⟩
 ·omega
 ·by_cases Uc:xs.length+z≤cap
  ·have bQ:=run_storeCells_at prog g (xs.length*i.size) 5 (List.replicate z (Value.int .u8 0)) 0 cur w hg (by rw[eQ,List.length_replicate];omega) (by intro u hu;rw[List.eq_of_mem_replicate hu];rfl);simp only[Nat.add_zero,eQ,Nat.mul_one]at bQ;have Dr:(Builtin.append_ #[22,3] ty #[.slice (some ⟨g,0,none⟩) xs.length cap,.int .i64 (z:Nat)]).run prog w= .ok (.slice (some ⟨g,0,none⟩) (xs.length+z) cap) (w.setRow g (List.take xs.length cur.toList++List.replicate z (Value.int IntKind.u8 0)++List.drop (xs.length+(List.replicate z (Value.int IntKind.u8 0)).length) cur.toList).toArray):=by
    by_cases Kn:z=0;·subst Kn;simp only[List.replicate_zero]at bQ;have hw0:IntKind.i64.wrap 0=0:=ak;simp[Builtin.append_,run_underlying underlying22,run_underlying underlying3,sizeOf,typeInfo,zeroValue,hi,eQ,oC,hw0,MG,asInt,asIntOf,Addr.add_lit,bQ]
    ·simp[Builtin.append_,run_underlying underlying22,run_underlying underlying3,sizeOf,typeInfo,zeroValue,hi,kw,eQ,oC,vq,az,aD,Kn,Uc,asInt,asIntOf,Addr.add_lit,rU,bQ]
   refine⟨_,_,Dr,⟨ag,.inr ⟨g,cap,_,ag,hb,setRow_heap w g cur _ _ _ hg,by simpa using Uc,qn,?_,?_⟩⟩,⟨rfl,rfl,rfl,ag,fun k _ hk=>setRow_other w g k _ (fun e=>hk (by simp[Value.ownBlock,e]))⟩⟩;·simp;omega
   ·rw[agR];simp only[Nat.mul_one]at xH;rw[xH];have e:xs.length+z=(List.map B8 xs++List.replicate z (Value.int IntKind.u8 0)).length:=ag;simp only[List.length_append,List.length_replicate,Nat.mul_one];rw[e];exact List.take_left
  ·have Kn: ¬z=0:=(by omega);have EL: ¬(9223372036854775807:Int)<(xs.length:Int)+(z:Int):=aa;have dw: ¬281474976710656<Builtin.nextslicecap (xs.length+z) cap:=(by have:=growslice_fits (need:=xs.length+z) (old:=cap) (bytes:=1) aa aa;omega);have YN:=run_firstCells_some (P:=prog) w.drew 1 xs.length ⟨g,0,none⟩ xs.length cap (xs.map B8) ag (by
    intro j u hu;have:=(show Own base w (.slice (some ⟨g,0,none⟩) xs.length cap) xs from⟨hl,.inr ⟨g,cap,cur,rfl,hb,hg,MG,qn,hcs,xH⟩⟩)
    exact World.ownsRow.cells this (g:=g) rfl j u hu)
   have Dr:(Builtin.append_ #[22,3] ty #[.slice (some ⟨g,0,none⟩) xs.length cap,.int .i64 (z:Nat)]).run prog w= .ok (.slice (some ⟨w.heap.size,0,none⟩) (xs.length+z) (grownCap w (xs.length+z) cap 5)) (w.drew.alloc (.cells ((xs.map B8).toArray++(List.replicate z (Value.int .u8 0)).toArray++Builtin.zeroCells (Value.int .u8 0).cells (grownCap w (xs.length+z) cap 5-(xs.length+z))) 5)):=(by have hzc:Builtin.zeroCells (Value.int .u8 0).cells z=(List.replicate z (Value.int .u8 0)).toArray:=Array.ext' (rU z);simp[Builtin.append_,run_underlying underlying22,run_underlying underlying3,sizeOf,typeInfo,zeroValue,hi,kw,eQ,oC,vq,az,aD,Kn,Uc,EL,dw,asInt,asIntOf,hzc,YN,Question.forced,newRow,grownCap]);have Lk:=grownCap_ge w (xs.length+z) cap 5;have OM:=grownCap_le_maxLen w (xs.length+z) cap 5 fF;refine⟨_,_,Dr,⟨ag,.inr ⟨w.heap.size,_,_,ag,bR,heap_alloc_new w.drew _,by simpa using Lk,OM,?_,?_⟩⟩,⟨rfl,rfl,rfl,ag,fun k hk _=>heap_alloc_old w.drew _ hk⟩⟩;·have cC:(Value.int .u8 0).cells.size=1:=rfl;simp only[Array.size_append,List.size_toArray,size_zeroCells,List.length_map,List.length_replicate,cC,Nat.mul_one];omega
   ·rw[agR];have e:(xs++List.replicate z (0:UInt8)).length*1=(List.map B8 xs++List.replicate z (Value.int IntKind.u8 0)).length:=ag;simp only[Array.toList_append];rw[e];exact List.take_left
theorem iK{K:Act→World→Prop}(mb:o.guard=none)(s x:Operand)
  (ho:o.op= .call {callee:= .builtin .append,args:= #[s,x],argTypes:= #[22,3]})
  (base:Nat) (w:World) (v:Value) (xs:List UInt8) (hs:a.eval s=v) (aK:Own base w v xs) (h0:0<xs.length) (z:Nat) (hx:a.eval x= .int .i64 (z:Nat)) (hz:z≤1000000) (dl:xs.length+z≤140737488355328) (bR:base≤w.heap.size)
  (h: ∀v' w',Own base w' v' (xs++List.replicate z 0)→w.grownBy w' v.ownBlock→K (a.put o.dst v') w'):if Region.wanted o (yielded ops a.tmps)=true then Oper.wp prog o a w K Q else K (a.put o.dst undef) w:=by
 rw[if_pos tY];obtain⟨v',w',hr,h2,h3⟩:=uV base o.type w v xs aK h0 z hz dl bR;unfold Oper.wp execOp;simp only[ho,resolve,invoke,builtin,Sem.run_bind,Sem.run_pure,Result.andThen_ok,List.map_toArray,List.map_cons,List.map_nil,hs,hx,hr];exact h v' w' h2 h3
def CF(w:World)(h:eO)(e:Ending)(w':World):Prop:=
 (ie h=true∧ ∃v,e= .returned (.tuple #[v,.int .i64 0])∧Own w.heap.size w' v (fD h)∧Below w.heap.size w w')∨
 (ie h=false∧e= .returned (.tuple #[.slice none 0 0,.int .i64 1])∧Below w.heap.size w w')
theorem OO(h:eO)(bL:h.ok)(A:Option Addr)(c:Nat)(w:World)(hF0:fN w A h.l)(YN: ∀f∈h.l,f.ok)(hl:h.l.length≤20):
  Calls prog 36 #[CE h A c] w (CF w h):=by
 have NK:Below w.heap.size w (w.alloc (jw h A c)):=ar;have hcs:=qX w h A c;have HV:=ae (Km h bL A c (w.alloc (jw h A c)) (hF0.below NK) hl);have q_:=ae (pE h bL YN);have HOP:=ae (show bE h=0::UInt8.ofNat (eD h)::tz h from rfl);have HSE:=ae (show eD h=h.l.length+(if h.p= -1 then 0 else 64)+(if h.q= -1 then 0 else 128)from rfl);have og:=ae (show tz h=jo h.p++jo h.q++ea (h.l++[bT h.d])from rfl);have HBH:=ae (show gv h=(di (bE h)).set 0 (UInt8.ofNat ((di (bE h)).length/4))from rfl);have HPH:=ae (show fD h=gv h++eL (gv h)from rfl);have Ud:w.heap.size<(w.alloc (jw h A c)).heap.size:=ag;obtain⟨p,q,l,d⟩:=h;obtain⟨o1,o2,o3,o4,o5⟩: -9223372036854775808≤p∧p≤9223372036854775807∧ -9223372036854775808≤q∧q≤9223372036854775807∧d<4294967296:=bL;simp only[jw,CE]at HV hcs NK Ud HSE og q_;have Cd:=ae hcs;have Ie:=ae NK;clear hcs NK;cases hv:ie ⟨p,q,l,d⟩with
 | false=>
  rw[hv]at HV;go_enter func36,ntmps36;go_wp2_with fail;refine HV.out.mono ?_;rintro e w1 ⟨rfl,az⟩;go_wp2_with fail;go_ret2;exact .inr ⟨hv,rfl,aM Ie.out az⟩
 | true=>
  rw[hv]at HV;obtain⟨g1,g2,g3,g4⟩:=q_.out hv;have HG:Hid (∀f∈l++[bT d],qY f):=ae g1;have g2:l.length≤3:=g2;have g3:p= -1∨1≤p:=g3;have g4:q= -1∨0≤q:=g4;have qw:(l.length:Int)≤3:=aa;clear g1;go_enter func36,ntmps36;go_wp2_with fail;refine HV.out.mono ?_;rintro e w1 ⟨rfl,az⟩;have a7:Hid (Below w.heap.size w w1):=ae (aM Ie.out az);have HK:=ae (fun(wx:World) (hb:Below w1.heap.size w1 wx)=>
   (show wx.cell? ⟨w.heap.size,0,none⟩=some (.int .i64 p)∧wx.cell? ⟨w.heap.size,1,none⟩=some (.int .i64 q)∧wx.cell? ⟨w.heap.size,2,none⟩=some (.slice A l.length c)∧wx.cell? ⟨w.heap.size,3,none⟩=some (.int .u32 (d:Nat))from
    have lt0:=Ud;have lt1:w.heap.size<w1.heap.size:=Nat.lt_of_lt_of_le Ud az.size;have up:=fun i=>(hb.cell (p:=⟨w.heap.size,i,none⟩) lt1).trans (az.cell (p:=⟨w.heap.size,i,none⟩) lt0)
    ⟨(up 0).trans Cd.out.1,(up 1).trans Cd.out.2.1,(up 2).trans Cd.out.2.2.1,(up 3).trans Cd.out.2.2.2⟩))
  obtain⟨_,_,k2,_⟩:=HK.out w1 (Below.refl _ _);have anx:Hid (w.heap.size<w1.heap.size):=ae (Nat.lt_of_lt_of_le Ud az.size);clear az Ud;have hw8:IntKind.u8.wrap (l.length:Int)=(l.length:Int):=wL;have hX0:ir (w1.heap.size+1) ((w1.alloc (.cells #[.int .u8 0,.int .u8 (l.length:Int)] 5)).alloc (.cells #[.slice (some ⟨w1.heap.size,0,none⟩) 2 2] 22)) (.slice (some ⟨w1.heap.size,0,none⟩) 2 2):=by have h:=heap_alloc_last (w1.alloc (.cells #[.int .u8 0,.int .u8 (l.length:Int)] 5)) (.cells #[.slice (some ⟨w1.heap.size,0,none⟩) 2 2] 22);rw[World.size_alloc]at h;exact h
  have Jr:((UInt8.ofNat l.length).toNat:Int)=(l.length:Int):=Dc;have hO0:Own w1.heap.size ((w1.alloc (.cells #[.int .u8 0,.int .u8 (l.length:Int)] 5)).alloc (.cells #[.slice (some ⟨w1.heap.size,0,none⟩) 2 2] 22)) (.slice (some ⟨w1.heap.size,0,none⟩) 2 2) [0,UInt8.ofNat l.length]:=by have h:=(Own.lit w1 [0,UInt8.ofNat l.length] (Nat.le_refl _) ag).alloc (.cells #[.slice (some ⟨w1.heap.size,0,none⟩) 2 2] 22);rw[←Jr];exact h
  have Fb:Below w1.heap.size w1 ((w1.alloc (.cells #[.int .u8 0,.int .u8 (l.length:Int)] 5)).alloc (.cells #[.slice (some ⟨w1.heap.size,0,none⟩) 2 2] 22)):=(ar).alloc ag _;have r_:Hid (Ep (w1.heap.size+1) w1.heap.size w1 [0,UInt8.ofNat l.length] ((w1.alloc (.cells #[.int .u8 0,.int .u8 (l.length:Int)] 5)).alloc (.cells #[.slice (some ⟨w1.heap.size,0,none⟩) 2 2] 22))):=ae ⟨_,hX0,hO0,Fb⟩;obtain⟨j0,_,_,_⟩:=HK.out _ Fb;clear hX0 hO0 Fb Jr;go_upto_region 5 with fail;generalize(w1.alloc (.cells #[.int .u8 0,.int .u8 (l.length:Int)] 5)).alloc (.cells #[.slice (some ⟨w1.heap.size,0,none⟩) 2 2] 22)=w2 at*;go_upto_if 22 with fail;go_cut []from 11 (fun wx=>Ep (w1.heap.size+1) w1.heap.size w1 (0::UInt8.ofNat (l.length+(if p= -1 then 0 else 64))::jo p) wx);case first=>
   by_cases hp:p= -1;·subst hp;go_wp2_with fail;go_meet;exact r_.out
   ·have Fn:1≤p:=(by omega);have hpo:Hid (jo p=Vl.put 9 p.toNat):=ae (by unfold jo;rw[if_neg hp]);have AU:Hid ((if p= -1 then 0 else 64)=(64:Nat)):=ae (by rw[if_neg hp]);obtain⟨m,rfl⟩:=Int.eq_ofNat_of_zero_le (show 0≤p by omega);obtain⟨g,cc,hx,ho,hb,hg,Ce,cC,ud,_,Sl,qn,_⟩:=r_.out.opened;have⟨s,hs⟩:=ex (l.length+64);have hor:bits .or .u8 (l.length:Int) 64=(s:Int):=(by rw[anw l.length g2,hs]);have bQ:=zB hx ho hb hg Ce s aa;have HN:=ae (xl (w1.heap.size+1) w1.heap.size _ _ m _ bQ.1 bQ.2.1 aa aa ag);obtain⟨j0',_,_,_⟩:=HK.out _ bQ.2.2;have t_:=hx.cell;rw[show((UInt8.ofNat l.length).toNat:Int)=(l.length:Int) by rw[UInt8.toNat_ofNat'];omega]at cC;have gl:=ae bQ.2.2;have HS:=ae hs;have anA:(2:Int)≤(cc:Int):=aa;clear bQ hx ho hs hp hg hb;go_wp2_with fail;refine HN.out.mono ?_;rintro e w3 ⟨v3,rfl,rz,fE,bA,_,_⟩;go_wp2_with fail;go_meet;refine⟨v3,rz,?_,gl.out.trans bA⟩;rw[AU.out,hpo.out,HS.out];exact fE
  case rest=>
  have⟨s1,js⟩:=ex (l.length+(if p= -1 then 0 else 64));have agV:s1=l.length∨s1=l.length+64:=by rw[←js];split<;>simp
  rw[js]at hcut;have sk:=ae js;have OP:=ae hcut;obtain⟨_,_,_,Ig⟩:=hcut;obtain⟨_,j1,_,_⟩:=HK.out _ Ig;clear Ig js r_ j0;go_upto_if 35 with fail;go_cut []from 11 (fun wx=>Ep (w1.heap.size+1) w1.heap.size w1 (0::UInt8.ofNat (s1+(if q= -1 then 0 else 128))::(jo p++jo q)) wx);case first=>
   by_cases hq:q= -1;·subst hq;have ho:jo (-1)=[]:=rfl;go_wp2_with fail;go_meet;rw[ho,List.append_nil];exact OP.out
   ·have hpo:Hid (jo q=Vl.put 9 q.toNat):=ae (by unfold jo;rw[if_neg hq]);have AU:Hid ((if q= -1 then 0 else 128)=(128:Nat)):=ae (by rw[if_neg hq]);obtain⟨m,rfl⟩:=Int.eq_ofNat_of_zero_le (show 0≤q by omega);obtain⟨g,cc,hx,ho,hb,hg,Ce,cC,ud,_,Sl,qn,_⟩:=OP.out.opened;have⟨s,hs⟩:=ex (s1+128);have hor:bits .or .u8 (s1:Int) 128=(s:Int):=by
     rcases agV with e | e;·rw[←hs,e];exact(Mg l.length g2).1
     ·rw[←hs,e];exact(Mg l.length g2).2
    have bQ:=zB hx ho hb hg Ce s aa;have HN:=ae (xl (w1.heap.size+1) w1.heap.size _ _ m _ bQ.1 bQ.2.1 aa aa (by have:=fQ p;simp;omega));obtain⟨_,j1',_,_⟩:=HK.out _ bQ.2.2;have t_:=hx.cell;rw[show((UInt8.ofNat s1).toNat:Int)=(s1:Int) by rw[UInt8.toNat_ofNat'];omega]at cC;have⟨NN,hNN⟩:=ex ((jo p).length+2);rw[hNN]at t_ Sl;have hN1:(1:Int)<(NN:Int):=aa;have hNc:(NN:Int)≤(cc:Int):=aa;have gl:=ae bQ.2.2;have HS:=ae hs;clear bQ hx ho hs hq hg hb hNN Sl agV;go_wp2_with fail;refine HN.out.mono ?_;rintro e w3 ⟨v3,rfl,rz,fE,bA,_,_⟩;go_wp2_with fail;go_meet;refine⟨v3,rz,?_,gl.out.trans bA⟩;rw[AU.out,hpo.out,HS.out];exact fE
  case rest=>
  clear OP j1;have YO:Hid (0::UInt8.ofNat (s1+(if q= -1 then 0 else 128))::(jo p++jo q)++ea (l++[bT d])=bE ⟨p,q,l,d⟩):=ae (by
   rw[HOP.out,HSE.out,og.out,←sk.out];rfl)
  have qp:(0::UInt8.ofNat (s1+(if q= -1 then 0 else 128))::(jo p++jo q):List UInt8).length≤30:=by have h1:=fQ p;have h2:=fQ q;simp only[List.length_cons,List.length_append];omega
  generalize(0::UInt8.ofNat (s1+(if q= -1 then 0 else 128))::(jo p++jo q):List UInt8)=pre at*;have OP:=ae hcut;obtain⟨v0,nV,ho0,Ig⟩:=hcut;obtain⟨_,_,_,j3⟩:=HK.out _ Ig;have hFl:=(hF0.below a7.out).below Ig;have hFa:=hFl.below ((Below.refl wc.heap.size wc).alloc (Nat.le_refl _) (.cells #[.int .i64 33,.int .u32 (d:Nat)] 109));have xc:Below w1.heap.size w1 (wc.alloc (.cells #[.int .i64 33,.int .u32 (d:Nat)] 109)):=Ig.alloc Ig.size _;have ij:(wc.alloc (.cells #[.int .i64 33,.int .u32 (d:Nat)] 109)).cell? ⟨wc.heap.size,0,none⟩=some (.int .i64 33)∧(wc.alloc (.cells #[.int .i64 33,.int .u32 (d:Nat)] 109)).cell? ⟨wc.heap.size,1,none⟩=some (.int .u32 (d:Nat)):=⟨ag,ag⟩
  have Dx:wc.heap.size<(wc.alloc (.cells #[.int .i64 33,.int .u32 (d:Nat)] 109)).heap.size:=ag;have hxa:=nV.below ((Below.refl wc.heap.size wc).alloc (Nat.le_refl _) (.cells #[.int .i64 33,.int .u32 (d:Nat)] 109));have X_:=ho0.alloc (.cells #[.int .i64 33,.int .u32 (d:Nat)] 109);go_upto_region 12 with fail;generalize wc.alloc (.cells #[.int .i64 33,.int .u32 (d:Nat)] 109)=wa at*;go_cut [54,55,56]from 57 (fun s54 s55 s56 wx=>s56= .int .i64 0∧s55= .int .i64 ((l.length:Int)+1)∧eM w1.heap.size wx s54 (l++[bT d])∧Ep (w1.heap.size+1) w1.heap.size w1 pre wx);case first=>
   have HH:=ae (fun(w':World) (hb:Below wa.heap.size wa w')=>(hb.cell (p:=⟨w.heap.size,2,none⟩) (Nat.lt_of_lt_of_le anx.out xc.size)).trans (HK.out wa xc).2.2.1);have sH:=ae (fun(w':World) (hb:Below wa.heap.size wa w')=>(show w'.cell? ⟨wc.heap.size,0,none⟩=some (.int .i64 33)∧w'.cell? ⟨wc.heap.size,1,none⟩=some (.int .u32 (d:Nat))from⟨(hb.cell (p:=⟨wc.heap.size,0,none⟩) Dx).trans ij.1,(hb.cell (p:=⟨wc.heap.size,1,none⟩) Dx).trans ij.2⟩));have bw:Below wa.heap.size wa wa.drew:=bg wa;have hOL:bS.ok (bT d):=⟨by show(-9223372036854775808:Int)≤33;omega,by show(33:Int)≤9223372036854775807;omega,o5⟩
   have agW: ∀f∈([]++l)++[bT d],f.ok:=fun f hf=>(HG.out f (by simpa using hf)).1;have agX:(([]++l)++[bT d]).length=l.length+1:=ag;have rA:=ae (fun(A7:Option Addr) (c7:Nat) (wx:World) (h1:eM wa.heap.size wx (.slice A7 (([]++l)++[bT d]).length c7) (([]++l)++[bT d])) (h2:Below wa.heap.size wa wx)=>(show eM w1.heap.size wx (.slice A7 (l.length+1) c7) (l++[bT d])∧Ep (w1.heap.size+1) w1.heap.size w1 pre wx from⟨(by rw[agX]at h1;exact h1.weaken xc.size),v0,hxa.below h2,X_.below h2,aM xc h2⟩));clear agX;have sM:Hid (([]:List bS).length+l.length≤1000000∧([]++l:List bS).length+[bT d].length≤1000000):=ae av;refine wp_region_held_drew (S:=fun w'=>Below wa.heap.size wa w') ai bw (fun hS=> ?_);refine af 0 hS (h:=bI 1 HH.out hS (h:=bI 3 sH.out hS (h:=af 7 hS (h:= ?_))));refine wpAnyH_ready (rs:=[2,4]) ai ag ?_;refine(AllReadyH.cons rfl (fun K hK=> ?_) (AllReadyH.cons rfl (fun K hK=> ?_) AllReadyH.nil));·skip;refine gg rfl (.const (.slice none 0 0)) (.tmp 50) rfl wa.heap.size wa.drew (.slice none 0 0) [] rfl (eM.nil _ _) A l c rfl (hFa.below bw) sM.out.1 bw.size ?_;intro v5 w5 lZ je;have g5:Below wa.heap.size wa w5:=ao bw je bw.size (fun g e=>gw);refine dM ?_;refine hK.out _ _ g5 (fun _=> ?_);clear hK K;refine aC 4 (fun K hK=> ?_);go_simp;have g6:Below wa.heap.size wa (w5.alloc (.cells #[.int .i64 33,.int .u32 (d:Nat)] 109)):=g5.alloc g5.size _;refine hK.out _ _ g6 (fun _=> ?_);clear hK K;refine aC 5 (fun K hK=> ?_);refine gg rfl (.tmp 51) (.tmp 53) rfl wa.heap.size (w5.alloc (.cells #[.int .i64 33,.int .u32 (d:Nat)] 109)) v5 ([]++l) rfl (lZ.alloc _) (some ⟨w5.heap.size,0,none⟩) [bT d] 1 rfl (zz w5 (bT d) hOL) sM.out.2 g6.size ?_;intro v7 w7 ut Br;have g7:Below wa.heap.size wa w7:=ao g6 Br g6.size (fun g e=>(lZ.lt g e).1);obtain⟨A7,c7,rfl,_,_,_⟩:=ut.read agW;have HX:=ae (rA.out A7 c7 w7 ut g7);refine dM ?_;refine hK.out _ _ g7 (fun _=> ?_);clear hK K;refine aC 6 (fun K hK=> ?_);go_simp;refine hK.out _ _ g7 (fun _=> ?_);clear hK K;refine wpAnyH_done ai ?_ _;go_wp2_with fail;go_meet;exact⟨rfl,rfl,HX.out.1,HX.out.2⟩
   ·skip;go_simp;have g5:Below wa.heap.size wa (wa.drew.alloc (.cells #[.int .i64 33,.int .u32 (d:Nat)] 109)):=bw.alloc bw.size _;have hf5:=zz wa.drew (bT d) hOL;refine hK.out _ _ g5 (fun _=> ?_);clear hK K;refine aC 2 (fun K hK=> ?_);refine gg rfl (.const (.slice none 0 0)) (.tmp 50) rfl wa.heap.size (wa.drew.alloc (.cells #[.int .i64 33,.int .u32 (d:Nat)] 109)) (.slice none 0 0) [] rfl (eM.nil _ _) A l c rfl (hFa.below g5) sM.out.1 g5.size ?_;intro v5 w5 lZ je;have g6:Below wa.heap.size wa w5:=ao g5 je g5.size (fun g e=>gw);have hf6:=hf5.below (ao (Below.refl _ _) je (Nat.le_refl _) (fun g e=>gw));refine dM ?_;refine hK.out _ _ g6 (fun _=> ?_);clear hK K;refine aC 5 (fun K hK=> ?_);refine gg rfl (.tmp 51) (.tmp 53) rfl wa.heap.size w5 v5 ([]++l) rfl lZ (some ⟨wa.drew.heap.size,0,none⟩) [bT d] 1 rfl hf6 sM.out.2 g6.size ?_;intro v7 w7 ut Br;have g7:Below wa.heap.size wa w7:=ao g6 Br g6.size (fun g e=>(lZ.lt g e).1);obtain⟨A7,c7,rfl,_,_,_⟩:=ut.read agW;have HX:=ae (rA.out A7 c7 w7 ut g7);refine dM ?_;refine hK.out _ _ g7 (fun _=> ?_);clear hK K;refine aC 6 (fun K hK=> ?_);go_simp;refine hK.out _ _ g7 (fun _=> ?_);clear hK K;refine wpAnyH_done ai ?_ _;go_wp2_with fail;go_meet;exact⟨rfl,rfl,HX.out.1,HX.out.2⟩
  case rest=>
  obtain⟨rfl,rfl,ut,XG⟩:=hcut;have agY:=ae (fun f hf=>(HG.out f hf).1);have OQ:(l++[bT d]).length≤4:=av;have agZ:=nE (l++[bT d]) HG.out;obtain⟨A7,c7,rfl,hc7,WU,_⟩:=ut.read agY.out;clear ij Dx hxa X_ hFa hFl xc nV ho0 Ig j3 OP;have hn7:(l++[bT d]).length=l.length+1:=ag;have hi7:((l.length:Int)+1)=((l++[bT d]).length:Int):=by rw[hn7];omega
  rw[hi7];clear hn7 hi7;generalize hL7:l++[bT d]=L7 at*;go_wp2_with fail;go_loopw [56] (fun i wr=> ∃j:Nat,j≤L7.length∧i= .int .i64 (j:Nat)∧Hid (eM w1.heap.size wr (.slice A7 L7.length c7) L7)∧Hid (Ep (w1.heap.size+1) w1.heap.size w1 (pre++ea (L7.take j)) wr)) (fun i _=>L7.length-(intOf i).toNat);case atStart=>exact⟨0,aa,rfl,ae ut,ae (by simpa [ea]using XG)⟩
  case round=>
   obtain⟨j,hj,rfl,SX,r_⟩:=hrel;by_cases ub:j<L7.length
   ·have Dj:(j:Int)<(L7.length:Int):=(by omega);have hF7:=SX.out.pD agY.out;obtain⟨b7,awj,rfl,mM,dm⟩:=hF7.addr aa;have hfj:=dm j ub;have hgj:=HG.out L7[j] (List.getElem_mem ub);have mv:ea (L7.take (j+1))=ea (L7.take j)++(Vl.put 9 L7[j].id.toNat++(Vl.put 9 (dQ L7[j]).length++dQ L7[j])):=(by rw[List.take_succ_eq_append_getElem ub,zA];rfl);have xP:=nE (L7.take j) (fun f hf=>HG.out f (List.mem_of_mem_take hf));have iy:=hfj.c0;have l6:=hfj.c1;have hCB:=Kh L7[j] hfj.ok;generalize L7[j]=f at*;obtain⟨id,n⟩:=f;obtain⟨anD,ab5,anE,gZ,awl⟩:=hgj;simp only at iy l6 ab5 anE mv;obtain⟨mid,rfl⟩:=Int.eq_ofNat_of_zero_le ab5;rw[gZ]at hCB;have V9:=ae (show ∀w',Calls prog 75 #[.agg #[.int .i64 (mid:Int),.int .u32 (n:Nat)]] w' (uT w' (dQ ⟨mid,n⟩) (.int .i64 0))from hCB);rw[Int.toNat_natCast]at mv;generalize dQ ⟨mid,n⟩=PP at*;obtain⟨v,hx,ho,hb⟩:=r_.out;have hV1:=(Vl.cN 9 mid).2;have hV2:=(Vl.cN 9 PP.length).2;have Z1:(L7.take j).length≤4:=av;have⟨L0,u_⟩:=ex (pre++ea (L7.take j));have awm:L0.length≤130:=(by rw[←u_,List.length_append];omega);rw[u_]at ho;have mg:Hid (pre++ea (L7.take (j+1))=L0++Vl.put 9 mid++Vl.put 9 PP.length++PP):=ae (by rw[mv,←u_];simp only[List.append_assoc]);have⟨ww,hww⟩:=ex (wr.alloc (.cells #[.int .i64 (mid:Int),.int .u32 (n:Nat)] 109));have Ue:Below wr.heap.size wr ww:=(by rw[←hww];exact ar);have awn:ww.heap.size=wr.heap.size+1:=(by rw[←hww];simp);have Qe:ww.cell? ⟨wr.heap.size,0,none⟩=some (.int .i64 (mid:Int))∧ww.cell? ⟨wr.heap.size,1,none⟩=some (.int .u32 (n:Nat)):=(by rw[←hww];exact⟨ag,ag⟩);have ag1:=aM hb Ue;have HQ:=ae Qe;have HWW:=ae hww;have arF:w1.heap.size+1<wr.heap.size:=hx.lt;clear dm hfj mv xP hCB anD ab5 gZ u_ Qe;go_upto_region 15 with fail;clear hww;obtain⟨q0,q1⟩:=HQ.out;go_wp2_with fail;refine(V9.out ww).mono ?_;rintro e w3 ⟨vP,rfl,hoP,bA⟩;have rz:=(hx.below Ue).below bA;have fE:=(ho.below Ue).below bA;have GL:Below w1.heap.size w1 w3:=aM ag1 bA;have Uf:=(SX.out.below Ue).below bA;have hq3:w3.cell? ⟨wr.heap.size,0,none⟩=some (.int .i64 (mid:Int)):=(bA.cell (p:=⟨wr.heap.size,0,none⟩) (by show wr.heap.size<ww.heap.size;omega)).trans HQ.out.1;have IP: ∀g,v.ownBlock=some g→g<wr.heap.size:=fun g e=>(ho.ax g e).2;have ag2: ∀g,vP.ownBlock=some g→wr.heap.size<g∧g<w3.heap.size:=fun g e=>am (hoP.ax g e);have HVL:=ae (And.intro IP ag2);have Z0:=ae (xl (w1.heap.size+1) w1.heap.size v L0 mid w3 rz fE aa aa aa);have anG:=ae hoP;obtain⟨AP,cP,rfl,hcP,hmP,_⟩:=hoP.read;have awo:=GL.size;clear IP ag2 q0 q1 ag1 Ue hx ho hb;go_wp2_with fail;refine Z0.out.mono ?_;rintro e w4 ⟨v4,rfl,vu,cY,bm,hk4,wP⟩;have Ug: ∀g,(Value.slice AP PP.length cP).ownBlock=some g→g≠w1.heap.size+1∧v.ownBlock≠some g:=fun g e=>by have h1:=HVL.out.2 g e;exact⟨aa,fun e2=>am (HVL.out.1 g e2)⟩
    have anH:=anG.out.aA (fun g e=>hk4 g (HVL.out.2 g e).2 (Ug g e).1 (Ug g e).2);have Uh:=Uf.aA (fun g e=>hk4 g (Uf.lt g e).2 (Uf.Kl rz g e) (Uf.ne fE g e));have D7:Below w1.heap.size w1 w4:=GL.trans bm;have nR:=ae (xl (w1.heap.size+1) w1.heap.size v4 _ PP.length w4 vu cY aa aa sm);have anI:=ae (bm.size);clear hk4 Z0 hq3;go_wp2_with fail;refine nR.out.mono ?_;rintro e w5 ⟨v5,rfl,Es,lZ,eu,hk5,Qj⟩;have Sz: ∀g,(Value.slice AP PP.length cP).ownBlock=some g→v4.ownBlock≠some g:=fun g e e2=>by
     rcases wP g e2 with h | h;·exact(Ug g e).2 h
     ·have:=(HVL.out.2 g e).2;omega
    have anJ:=anH.aA (fun g e=>hk5 g (Nat.lt_of_lt_of_le (HVL.out.2 g e).2 anI.out) (Ug g e).1 (Sz g e));have ab7:=Uh.aA (fun g e=>hk5 g (Uh.lt g e).2 (Uh.Kl vu g e) (Uh.ne cY g e));have rG:Below w1.heap.size w1 w5:=D7.trans eu;obtain⟨A5,c5,e5,_,_,qZ⟩:=anJ.read;obtain⟨rfl,rfl⟩:AP=A5∧cP=c5:=by injection e5 with e1 e2 e3;exact⟨e1,e3⟩
    have⟨L5,hL5⟩:=ex (L0++Vl.put 9 mid++Vl.put 9 PP.length);have awp:L5.length≤150:=(by rw[←hL5];simp only[List.length_append];omega);rw[hL5]at lZ mg;have awq:=Es.cell;have anL:Hid (L5.length+PP.length≤140737488355328):=ae aa;clear hk5 Ug Sz hL5 nR wP Qj Uf Uh cY fE rz vu HVL;go_wp2_with (at_builtin;refine ap rfl (.tmp 78) (.tmp 79) rfl w1.heap.size _ v5 L5 rfl lZ AP PP cP rfl qZ anL.out rG.size ?_;intro v6 w6 sF AA;have OS:=Es.grown AA (fun e=>Es.ne lZ e);have awr:=OS.cell;have aws:=OS.frozen;have OT:Below w1.heap.size w1 w6:=ao rG AA rG.size (fun g e=>(lZ.ax g e).1);have ag3:=ab7.aA (fun g e=>AA.block g (ab7.lt g e).2 (fun e2=>ab7.ne lZ g e e2.symm));obtain⟨A6,c6,rfl,_,_,_⟩:=sF.read;rw[List.length_append]at sF)
    have anM:=ag3.aA (w':=w6.setCell ⟨w1.heap.size+1,0,none⟩ (.slice A6 (L5.length+PP.length) c6)) (fun g e=>ah _ _ _ _ (fun e2=>ag3.Kl OS g e e2));exact⟨⟨j+1,aa,aE,ae anM,ae ⟨_,OS.set _,by rw[mg.out];exact sF.rO OS _,Below.setCell OT (by show w1.heap.size≤w1.heap.size+1;omega) _⟩⟩,jb⟩
   ·obtain rfl:j=L7.length:=(by omega);rw[List.take_length,YO.out]at r_;have hlen:0<(bE ⟨p,q,l,d⟩).length∧(bE ⟨p,q,l,d⟩).length≤130:=(by rw[←YO.out,List.length_append];have h1:=agZ;refine⟨?_,aa⟩;have h2:0<(bE ⟨p,q,l,d⟩).length:=(by simp[bE]);rw[←YO.out,List.length_append]at h2;exact h2);have VL:=ae (show di (bE ⟨p,q,l,d⟩)=bE ⟨p,q,l,d⟩++List.replicate (aO (bE ⟨p,q,l,d⟩).length) 0 from rfl);have YP:aO (bE ⟨p,q,l,d⟩).length<4:=pN;have hzq:((bE ⟨p,q,l,d⟩).length+aO (bE ⟨p,q,l,d⟩).length)%4=0:=pN;have ag4: ∃r,bE ⟨p,q,l,d⟩=0::r:=⟨_,rfl⟩
    generalize aO (bE ⟨p,q,l,d⟩).length=Z at*;generalize bE ⟨p,q,l,d⟩=BD at*;clear YO agZ qp ub;go_wp2_with fail;go_loopw [] (fun wr=> ∃t:Nat,t≤Z∧Ep (w1.heap.size+1) w1.heap.size w1 (BD++List.replicate t 0) wr∧Er (w1.heap.size+1) wr=BD.length+t) (fun wr=>BD.length+Z-Er (w1.heap.size+1) wr);case atStart=>refine⟨0,aa,by simpa using r_.out,?_⟩;obtain⟨v,hx,ho,_⟩:=r_.out;obtain⟨A0,c0,rfl,_,_,_⟩:=ho.read;exact hx.len
    case round=>
     obtain⟨t,ht,ag5,Bw⟩:=hrel;have⟨O,hO⟩:=ex (BD++List.replicate t (0:UInt8));have hOl:O.length=BD.length+t:=(by rw[←hO];simp);rw[hO]at ag5;obtain⟨v,hx,ho,hb⟩:=ag5;obtain⟨g,cc,rfl,hg,ang,Sl,qn,hcell,OU⟩:=ho.opened aa;have t_:=hx.cell;have Ce:g≠w1.heap.size+1:=fun e=>hx.ne ho (by rw[e];rfl);by_cases htz:t<Z
     ·have mS: ¬(O.length:Int)%4=0:=(by omega);have hoA:=ho.alloc (.cells #[.int .u8 0] 5);have hxA:ir (w1.heap.size+1) (wr.alloc (.cells #[.int .u8 0] 5)) _:=hx.below (ar);have vw:Below w1.heap.size w1 (wr.alloc (.cells #[.int .u8 0] 5)):=hb.alloc hb.size _;have hBA:Bytes (wr.alloc (.cells #[.int .u8 0] 5)) (some ⟨wr.heap.size,0,none⟩) [0]:= .inr ⟨wr.heap.size,0,rfl,ag,by
       intro k hk;obtain rfl:k=0:=xr;simp⟩
      have sM:Hid (O.length+[(0:UInt8)].length≤140737488355328):=ae av;have mg:Hid (O++[0]=BD++List.replicate (t+1) 0):=ae (by rw[←hO,List.replicate_succ',List.append_assoc]);have HOL:=ae hOl;have HBL:=ae Bw;clear hO hcell OU hx ho hzq YP Bw hOl ag4;go_wp2_with (at_builtin;refine ap rfl (.tmp 86) (.tmp 87) rfl w1.heap.size _ _ O rfl hoA (some ⟨wr.heap.size,0,none⟩) [0] 1 rfl hBA sM.out vw.size ?_;intro v8 w8 Bq SV;have hx8:=hxA.grown SV (fun e=>hxA.ne hoA e);have awv:=hx8.cell;have aww:=hx8.frozen;have rI:Below w1.heap.size w1 w8:=ao vw SV vw.size (fun g e=>(hoA.ax g e).1);obtain⟨A8,c8,rfl,_,_,_⟩:=Bq.read;rw[show(O++[(0:UInt8)]).length=O.length+1 by simp]at Bq)
      have Eb:=hx8.set (.slice A8 (O.length+1) c8);have ya:=Bq.rO hx8 (.slice A8 (O.length+1) c8);rw[mg.out]at ya;have Bl:=Eb.len;have hOl:=HOL.out;have Bw:=HBL.out;exact⟨⟨t+1,aa,⟨_,Eb,ya,Below.setCell rI (by show w1.heap.size≤w1.heap.size+1;omega) _⟩,by rw[Bl];omega⟩,by rw[Bl,Bw];omega⟩
     ·obtain rfl:t=Z:=(by omega);have mS:(O.length:Int)%4=0:=aa;have⟨M,hM⟩:=ex (O.length/4);have hMi:(O.length:Int)=4*(M:Int):=aa;have hMb:M<256:=aa;obtain⟨r0,DH⟩:=ag4;obtain⟨r,hr⟩: ∃r,O=0::r:=⟨r0++List.replicate t 0,by rw[←hO,DH];rfl⟩
      have hPO:di BD=O:=(by rw[VL.out];exact hO);have Qk:Hid (gv ⟨p,q,l,d⟩=UInt8.ofNat M::r):=ae (by
       rw[HBH.out,hPO,hM,hr];rfl)
      have Lj:(4*(M:Int)+4)/4=(M:Int)+1:=aa;have hwm:IntKind.u8.wrap (M:Int)=(M:Int):=wL;have⟨NO,hNO⟩:=ex (O.length);have Fu:(UInt8.ofNat M::r).length=NO:=(by rw[←hNO,hr];simp);rw[hNO]at hx ho Sl t_ hMi mS;rw[hr]at ho;have bQ:=OL hx ho hb hg Ce M hMb;have hf0:=OU 0;have Dz:wr.cell? ⟨g,0,none⟩=some (.int .u8 0):=(by have h:=hcell 0 (by rw[hr];simp);rw[h];simp[hr]);have awy:(0:Int)<(NO:Int):=aa;have anA:(NO:Int)≤(cc:Int):=aa;have gl:=ae bQ;have anP:=bQ.1.cell;have awz:NO≤1000:=aa;clear hPO hO hr DH htz YP hzq hcell OU hx ho hb hM VL Bw bQ hOl hNO;rw[hMi]at mS;go_upto_region 25 with fail;obtain⟨Es,lZ,eu⟩:=gl.out;generalize wr.setCell ⟨g,0,none⟩ (.int .u8 (M:Nat))=w5 at Es lZ eu ⊢;rw[←Qk.out]at Fu lZ;generalize gv ⟨p,q,l,d⟩=BH at*;have qZ:Bytes w5 (some ⟨g,0,none⟩) BH:=by rw[←Fu]at lZ;obtain⟨A6,c6,e6,_,_,lI⟩:=lZ.read;injection e6 with e1 e2 e3;rw[e1];exact lI
      have HS:=ae (show ∀w',Bytes w' (some ⟨g,0,none⟩) BH→Calls prog 39 #[.int .i64 1,.slice (some ⟨g,0,none⟩) NO cc] w' (bF w' (eL BH))from fun w' h=>by
       have:=mL (some ⟨g,0,none⟩) BH cc w' h aa qn;rwa [Fu]at this)
      have hd5:Below w5.heap.size w5 w5.drew:=bg w5;have anQ:Below w1.heap.size w1 w5.drew:=aM eu hd5;have HX5:Hid (ir (w1.heap.size+1) w5.drew (.slice (some ⟨g,0,none⟩) NO cc)):=ae Es;have HNS:Hid (BH.length+(eL BH).length≤140737488355328):=ae (am (bX BH));clear t_ anP Dz hf0 Lj hwm hMi mS;refine wp_region_held_drew (S:=fun w'=>ir (w1.heap.size+1) w' (.slice (some ⟨g,0,none⟩) NO cc)∧Below w1.heap.size w1 w') ai ⟨HX5.out,anQ⟩ (fun hS=> ?_);refine cw 0 rfl (fun w hSw=>ly) hS (h:=cw 1 rfl (fun w hSw=>ly) hS (h:= ?_));refine aC 2 (fun K hK=> ?_);go_simp;refine(HS.out w5.drew (qZ.below hd5)).mono ?_;rintro e w6 ⟨A6,c6,rfl,zC,hm6,mj,lI⟩;have g6:Below w5.heap.size w5 w6:=aM hd5 lI;have OS:=Es.below g6;have sF:=lZ.below g6;have OT:=aM eu g6;go_wp2_with fail;refine hK.out _ _ ⟨OS,OT⟩ (fun _=> ?_);clear hK K;refine aC 3 (fun K hK=> ?_);refine rT rfl (.tmp 97) (.tmp 99) rfl w1.heap.size w6 (.slice (some ⟨g,0,none⟩) NO cc) BH rfl sF A6 (eL BH) c6 rfl mj HNS.out OT.size ?_;intro v7 w7 ut Br;have hx7:=OS.grown Br (fun e=>OS.ne sF e);have g7:Below w1.heap.size w1 w7:=ao OT Br OT.size (fun g e=>(sF.ax g e).1);refine dM ?_;refine hK.out _ _ ⟨hx7,g7⟩ (fun _=> ?_);clear hK K;refine aC 4 (fun K hK=> ?_);go_simp;refine hK.out _ _ ⟨hx7,g7⟩ (fun _=> ?_);clear hK K;refine aC 5 (fun K hK=> ?_);go_simp;refine hK.out _ _ ⟨hx7,g7⟩ (fun _=> ?_);clear hK K;refine wpAnyH_done ai ?_ _;go_wp2_with fail;go_ret2;exact .inl ⟨hv,_,rfl,by rw[HPH.out];exact ut.weaken a7.out.size,aM a7.out g7⟩
def da(l:List (Int×Int)):List Value:=l.flatMap fun r=>[Value.int .i64 r.1,Value.int .i64 r.2]
theorem jQ(l:List (Int×Int)):(da l).length=l.length*2:=by
 induction l with
 | nil=>rfl
 | cons a l ih=>simp only[da,List.flatMap_cons,List.length_append,List.length_cons,List.length_nil]at ih ⊢;omega
theorem oc(l m:List (Int×Int)):da (l++m)=da l++da m:=by simp[da]
theorem Eu(l:List (Int×Int)): ∀i (h:i<l.length),(da l)[2*i]? =some (.int .i64 l[i].1)∧(da l)[2*i+1]? =some (.int .i64 l[i].2):=by
 induction l with
 | nil=>intro i h;simp at h
 | cons a l ih=>
  intro i h;cases i with
  | zero=>exact⟨rfl,rfl⟩
  | succ i=>
   have:=ih i kJ;rw[show 2*(i+1)=2*i+1+1 by omega];exact this
def dz(t:TypeId)(base:Nat)(w:World)(v:Value)(l:List (Int×Int)):Prop:=w.ownsRow base t 2 v l.length (da l)
structure CG(ts t:TypeId)(z:Value)(bytes:Nat):Prop where
 und:prog.underlying ts=some (.slice t)
 info:(prog.info? t).map (fun i=>(i.zero,i.size,i.bytes))=some (some z,2,bytes)
 two:z.cells.size=2
theorem dz.nil(t:TypeId)(base:Nat)(w:World):dz t base w (.slice none 0 0) []:=World.ownsRow_nil w base _ 2
theorem dz.aA{l:List (Int×Int)}(h:dz t base w v l)(hb: ∀g,v.ownBlock=some g→w'.heap[g]? =w.heap[g]?):dz t base w' v l:=by
 rcases h with⟨h1,h2 | ⟨g,cap,cur,h2,h3,h4,h5⟩⟩
 ·exact⟨h1,.inl h2⟩
 ·exact⟨h1,.inr ⟨g,cap,cur,h2,h3,(hb g ow).trans h4,h5⟩⟩
theorem dz.lt{l:List (Int×Int)}(h:dz t base w v l)(g:Nat)(hg:v.ownBlock=some g):base≤g∧g<w.heap.size:=World.ownsRow.lt h g hg
theorem dz.below{l:List (Int×Int)}(h:dz t base w v l)(hb:Below w.heap.size w w'):dz t base w' v l:=h.aA fun g hg=>hb.block g (h.lt g hg).2
theorem dz.alloc{l:List (Int×Int)}(h:dz t base w v l)(o:Obj):dz t base (w.alloc o) v l:=h.below (ar)
theorem dz.set{l:List (Int×Int)}(h:dz t base w v l){p:Addr}(hp:p.block<base)(u:Value):dz t base (w.setCell p u) v l:=h.aA fun g hg=>heap_setCell_other _ _ _ _ (by have:=(h.lt g hg).1;omega)
theorem zG(hE:CG ts t z bytes)(base:Nat)(ty:TypeId)(w:World)(v:Value)(l:List (Int×Int))(aK:dz t base w v l)(hh c:Nat)(r:Int×Int)
  (h0:w.cell? ⟨hh,0,none⟩=some (.int .i64 r.1)) (h1:w.cell? ⟨hh,1,none⟩=some (.int .i64 r.2)) (dl:(l.length+1)*bytes≤140737488355328) (Fc:l.length+1≤140737488355328) (bR:base≤w.heap.size):
  ∃v' w',(Builtin.append_ #[ts,ts] ty #[v,.slice (some ⟨hh,0,none⟩) 1 c]).run prog w= .ok v' w'∧dz t base w' v' (l++[r])∧w.grownBy w' v.ownBlock:=by
 obtain⟨i,hi,hz⟩:=Option.map_eq_some_iff.1 hE.info;injection hz with kw hz;injection hz with eQ oC
 obtain⟨v',w',hr,h2,h3,_⟩:=run_append_own (P:=prog) w base ts ty t i z 2 bytes hE.und hi kw eQ oC hE.two ak
  v l.length (da l) aK ⟨hh,0,none⟩ 1 c (da [r]) (by rw[jQ];rfl) (by
   intro j u hu;have e:(⟨hh,0,none⟩:Addr).add j=⟨hh,j,none⟩:=ml;rw[e];match j,hu with
   | 0,hu=>rw[h0];exact hu
   | 1,hu=>rw[h1];exact hu
   | j+2,hu=>simp[da]at hu) (by intro u hu;simp[da]at hu;rcases hu with rfl | rfl<;>rfl) fF dl bR
 exact⟨v',w',hr,by unfold dz;rw[oc];simpa using h2,h3⟩
theorem lP(hE:CG ts t z bytes){rest:List Oper}(mb:o.guard=none)(s x:Operand)
  (ho:o.op= .call {callee:= .builtin .append,args:= #[s,x],argTypes:= #[ts,ts]})
  (base:Nat) (w:World) (v:Value) (l:List (Int×Int)) (hs:a.eval s=v) (aK:dz t base w v l) (hh c:Nat) (r:Int×Int) (hx:a.eval x= .slice (some ⟨hh,0,none⟩) 1 c)
  (h0:w.cell? ⟨hh,0,none⟩=some (.int .i64 r.1)) (h1:w.cell? ⟨hh,1,none⟩=some (.int .i64 r.2)) (dl:(l.length+1)*bytes≤140737488355328) (Fc:l.length+1≤140737488355328) (bR:base≤w.heap.size)
  (h: ∀v' w',dz t base w' v' (l++[r])→w.grownBy w' v.ownBlock→wpList prog ops Q rest (a.put o.dst v') w'):wpList prog ops Q (o::rest) a w:=by
 refine wpList_plain mb fun K hK=> ?_;obtain⟨v',w',hr,h2,h3⟩:=zG hE base o.type w v l aK hh c r h0 h1 dl Fc bR;unfold Oper.wp execOp;simp only[ho,resolve,invoke,builtin,Sem.run_bind,Sem.run_pure,Result.andThen_ok,List.map_toArray,List.map_cons,List.map_nil,hs,hx,hr];exact hK _ _ (h v' w' h2 h3)
namespace Vl
def num(l:List UInt8):Nat→Nat
 | 0=>0
 | i+1=>num l i+(l.getD i 0).toNat%128*128^i
theorem KL(l:List UInt8): ∀i,num l i<128^i
 | 0=>by show 0<1;omega
 | i+1=>by have h:=KL l i;have h2:(l.getD i 0).toNat%128*128^i≤127*128^i:=Nat.mul_le_mul_right _ aa;show num l i+_<_;rw[Nat.pow_succ];omega
def go(l:List UInt8):Nat→Nat→Nat×Nat×Nat
 | 0,_=>(0,0,6)
 | f+1,i=>if l.length≤i then(0,0,2)else if 128≤(l.getD i 0).toNat then go l f (i+1)else if(l.getD i 0).toNat=0∧0<i then(0,0,6)else(num l (i+1),i+1,0)
def get(l:List UInt8):Nat×Nat×Nat:=go l 9 0
theorem US(h:l.length≤i):go l (f+1) i=(0,0,2):=by rw[go,if_pos h]
theorem ED(h: ¬l.length≤i)(hb:128≤(l.getD i 0).toNat):go l (f+1) i=go l f (i+1):=by rw[go,if_neg h,if_pos hb]
theorem UT(h: ¬l.length≤i)(hb:(l.getD i 0).toNat=0)(hi:0<i):go l (f+1) i=(0,0,6):=by rw[go,if_neg h,if_neg aa,if_pos ⟨hb,hi⟩]
theorem xo(h: ¬l.length≤i)(hb: ¬128≤(l.getD i 0).toNat)(hi: ¬((l.getD i 0).toNat=0∧0<i)):go l (f+1) i=(num l (i+1),i+1,0):=by rw[go,if_neg h,if_neg hb,if_neg hi]
theorem KM(l:List UInt8)(more:List UInt8): ∀(f n i e:Nat),l.drop i=put f n++more→n<128^(f+1)→(0<i→0<n)→f+1≤e→go l e i=(num l i+n*128^i,i+(put f n).length,0)
 | 0,n,i,e,hd,hn,hp,he=>by
  obtain⟨e,rfl⟩: ∃e',e=e'+1:=⟨e-1,aa⟩
  have hn':n<128:=by simpa using hn
  have aH: ¬l.length≤i:=by intro h;rw[List.drop_eq_nil_of_le h]at hd;simp[put]at hd
  have hg:l.getD i 0=UInt8.ofNat n:=by have:(l.drop i)[0]? =some (UInt8.ofNat n):=(by rw[hd];rfl);rw[List.getElem?_drop]at this;simp only[Nat.add_zero]at this;rw[List.getD_eq_getElem?_getD,this];rfl
  have ht:(l.getD i 0).toNat=n:=Df;rw[xo aH aa (by rw[ht];intro⟨h1,h2⟩;have:=hp h2;omega),num,ht,Nat.mod_eq_of_lt hn'];rfl
 | f+1,n,i,e,hd,hn,hp,he=>by
  obtain⟨e,rfl⟩: ∃e',e=e'+1:=⟨e-1,aa⟩
  have aH: ¬l.length≤i:=by intro h;rw[List.drop_eq_nil_of_le h]at hd;have:=(cN (f+1) n).1;have h2:=congrArg List.length hd;simp at h2;omega
  by_cases hs:n<128;·rw[du hs]at hd ⊢;have hg:l.getD i 0=UInt8.ofNat n:=(by have:(l.drop i)[0]? =some (UInt8.ofNat n):=(by rw[hd];rfl);rw[List.getElem?_drop]at this;simp only[Nat.add_zero]at this;rw[List.getD_eq_getElem?_getD,this];rfl);have ht:(l.getD i 0).toNat=n:=Df;rw[xo aH aa (by rw[ht];intro⟨h1,h2⟩;have:=hp h2;omega),num,ht,Nat.mod_eq_of_lt hs];rfl
  ·rw[lM hs]at hd ⊢;have hg:l.getD i 0=UInt8.ofNat (n%128+128):=(by have:(l.drop i)[0]? =some (UInt8.ofNat (n%128+128)):=(by rw[hd];rfl);rw[List.getElem?_drop]at this;simp only[Nat.add_zero]at this;rw[List.getD_eq_getElem?_getD,this];rfl);have ht:(l.getD i 0).toNat=n%128+128:=Df;have jz:l.drop (i+1)=put f (n/128)++more:=(by have:l.drop (i+1)=(l.drop i).drop 1:=(by rw[List.drop_drop]);rw[this,hd];rfl);have qt:n/128<128^(f+1):=(by rw[Nat.div_lt_iff_lt_mul aa];rw[Nat.pow_succ]at hn;exact hn);rw[ED aH aa,KM l more f (n/128) (i+1) e jz qt (fun _=>aa) aa,num,ht];have e1:(n%128+128)%128=n%128:=aa;have e2:n/128*128^(i+1)=n/128*128*128^i:=(by rw[Nat.pow_succ,Nat.mul_comm (128^i),Nat.mul_assoc]);have e3:n%128*128^i+n/128*128*128^i=n*128^i:=(by rw[←Nat.add_mul];congr 1;omega);rw[e1,e2,Nat.add_assoc,e3,List.length_cons];congr 2;omega
theorem UU(l:List UInt8): ∀(f i N k:Nat),go l f i=(N,k,0)→ ∃m,N=num l i+m*128^i∧i<k∧k≤l.length∧put f m=(l.drop i).take (k-i)∧m<128^f∧(0<i→0<m)
 | 0,i,N,k,h=>by simp[go]at h
 | f+1,i,N,k,h=>by
  by_cases aH:l.length≤i;·rw[US aH]at h;simp at h
  ·have yU:l.drop i=l.getD i 0::l.drop (i+1):=(by rw[List.drop_eq_getElem_cons aa];congr 1;simp[List.getD,show i<l.length by omega]);by_cases hb:128≤(l.getD i 0).toNat
   ·rw[ED aH hb]at h;obtain⟨m,h1,h2,h3,h4,h5,h6⟩:=UU l f (i+1) N k h;have aon:=(l.getD i 0).toNat_lt;have hm:=h6 aa;have e1:((l.getD i 0).toNat%128+m*128)/128=m:=aa;have e2:((l.getD i 0).toNat%128+m*128)%128=(l.getD i 0).toNat%128:=aa;refine⟨(l.getD i 0).toNat%128+m*128,?_,aa,h3,?_,?_,fun _=>aa⟩;·rw[h1,num,Nat.add_assoc,Nat.add_mul,Nat.pow_succ,Nat.mul_assoc m,Nat.mul_comm 128]
    ·rw[lM aa,e1,e2,h4,yU,show k-i=(k-(i+1))+1 by omega,List.take_succ_cons];congr 1;apply UInt8.toNat_inj.1;rw[UInt8.toNat_ofNat'];omega
    ·rw[Nat.pow_succ];omega
   ·by_cases hz:(l.getD i 0).toNat=0∧0<i;·rw[UT aH hz.1 hz.2]at h;simp at h
    ·rw[xo aH hb hz]at h;simp only[Prod.mk.injEq,and_true]at h;obtain⟨rfl,rfl⟩:=h;refine⟨(l.getD i 0).toNat,?_,aa,aa,?_,?_,fun hi=>aa⟩;·rw[num,Nat.mod_eq_of_lt aa]
     ·rw[du aa,yU,show i+1-i=0+1 by omega,List.take_succ_cons,List.take_zero];congr 1;apply UInt8.toNat_inj.1;rw[UInt8.toNat_ofNat'];have:=(l.getD i 0).toNat_lt;omega
     ·rw[Nat.pow_succ];have:0<128^f:=Nat.pos_of_ne_zero ag;have h1:1*128≤128^f*128:=Nat.mul_le_mul_right _ this;omega
end Vl
theorem digit(N v t:Nat)(hv:v<256)(hN:N<128^t)(ht:t<9):
  bits .or .u64 (N:Int) (IntKind.u64.wrap (IntKind.u64.wrap (bits .and .u8 (v:Int) 127)*2^(7*t)))=((N+v%128*128^t:Nat):Int):=by
 have hp:(128:Nat)^t=2^(7*t):=by rw[Nat.pow_mul]
 have hle:2^(7*t)≤2^56:=Nat.pow_le_pow_right aa aa;have hand:bits .and .u8 (v:Int) 127=((v%128:Nat):Int):=by rw[show(127:Int)=((127:Nat):Int)from rfl,u8_and_nat _ _ aa aa];congr 1;exact Nat.and_two_pow_sub_one_eq_mod v 7
 have hd:v%128*2^(7*t)≤127*2^(7*t):=Nat.mul_le_mul_right _ aa;have e1:IntKind.u64.wrap ((v%128:Nat):Int)=((v%128:Nat):Int):=by rw[IntKind.wrap_u64];omega
 have e2:((v%128:Nat):Int)*2^(7*t)=((v%128*2^(7*t):Nat):Int):=ag;have e3:IntKind.u64.wrap ((v%128*2^(7*t):Nat):Int)=((v%128*2^(7*t):Nat):Int):=by rw[IntKind.wrap_u64];omega
 rw[hand,e1,e2,e3,u64_or_nat _ _ (by rw[hp]at hN;omega) aa,Nat.or_comm,yL _ _ _ (by rw[←hp];exact hN),hp,Nat.add_comm]
def Got(w:World)(r:Nat×Nat×Nat)(e:Ending)(w':World):Prop:=e= .returned (.tuple #[.int .u64 (r.1:Nat),.int .i64 (r.2.1:Nat),.int .i64 (r.2.2:Nat)])∧w=w'
theorem CO(A:Option Addr)(l:List UInt8)(c:Nat)(w:World)(hB:Bytes w A l)(hl:l.length≤140737488355328):
  Calls prog 142 #[.slice A l.length c] w (Got w (Vl.get l)):=by
 go_enter func142,ntmps142;go_wp2_with fail;go_loopw [5,10] (fun nn i wr=> ∃t:Nat,t≤l.length∧t<9∧i= .int .i64 (t:Nat)∧nn= .int .u64 (Vl.num l t:Nat)∧Hid (Vl.get l=Vl.go l (9-t) t)∧w=wr) (fun _ i _=>l.length-(intOf i).toNat);case atStart=>exact⟨0,aa,aa,rfl,rfl,rfl,rfl⟩
 case round=>
  obtain⟨t,ht,ht9,rfl,rfl,ue,rfl⟩:=hrel;by_cases aH:t<l.length
  ·obtain⟨b,off,rfl,hb,hc⟩:=hB.addr aa;have Me:=hc t aH;have mb:l[t]=l.getD t 0:=(by simp[List.getD,aH]);rw[mb]at Me;have Bl: ¬l.length≤t:=aa;have Jv:(t:Int)<(l.length:Int):=aa;have WK:=(l.getD t 0).toNat_lt;have GC:=Vl.KL l t;have wb:9-t=(8-t)+1:=aa;rw[wb]at ue;have HM:=ae (fun h=>ue.out.trans (Vl.ED (f:=8-t) Bl h));have Y0:=ae (fun h h2=>ue.out.trans (Vl.UT (f:=8-t) Bl h h2));have C_:=ae (fun h h2=>ue.out.trans (Vl.xo (f:=8-t) Bl h h2));have UO:=ae (show Vl.num l (t+1)=Vl.num l t+(l.getD t 0).toNat%128*128^t from rfl);generalize(l.getD t 0).toNat=v at*;generalize hN:Vl.num l t=N at*;have DJ:=ae hN;have hNL:=ae GC;clear hc mb hB;generalize hL:l.length=L at*;have HL:=ae hL;clear ue wb GC hN hL;have HDG:=ae (digit N v t WK hNL.out ht9);go_upto_region 7 with(fail)
   rw[HDG.out];rw[←UO.out];generalize hN2:Vl.num l (t+1)=N2 at*;have nR:=ae hN2;clear hN2 HDG Me;by_cases hv:128≤v
   ·have hvi:(128:Int)≤(v:Int):=(by omega);by_cases h8:t=8;·have h8i:((t:Int)+1==9)=true:=(by simp;omega);have HE:=ae (show Vl.get l=(0,0,6) by rw[HM.out hv,h8];rfl);have H8:=ae h8;clear h8;go_wp2_with fail;go_ret3;exact⟨kb,rfl⟩
    ·have h8i:((t:Int)+1==9)=false:=beq_eq_false_iff_ne.2 aa;have HE:=ae (HM.out hv);go_wp2_with fail;go_roundw;case rel=>exact⟨t+1,am HL.out,aa,congrArg (Value.int .i64) aa,by rw[nR.out],by show Vl.get l=_;rw[HE.out,show 9-(t+1)=8-t by omega],trivial⟩
     case measure=>have:=HL.out;simp[intOf]<;>omega
   ·have hvi: ¬(128:Int)≤(v:Int):=(by omega);by_cases Bd:v=0
    ·have aoo:((v:Int)==0)=true:=(by simp[Bd]);by_cases Wl:0<t;·have aop:(0:Int)<(t:Int):=(by omega);have HE:=ae (Y0.out Bd Wl);have HV:=ae Bd;clear Bd;go_wp2_with fail;go_ret3;exact⟨kb,rfl⟩
     ·have aop: ¬(0:Int)<(t:Int):=(by omega);have HE:=ae (C_.out hv aa);have HV:=ae Bd;clear Bd;go_wp2_with fail;go_ret3;exact⟨kb,rfl⟩
    ·have aoo:((v:Int)==0)=false:=beq_eq_false_iff_ne.2 aa;have HE:=ae (C_.out hv aa);go_wp2_with fail;go_ret3;exact⟨kb,rfl⟩
  ·have Jv: ¬(t:Int)<(l.length:Int):=(by omega);have wb:9-t=(8-t)+1:=aa;have HE:=ae (show Vl.get l=(0,0,2) by rw[ue.out,wb];exact Vl.US aa);clear wb ue;go_wp2_with fail;go_ret3;exact⟨kb,rfl⟩

theorem Vl.G4(l:List UInt8): ∀f i,(Vl.go l f i).2.2=2∧(Vl.go l f i).1=0∧(Vl.go l f i).2.1=0∨(Vl.go l f i).2.2=6∧(Vl.go l f i).1=0∧(Vl.go l f i).2.1=0∨(Vl.go l f i).2.2=0∧(Vl.go l f i).2.1≤l.length∧0<(Vl.go l f i).2.1∧(Vl.go l f i).1<128^(i+f)
 | 0,i=> .inr (.inl ⟨rfl,rfl,rfl⟩)
 | f+1,i=>by
  rw[Vl.go];split;·exact .inl ⟨rfl,rfl,rfl⟩
  ·split;·have:=Vl.G4 l f (i+1);rwa [show i+1+f=i+(f+1) by omega]at this
   ·split;·exact .inr (.inl ⟨rfl,rfl,rfl⟩)
    ·refine .inr (.inr ⟨rfl,by show i+1≤_;omega,by show 0<i+1;omega,?_⟩);exact Nat.lt_of_lt_of_le (Vl.KL l (i+1)) (Nat.pow_le_pow_right aa aa)
theorem Vl.qk(l:List UInt8):(Vl.get l).2.2=2∧(Vl.get l).1=0∧(Vl.get l).2.1=0∨(Vl.get l).2.2=6∧(Vl.get l).1=0∧(Vl.get l).2.1=0∨(Vl.get l).2.2=0∧(Vl.get l).2.1≤l.length∧0<(Vl.get l).2.1∧(Vl.get l).1<9223372036854775808:=Vl.G4 l 9 0
theorem Bytes.cut(h:Bytes w A l)(k:Nat):Bytes w (A.map fun x=>x.add k) (l.drop k):=by
 rcases Nat.eq_zero_or_pos l.length with h0 | h0;·rw[List.eq_nil_of_length_eq_zero h0,List.drop_nil];exact .nil
 ·obtain⟨b,off,rfl,_,_⟩:=h.addr h0;have e:(⟨b,off,none⟩:Addr).add k=⟨b,off+k,none⟩:=ml;show Bytes w (some ((⟨b,off,none⟩:Addr).add k)) _;rw[e];exact Bytes.drop k h
def fq(l:List UInt8):Option (Nat×List UInt8):=if(Vl.get l).2.2=0 then some ((Vl.get l).1,l.drop (Vl.get l).2.1)else none
theorem iu{l':List UInt8}{n:Nat}(h:fq l=some (n,l')):n<9223372036854775808∧l'.length<l.length∧ ∃k,k≤l.length∧0<k∧Vl.get l=(n,k,0)∧l'=l.drop k:=by
 unfold fq at h;rcases Vl.qk l with⟨h1,_⟩ | ⟨h1,_⟩ | ⟨h1,h2,h3,h4⟩
 ·rw[if_neg aa]at h;cases h
 ·rw[if_neg aa]at h;cases h
 ·rw[if_pos h1]at h;injection h with h;injection h with e1 e2;subst e1;subst e2;exact⟨h4,jL,_,h2,h3,by rw[←h1],rfl⟩
theorem Pi(h:fq l=none):Vl.get l=(0,0,2)∨Vl.get l=(0,0,6):=by
 unfold fq at h;rcases Vl.qk l with⟨h1,h2,h3⟩ | ⟨h1,h2,h3⟩ | ⟨h1,_⟩
 ·exact .inl (Prod.ext h2 (Prod.ext h3 h1))
 ·exact .inr (Prod.ext h2 (Prod.ext h3 h1))
 ·rw[if_pos h1]at h;cases h
def iA(l:List UInt8):bS×List UInt8×Nat:=
 match fq l with
 | none=>(⟨0,0⟩,[],4)
 | some (id,l1)=>match fq l1 with
  | none=>(⟨0,0⟩,[],4)
  | some (n,l2)=>if l2.length<n then(⟨0,0⟩,[],4)else if 2147483648≤id then(⟨0,0⟩,[],5)else match eI (id:Int) (l2.take n)with
   | none=>(⟨0,0⟩,[],5)
   | some f=>(f,l2.drop n,0)
def bU(many:Nat):Nat→Nat→List UInt8→List bS→List bS×List UInt8×Nat
 | 0,_,l,acc=>(acc,l,0)
 | k+1,i,l,acc=>if(iA l).2.2≠0 then([],[],(iA l).2.2)else if((iA l).1.id==33) !=(i==many)then([],[],5)else bU many k (i+1) (iA l).2.1 (acc++[(iA l).1])
theorem nI(many k i:Nat)(l:List UInt8)(acc:List bS):bU many (k+1) i l acc=if(iA l).2.2≠0 then([],[],(iA l).2.2)else if((iA l).1.id==33) !=(i==many)then([],[],5)else bU many k (i+1) (iA l).2.1 (acc++[(iA l).1]):=rfl
def rY(here z:Bool)(l:List UInt8):Option (Int×List UInt8):=if here=true then(match fq l with
 | none=>none
 | some (n,l')=>if(z&&n==0)=true then none else some ((n:Int),l'))else some (-1,l)
def ig(s:Nat)(l:List UInt8):Option (Int×Int×List UInt8):=match rY (s/64%2==1) true l with
 | none=>none
 | some (p,l1)=>match rY (s/128==1) false l1 with
  | none=>none
  | some (q,l2)=>some (p,q,l2)
def dh:eO:=⟨0,0,[],0⟩
def fh(s:Nat)(l:List UInt8):eO×Nat:=match ig s l with
 | none=>(dh,4)
 | some (p,q,l2)=>if(bU (s%4) (s%4+1) 0 l2 []).2.2≠0 then(dh,(bU (s%4) (s%4+1) 0 l2 []).2.2)
  else if(bU (s%4) (s%4+1) 0 l2 []).2.1.all (· ==0)=false then(dh,5)
  else(⟨p,q,(bU (s%4) (s%4+1) 0 l2 []).1.take (s%4),((bU (s%4) (s%4+1) 0 l2 []).1.getD (s%4) ⟨0,0⟩).n⟩,0)
def part(l:List UInt8)(a n:Nat):List UInt8:=(l.drop a).take n
theorem dJ(l:List UInt8)(a n:Nat)(h:a+n≤l.length):(part l a n).length=n:=by unfold part;rw[List.length_take,List.length_drop];omega
def bN(b:List UInt8):Nat:=4*(b.getD 0 0).toNat+4
def dZ(b:List UInt8):List UInt8×Nat:=
 if b.length=0 then([],2)else if b.getD 0 0=0 then([],4)else if b.length<bN b then([],2)
 else if(eL (b.take (bN b-4))==part b (bN b-4) 4)=false then([],4)else(b.take (bN b-4),0)
def gO(b:List UInt8):eO×Nat×Nat:=
 if(dZ b).2≠0 then(dh,0,(dZ b).2)else if(b.getD 1 0).toNat/4%16≠0 then(dh,0,5)
 else if(fh (b.getD 1 0).toNat ((dZ b).1.drop 2)).2≠0 then(dh,0,(fh (b.getD 1 0).toNat ((dZ b).1.drop 2)).2)
 else((fh (b.getD 1 0).toNat ((dZ b).1.drop 2)).1,bN b,0)
def Rest(bo:Nat)(w:World)(l:List UInt8):Prop:= ∃A c,ir bo w (.slice A l.length c)∧Bytes w A l∧(∀a,A=some a→a.block<bo)∧l.length≤c∧c≤9223372036854775807
theorem Bytes.low{B:Nat}(h:Bytes w A l)(hb:Below B w w')(hA: ∀a,A=some a→a.block<B):Bytes w' A l:=by
 rcases h with h | ⟨b,off,rfl,h2,h3⟩
 ·exact .inl h
 ·exact .inr ⟨b,off,rfl,Nat.lt_of_lt_of_le h2 hb.size,fun k hk=>(hb.cell (p:=⟨b,off+k,none⟩) (hA ⟨b,off,none⟩ rfl)).trans (h3 k hk)⟩
theorem Rest.aA(h:Rest bo w l)(hb:Below (bo+1) w w'):Rest bo w' l:=by obtain⟨A,c,h1,h2,h3,h4,h5⟩:=h;exact⟨A,c,(hb.block bo aa).trans h1,h2.low hb (fun a e=>am (h3 a e)),h3,h4,h5⟩
theorem Pj(a:Addr)(k:Nat):(a.add k).block=a.block:=by obtain⟨b,off,sp⟩:=a;unfold Addr.add;split<;>rfl
theorem Rest.step(hx:ir bo w (.slice A l.length c))(hB:Bytes w A l)(hA: ∀a,A=some a→a.block<bo)(hk:k≤l.length)(hc:l.length≤c)(hm:c≤9223372036854775807):
  Rest bo (w.setCell ⟨bo,0,none⟩ (.slice (A.map fun x=>x.add k) (l.length-k) (c-k))) (l.drop k):=by
 have hb:Below bo w (w.setCell ⟨bo,0,none⟩ (.slice (A.map fun x=>x.add k) (l.length-k) (c-k))):=Below.setCell (p:=⟨bo,0,none⟩) (Below.refl _ _) (Nat.le_refl _) _;have Pm: ∀a,(A.map fun x=>x.add k)=some a→a.block<bo:=by intro a e;obtain⟨a0,h1,h2⟩:=Option.map_eq_some_iff.1 e;rw[←h2,Pj];exact hA a0 h1
 refine⟨_,c-k,?_,(hB.cut k).low hb Pm,Pm,jL,aa⟩;rw[List.length_drop];exact hx.set _
theorem Rest.over(hx:ir bo w (.slice A l.length c))(hA: ∀a,A=some a→a.block<bo)(hk:l.length≤k):
  Rest bo (w.setCell ⟨bo,0,none⟩ (.slice A (l.length-k) 0)) (l.drop k):=by
 rw[List.drop_eq_nil_of_le hk];refine⟨A,0,?_,.inl rfl,hA,ag,aa⟩;have h0:l.length-k=0:=aa;rw[h0];exact hx.set _
def ec(bo:Nat)(w w':World):Prop:=w'.heap.size=w.heap.size∧ ∀g,g≠bo→w'.heap[g]? =w.heap[g]?
theorem ec.refl(bo:Nat)(w:World):ec bo w w:=⟨rfl,fun _ _=>rfl⟩
theorem ec.set(bo:Nat)(w:World)(u:Value):ec bo w (w.setCell ⟨bo,0,none⟩ u):=⟨ag,fun g hg=>ah _ _ _ _ (fun e=>hg e)⟩
def bH(bo:Nat)(w w':World):Prop:=w.heap.size≤w'.heap.size∧ ∀g,g<w.heap.size→g≠bo→w'.heap[g]? =w.heap[g]?
theorem ec.old(h:ec bo w w'):bH bo w w':=⟨by rw[h.1];omega,fun g _ hg=>h.2 g hg⟩
theorem Below.old(h:Below w.heap.size w w'):bH bo w w':=⟨h.size,fun g hg _=>h.block g hg⟩
theorem bH.trans{Qv:World}(h:bH bo w w')(k:bH bo w' Qv):bH bo w Qv:=⟨Nat.le_trans h.1 k.1,fun g hg hn=>(k.2 g (Nat.lt_of_lt_of_le hg h.1) hn).trans (h.2 g hg hn)⟩
theorem bH.set{r:Nat}(h:bH bo w w')(hr:w.heap.size≤r)(u:Value):bH bo w (w'.setCell ⟨r,i,none⟩ u):=⟨by simp;exact h.1,fun g hg hn=>(ah _ _ _ _ (fun e=>by have e':g=r:=e;omega)).trans (h.2 g hg hn)⟩
def CP(bo:Nat)(l:List UInt8)(w:World)(e:Ending)(w':World):Prop:=
 Below bo w w'∧ec bo w w'∧match fq l with
 | none=>e= .returned (.tuple #[.int .u64 0,.int .i64 4])
 | some (n,l')=>e= .returned (.tuple #[.int .u64 (n:Nat),.int .i64 0])∧Rest bo w' l'
theorem ql(bo:Nat)(l:List UInt8)(w:World)(hR:Rest bo w l)(hl:l.length≤1000000):
  Calls prog 178 #[.pointer (some ⟨bo,0,none⟩)] w (CP bo l w):=by
 obtain⟨A,c,hx,hB,hA,hc,hm⟩:=hR;have t_:=hx.cell;have OU:=hx.frozen;have HG:=ae (CO A l c w hB aa);have HD:=ae (show CP bo l w=fun e w'=>Below bo w w'∧ec bo w w'∧match fq l with
  | none=>e= .returned (.tuple #[.int .u64 0,.int .i64 4])
  | some (n,l')=>e= .returned (.tuple #[.int .u64 (n:Nat),.int .i64 0])∧Rest bo w' l' from rfl)
 cases hn:fq l with
 | none=>
  rw[hn]at HD;rcases Pi hn with h | h;·rw[h]at HG;rw[HD.out];clear HD h hn;go_enter func178,ntmps178;go_wp2_with fail;refine HG.out.mono ?_;rintro e w1 ⟨rfl,rfl⟩;go_wp2_with fail;go_ret2;exact⟨Below.refl _ _,ec.refl _ _,rfl⟩
  ·rw[h]at HG;rw[HD.out];clear HD h hn;go_enter func178,ntmps178;go_wp2_with fail;refine HG.out.mono ?_;rintro e w1 ⟨rfl,rfl⟩;go_wp2_with fail;go_ret2;exact⟨Below.refl _ _,ec.refl _ _,rfl⟩
 | some r=>
  obtain⟨n,l'⟩:=r;rw[hn]at HD;obtain⟨h1,h2,k,h3,h4,h5,rfl⟩:=iu hn;rw[h5]at HG;rw[HD.out];have Js:(k:Int)≤(l.length:Int):=aa;have pW:(l.length:Int)≤(c:Int):=aa;have EN:(c:Int)≤9223372036854775807:=aa;have OP:=ae (hB.cut k);have aH:=hx.lt;have AE:(l.drop k).length=l.length-k:=List.length_drop;have Se:=ae AE;have D_:=ae (And.intro h3 hc);have HX:=ae hx;have VI:=ae hA;clear HD hn h5 h2 AE h1 hA hx;go_enter func178,ntmps178;go_wp2_with fail;refine HG.out.mono ?_;rintro e w1 ⟨rfl,rfl⟩;go_wp2_with fail;·go_ret2;exact⟨Below.setCell (p:=⟨bo,0,none⟩) (Below.refl _ _) (Nat.le_refl _) _,ec.set _ _ _,rfl,Rest.over HX.out VI.out (am D_.out)⟩
  ·go_ret2;exact⟨Below.setCell (p:=⟨bo,0,none⟩) (Below.refl _ _) (Nat.le_refl _) _,ec.set _ _ _,rfl,Rest.step HX.out hB VI.out D_.out.1 D_.out.2 hm⟩
def Pn(bo n:Nat)(l:List UInt8)(w:World)(e:Ending)(w':World):Prop:=
 Below bo w w'∧ec bo w w'∧((l.length<n∧e= .returned (.tuple #[.slice none 0 0,.int .i64 4]))∨
  (n≤l.length∧ ∃A c,e= .returned (.tuple #[.slice A n c,.int .i64 0])∧Bytes w' A (l.take n)∧(∀a,A=some a→a.block<bo)∧Rest bo w' (l.drop n)))
theorem Po(bo n:Nat)(l:List UInt8)(w:World)(hR:Rest bo w l)(hl:l.length≤1000000)(hn:n<9223372036854775808):
  Calls prog 179 #[.int .u64 (n:Nat),.pointer (some ⟨bo,0,none⟩)] w (Pn bo n l w):=by
 obtain⟨A,c,hx,hB,hA,hc,hm⟩:=hR;have t_:=hx.cell;have OU:=hx.frozen;have qw:(l.length:Int)≤1000000:=aa;have pX:(n:Int)<9223372036854775808:=aa;by_cases h:l.length<n
 ·have hi:(l.length:Int)<(n:Int):=by omega
  have HF:=ae h;clear h;go_enter func179,ntmps179;go_wp2_with fail;go_ret2;exact⟨Below.refl _ _,ec.refl _ _,.inl ⟨HF.out,rfl⟩⟩
 ·have hi:(n:Int)≤(l.length:Int):=by omega
  have hi2: ¬(l.length:Int)<(n:Int):=aa;have pW:(l.length:Int)≤(c:Int):=aa;have MG:(n:Int)≤(c:Int):=aa;have EN:(c:Int)≤9223372036854775807:=aa;have aH:=hx.lt;have hb: ∀u,Below bo w (w.setCell ⟨bo,0,none⟩ u):=fun u=>Below.setCell (p:=⟨bo,0,none⟩) (Below.refl _ _) (Nat.le_refl _) _;have HT:=ae (fun u=>(hB.take n).low (hb u) hA);have D_:=ae (show n≤l.length∧l.length≤c by omega);have HX:=ae hx;have VI:=ae hA;have HM:=ae hm;have Bc:(0:Int)≤(n:Int):=aa;clear h hA hx hb hn hm hc hl;go_enter func179,ntmps179;go_upto_region 5 with fail;have iU:Rest bo (w.setCell ⟨bo,0,none⟩ (.slice (if c=n then A else A.map fun x=>x.add n) (l.length-n) (c-n))) (l.drop n):=by
   split;·rename_i e;have h0:c-n=0:=aa;rw[h0];exact Rest.over HX.out VI.out (am D_.out)
   ·exact Rest.step HX.out hB VI.out D_.out.1 D_.out.2 HM.out
  have aD:Below bo w (w.setCell ⟨bo,0,none⟩ (.slice (if c=n then A else A.map fun x=>x.add n) (l.length-n) (c-n))):=Below.setCell (p:=⟨bo,0,none⟩) (Below.refl _ _) (Nat.le_refl _) _;have l6:ec bo w (w.setCell ⟨bo,0,none⟩ (.slice (if c=n then A else A.map fun x=>x.add n) (l.length-n) (c-n))):=ec.set _ _ _;have ht2:=HT.out (.slice (if c=n then A else A.map fun x=>x.add n) (l.length-n) (c-n));generalize Value.slice (if c=n then A else A.map fun x=>x.add n) (l.length-n) (c-n)=sv at iU aD ht2 l6 ⊢;generalize w.setCell ⟨bo,0,none⟩ sv=w2 at iU aD ht2 l6 ⊢;clear HT t_ OU;go_wp2_with fail;go_ret2;exact⟨aD,l6,.inr ⟨D_.out.1,A,c,rfl,ht2,VI.out,iU⟩⟩
end Go.Proofs.YtfcaoggfnkhfiaaGreatDoor
