import Derived.Test.YtgfpocdiojifoaaGreatDoorZ40
import Derived.StillTailTactics
namespace Go.Proofs.YtgfpocdiojifoaaGreatDoor
set_option maxRecDepth 100000
set_option maxHeartbeats 8000000
open Go.RowKit
theorem Own.shape{base:Nat}{w:World}{v:Value}{l:List UInt8}(h:Own base w v l): ∃A n c,v= .slice A n c:=by
 obtain⟨A,c,e,_⟩:=h.read
 exact⟨A,_,c,e⟩
theorem yH.append{k:FX}{w w':World}{pos:Nat}{s:jy}{cv v v':Value}{m:List UInt8}(h:yH k w pos s cv)(hr:w.cell? ⟨k.R,1,none⟩=some v)(hg:w.grownBy w' v.ownBlock)(ho':Own k.base w' v' (s.out++m)):
  yH k (w'.setCell ⟨k.R,1,none⟩ v') pos {s with out:=s.out++m} cv∧(∀s' cv',mg k.base w cv' s'→mg k.base (w'.setCell ⟨k.R,1,none⟩ v') cv' s')∧w'.frozen? ⟨k.R,1,none⟩=false∧w'.cell? ⟨k.R,1,none⟩=some v:=by
 obtain⟨v0,hrow,ho⟩:=h.row
 have e:v0=v:=by
  rw[cell_of_row w _ _ _ _ _ hrow]at hr
  injection hr
 subst e
 have up: ∀{i:Nat} {cs:Array Value} {t:TypeId} {x:Nat×Nat},w.heap[i]? =some (.cells cs t x)→t≠5→w'.heap[i]? =w.heap[i]? :=fun hi ht=>hg.block _ (Array.getElem?_eq_some_iff.1 hi).1 (fun e=>ho.neT hi ht e.symm)
 have hb:=h.below.grown hg (Nat.le_trans h.FY h.below.size) (fun g e=>(ho.aF g e).1)
 have hrow':=(up hrow (by decide)).trans hrow
 have hB:Below k.base k.w0 (w'.setCell ⟨k.R,1,none⟩ v'):=hb.setCell (p:=⟨k.R,1,none⟩) h.low.2.2 _
 refine⟨⟨(ah _ _ _ _ (row_ne h.AU hrow (by decide))).trans ((up h.AU (by decide)).trans h.AU),(ah _ _ _ _ (row_ne h.uX hrow (by decide))).trans ((up h.uX (by decide)).trans h.uX),⟨v',heap_set hrow' 1 v',ho'.MC fun g hg'=>ah _ _ _ _ (fun e=>ho'.neT hrow' (by decide) (by rw[hg',e]))⟩,h.low,⟨?_,h.bytes.2⟩,⟨h.nums.1,h.nums.2.1,h.nums.2.2.1,h.nums.2.2.2.1,?_⟩,hB,h.FY⟩,fun s' cv' hc=> ?_,frozen_of_row _ _ _ _ _ hrow',by rw[cell_of_row w' _ _ _ _ _ hrow'];rfl⟩
 ·have hbase:=Nat.le_trans h.FY h.below.size
  refine h.bytes.1.keep (Nat.le_trans hg.size (by simp)) fun q hq _=> ?_
  have hqb:q.block<k.base:=by
   cases hA:k.A with
   | none=>rw[hA]at hq;cases hq
   | some a=>
    rw[hA]at hq
    have e:a.block=q.block:=by simpa using hq
    rw[←e];exact h.bytes.2 a hA
  refine(World.cell?_setCell_far _ _ _ _ (by have:=h.low.2.2;show k.R≠q.block;omega)).trans ?_
  exact World.cell?_of_block (hg.block _ (by omega) (fun e=>by have:=(ho.aF _ e.symm).1;omega))
 ·have:=h.nums.2.2.2.2
  show s.start≤(s.out++m).length
  rw[List.length_append];omega
 ·exact(hc.keep fun i cs t x hi ht=>up hi (by rcases ht with rfl | rfl<;>decide)).set (p:=⟨k.R,1,none⟩) hrow' (by decide) (by decide) _
theorem lG{k:FX}{w:World}{A:Option Addr}{p n c i:Nat}(hB:Bytes w A (((k.B.drop p).take n).drop i))(hp:p+n≤k.B.length)(hi:i+2≤n):Calls Tryz.prog 185 #[.slice A (n-i) c] w fun e w'=>e= .returned (.int .i64 (dI k.B (p+i):Nat))∧Below w.heap.size w w':=by
 have hl:(((k.B.drop p).take n).drop i).length=n-i:=by simp;omega
 have h:=UY A _ c w hB (by omega)
 rw[hl]at h
 have e:dI (((k.B.drop p).take n).drop i) 0=dI k.B (p+i):=by
  rw[←UQ k.B (k:=p) (n:=n) (i:=i) hi]
  unfold dI
  simp only[List.getD_eq_getElem?_getD,List.getElem?_drop,Nat.add_zero]
 rw[e]at h
 exact h
theorem ED{k:FX}{w:World}{pos:Nat}{s:jy}(h:Uk k w pos s)(ho:s.out.length≤400000000):Calls Tryz.prog 151 #[PF k.R,Rk k] w (um k (iP k.B pos s)):=by
 obtain⟨cv,hU,hC⟩:=h
 have HU:=Lib.hid hU
 have HC:=Lib.hid hC
 have HO:=Lib.hid ho
 clear hU hC ho
 obtain⟨t,ht⟩: ∃t,dI k.B pos=t:=⟨_,rfl⟩
 have htl:t<65536:=by rw[←ht];exact nN _ _
 by_cases h1:k.B.length<pos+2
 ·have HN:=Lib.hid (nR HU.out 2 (by decide) h1)
  have hres:iP k.B pos s= .bad 2:=by unfold iP;rw[if_pos h1]
  have HR:=Lib.hid hres
  clear hres h1 ht htl
  go_enter Tryz.func151,Tryz.ntmps151
  go_wp2_with fail
  refine HN.out.mono ?_
  rintro e w1 ⟨rfl,rfl⟩
  go_wp2_with fail
  go_ret
  rw[HR.out]
  exact⟨rfl,HU.out.below⟩
 ·have HN:=Lib.hid (qc HU.out 2 (by decide) (by omega))
  obtain⟨n,hn⟩: ∃n,t+1=n:=⟨_,rfl⟩
  have hti:(t:Int)+1=(n:Int):=by omega
  have hni:(n:Int)≤65536:=by omega
  have hn2:n≤65536:=by omega
  by_cases h2:k.B.length<pos+2+n
  ·have hres:iP k.B pos s= .bad 2:=by unfold iP;rw[if_neg h1,ht,hn,if_pos h2]
   have HR:=Lib.hid hres
   have HT:=Lib.hid ht
   have H2:=Lib.hid (And.intro h1 (And.intro h2 hn2))
   clear hres h1 h2 hn ht htl hn2
   go_enter Tryz.func151,Tryz.ntmps151
   go_wp2_with fail
   refine HN.out.mono ?_
   rintro e w1 ⟨A1,c1,rfl,hc1,hB1,yI,Fe⟩
   have Rl:=Lib.hid (lG (k:=k) (i:=0) (c:=c1) hB1.1 (by have:=H2.out;omega) (by decide))
   rw[Nat.add_zero,HT.out]at Rl
   have uQ:=Lib.hid yI
   have UZ:(2:Int)≤(c1:Int):=by omega
   clear hB1 yI Fe hc1
   go_wp2_with fail
   refine Rl.out.mono ?_
   rintro e w2 ⟨rfl,hb2⟩
   have rP:=Lib.hid (nR (uQ.out.of_below hb2) n (by have:=H2.out;omega) (by have:=H2.out;omega))
   have HU2:=Lib.hid (uQ.out.of_below hb2)
   clear hb2
   go_wp2_with fail
   refine rP.out.mono ?_
   rintro e w3 ⟨rfl,rfl⟩
   go_wp2_with fail
   go_ret
   rw[HR.out]
   exact⟨rfl,HU2.out.below⟩
  ·have hres:iP k.B pos s= .go (pos+2+n) {s with out:=s.out++(k.B.drop (pos+2)).take n}:=by unfold iP;rw[if_neg h1,ht,hn,if_neg h2]
   have HR:=Lib.hid hres
   have HT:=Lib.hid ht
   have H2:=Lib.hid (And.intro h1 (And.intro h2 hn2))
   clear hres h1 h2 hn ht htl hn2
   go_enter Tryz.func151,Tryz.ntmps151
   go_wp2_with fail
   refine HN.out.mono ?_
   rintro e w1 ⟨A1,c1,rfl,hc1,hB1,yI,Fe⟩
   have Rl:=Lib.hid (lG (k:=k) (i:=0) (c:=c1) hB1.1 (by have:=H2.out;omega) (by decide))
   rw[Nat.add_zero,HT.out]at Rl
   have uQ:=Lib.hid (And.intro yI Fe)
   have UZ:(2:Int)≤(c1:Int):=by omega
   clear hB1 yI Fe hc1
   go_wp2_with fail
   refine Rl.out.mono ?_
   rintro e w2 ⟨rfl,hb2⟩
   have rP:=Lib.hid (qc (uQ.out.1.of_below hb2) n (by have:=H2.out;omega) (by have:=H2.out;omega))
   have HC2:=Lib.hid ((uQ.out.2 _ _ HC.out).of_below hb2)
   clear hb2
   go_wp2_with fail
   refine rP.out.mono ?_
   rintro e w3 ⟨A3,c3,rfl,hc3,hB3,hU3,hC3⟩
   obtain⟨v,⟨_,r1,_,_,_,_,_,_,_⟩,hov,hfr⟩:=hU3.cells
   have hf1:=hfr 1
   have hl3:((k.B.drop (pos+2)).take n).length=n:=by have:=H2.out;simp;omega
   have hbs:=Nat.le_trans hU3.FY hU3.below.size
   have HX:=Lib.hid (And.intro hU3 (And.intro (hC3 _ _ HC2.out) (And.intro hov (And.intro hB3.1 (And.intro hl3 (And.intro hbs (hU3.low.2.2)))))))
   have HR1:=Lib.hid r1
   clear hfr hov hU3 hC3 hB3 hl3 hbs hc3
   go_upto_region 7 with fail
   go_wp2_with (at_builtin;refine ay rfl (.tmp 31) (.tmp 32) rfl k.base w3 v _ rfl HX.out.2.2.1 A3 ((k.B.drop (pos+2)).take n) c3 (by rw[HX.out.2.2.2.2.1];rfl) HX.out.2.2.2.1 (by have:=HX.out.2.2.2.2.1;have:=HO.out;have:=H2.out;omega) HX.out.2.2.2.2.2.1 ?_;intro v' w4 fE hg4;obtain⟨A4,n4,c4,e4⟩:=fE.shape;subst e4;obtain⟨hU4,hC4,hf4,hc4⟩:=HX.out.1.append HR1.out hg4 fE;have HU4:=Lib.hid hU4;have ZI:=Lib.hid (hC4 _ _ HX.out.2.1);clear hU4 hC4 fE hg4)
   go_ret
   rw[HR.out]
   exact⟨rfl,_,HU4.out,ZI.out.same rfl rfl ⟨rfl,rfl,rfl,rfl,rfl,rfl⟩⟩
def ZJ(g o cap:Nat)(L:List UInt8)(C Lb lc lp pb h:Nat)(res:Option (List UInt8×Nat×R4×PD))(w:World)(e:Ending)(w':World):Prop:=
 match res with
 | none=>e= .returned (.tuple #[.slice none 0 0,.int .i64 6])∧Only [C,Lb,g,o] w w'
 | some (T,st,r,y)=> ∃A c,e= .returned (.tuple #[.slice A (T.drop h).length c,.int .i64 0])∧((T.drop h).length≤c∧c≤9223372036854775807)∧Bytes w' A (T.drop h)∧bg w' C Lb lc lp pb st r y.1∧ku w' g o cap L y.2∧Only [C,Lb,g,o] w w'∧st<12∧eP r
theorem P6{g o cap:Nat}{L:List UInt8}{C Lb lc lp pb st:Nat}{r:R4}{P:Nat→Nat}{w:World}(hM:bg w C Lb lc lp pb st r P)(hD:ku w g o cap L (Rd.start L))(h5:5≤L.length∧L.length≤140737488355328)(hne:C≠g∧C≠o∧Lb≠g∧Lb≠o)(hlc:lc≤4)(hlp:lp≤4)(hpb:pb≤4)(hst:st<12)(hr:eP r)
  (A:Option Addr) (H:List UInt8) (c:Nat) (hB:Bytes w A H) (hc:H.length≤c) (hH:H.length≤400000000) (many:Nat) (ajk:many≤400000000) (dict:Int) (hd1:1≤dict) (hd2:dict≤9223372036854775807):
  Calls Tryz.prog 217 #[PF g,PF C,.slice A H.length c,.int .i64 (many:Nat),.int .i64 dict] w (ZJ g o cap L C Lb lc lp pb H.length (bW 0 0 0 L lc lp pb dict (H.length+many) many H st r (P,Rd.start L)) w):=by
 have hms:MS (ak g o cap L) w C Lb lc lp pb st r (P,Rd.start L) [g,o]:=⟨hM,⟨rfl,hD⟩,by simp;omega,by simp;omega⟩
 have hrd:=PZ hms hlc hlp hpb hst hr ⟨Rd.X7 h5.1,h5.2⟩ A H c hB hc (by omega) many (by omega) dict hd1 hd2
 have hp:Ew r:=hr.1
 have hcut:=PX (gd:=g) (o:=o) (cap:=cap) (L:=L) (lc:=lc) (dict:=dict) hlp hpb H many st r (P,Rd.start L) hp
 have hcl:=Ey H.length (show 0≤max dict r.1 by have:=hp.1;omega)
 rw[PW (gd:=g) (o:=o) (cap:=cap) many H]at hcut
 obtain⟨RES,sU⟩: ∃R,bW 0 0 0 L lc lp pb dict (H.length+many) many H st r (P,Rd.start L)=R:=⟨_,rfl⟩
 obtain⟨cut,hce⟩: ∃n,iY H.length (max dict r.1)=n:=⟨_,rfl⟩
 rw[sU]at hcut ⊢
 rw[hce]at hcut hrd hcl
 refine hrd.mono fun e w' hd=> ?_
 have hd2:Jm g o cap L C Lb lc lp pb [g,o] (H.length-cut) (RES.map fun q=>(q.1.drop cut,q.2)) w e w'∧wQ (RES.map fun q=>(q.1.drop cut,q.2)):=Eq.mp (congrArg (fun res=>Jm g o cap L C Lb lc lp pb [g,o] (H.length-cut) res w e w'∧wQ res) hcut) hd
 clear hd
 cases RES with
 | none=>exact hd2.1
 | some q=>
  obtain⟨T,st',r',y'⟩:=q
  obtain⟨hd3,hf⟩:=hd2
  obtain⟨h12,hrg⟩:=hf _ rfl
  obtain⟨A9,c9,rfl,hc9,hm9,hB9,X9,NP,yV,_⟩:=(show Jm g o cap L C Lb lc lp pb [g,o] (H.length-cut) (some (T.drop cut,st',r',y')) w e w' from hd3)
  have e1:(T.drop cut).drop (H.length-cut)=T.drop H.length:=by rw[List.drop_drop,show cut+(H.length-cut)=H.length by omega]
  have e2:(T.drop cut).length-(H.length-cut)=(T.drop H.length).length:=by
   rw[List.length_drop,List.length_drop];omega
  rw[e1]at hB9
  rw[e2]at hc9
  obtain rfl:X9=[g,o]:=NP.io.1
  exact⟨A9,c9,by rw[e2],⟨hc9,hm9⟩,hB9,NP.mod,NP.io.2,yV,h12,hrg⟩
theorem yH.same{k:FX}{w:World}{pos:Nat}{s s':jy}{cv:Value}(h:yH k w pos s cv)(h1: ∀v,MF k.dict v s cv=MF k.dict v s' cv)(h2:s'.out=s.out)(h3:s'.start=s.start):yH k w pos s' cv:=by
 obtain⟨v,hr,ho⟩:=h.row
 exact⟨h.AU,h.uX,⟨v,by rw[←h1];exact hr,by rw[h2];exact ho⟩,h.low,h.bytes,by rw[h2,h3];exact h.nums,h.below,h.FY⟩
theorem decode_any{k:FX}{w:World}{pos:Nat}{s:jy}(h:Uk k w pos s)(hcl:s.clear=true)(has:s.asked=false)(ho:s.out.length≤400000000)(A:Option Addr)(L:List UInt8)(c:Nat)(hB:Bytes w A L)(hL:L.length≤65536)(size:Nat)(hsz:size≤4000000)(hd1:1≤k.dict)(hd2:k.dict≤9223372036854775807):
  Calls Tryz.prog 187 #[PF k.R,.slice A L.length c,.int .i64 (size:Nat)] w (um k (fC L size k.dict pos s)):=by
 obtain⟨cv,hU,hC⟩:=h
 obtain⟨C,Lb,rfl,hlow,hM,hperm,hst,hrg⟩:=hC hcl has
 have hp':=of_decide_eq_true hperm
 have HU:=Lib.hid hU
 have HM:=Lib.hid (And.intro hM (And.intro hlow (And.intro hst hrg)))
 have HP:=Lib.hid (And.intro (show s.lc≤4 by omega) (And.intro (show s.lp≤4 by omega) (And.intro (show s.pb≤4 by omega) hperm)))
 have HO:=Lib.hid ho
 have HCA:=Lib.hid (And.intro hcl has)
 by_cases h5:L.length<5
 ·have HN:=Lib.hid (OB A L c w h5)
  have HR:=Lib.hid (show fC L size k.dict pos s= .bad 6 by unfold fC;rw[if_pos h5])
  generalize L.length=n at*
  clear hU hC hM hlow hst hrg hp' hperm ho hcl has h5 hB hL
  go_enter Tryz.func187,Tryz.ntmps187
  go_wp2_with fail
  refine HN.out.mono ?_
  rintro e w1 ⟨rfl,rfl⟩
  go_wp2_with fail
  go_ret
  rw[HR.out]
  exact⟨rfl,HU.out.below⟩
 ·by_cases h0:L.getD 0 0≠0
  ·have HN:=Lib.hid (X8 A L c w hB (by omega) h0)
   have HR:=Lib.hid (show fC L size k.dict pos s= .bad 6 by unfold fC;rw[if_neg h5,if_pos h0])
   clear hU hC hM hlow hst hrg hp' hperm ho hcl has h5 hB hL h0
   go_enter Tryz.func187,Tryz.ntmps187
   go_wp2_with fail
   refine HN.out.mono ?_
   rintro e w1 ⟨rfl,rfl⟩
   go_wp2_with fail
   go_ret
   rw[HR.out]
   exact⟨rfl,HU.out.below⟩
  ·have h0':L.getD 0 0=0:=by simpa using h0
   have HN:=Lib.hid (Tt A L c w hB (by omega) (by omega) h0')
   obtain⟨RES,sU⟩: ∃R,bW 0 0 0 L s.lc s.lp s.pb k.dict ((s.out.drop s.start).length+size) size (s.out.drop s.start) s.st s.r (s.P,Rd.start L)=R:=⟨_,rfl⟩
   have HR:=Lib.hid (show fC L size k.dict pos s=qO L (s.out.drop s.start).length pos s RES by unfold fC;rw[if_neg h5,if_neg h0,sU])
   have xJ:=Lib.hid sU
   have HL:=Lib.hid (show 5≤L.length∧L.length≤140737488355328 by omega)
   have atH:(size:Int)≤4000000:=by omega
   clear hU hC hM hlow hst hrg hp' hperm ho hcl has h5 hB hL h0 h0' sU
   go_enter Tryz.func187,Tryz.ntmps187
   go_wp2_with fail
   refine HN.out.mono ?_
   rintro e w1 ⟨g,o,cap,rfl,hD,hb1,hg,hoo⟩
   have yI:=HU.out.of_below hb1
   have hM1:=HM.out.1.keep (hb1.block _ HM.out.1.EW) (hb1.block _ HM.out.1.BN)
   have hlt:=And.intro HM.out.1.EW HM.out.1.BN
   have hsz1:=hb1.size
   obtain⟨v,⟨r0,r1,r2,_,_,_,_,_,r8⟩,hov,hfr⟩:=yI.cells
   obtain⟨AO,cO,rfl,hcO,hmO,hBO⟩:=hov.read
   have hss:=yI.nums.2.2.2.2
   have hBH:=hBO.cutFrom hss hcO
   obtain⟨AH,hAH⟩: ∃AH,(if cO=s.start then AO else AO.map (·.add s.start))=AH:=⟨_,rfl⟩
   rw[hAH]at hBH
   have hlen:(s.out.drop s.start).length=s.out.length-s.start:=List.length_drop
   obtain⟨hl,hhl⟩: ∃n,s.out.length-s.start=n:=⟨_,rfl⟩
   rw[hhl]at hlen
   obtain⟨ca,hca⟩: ∃n,cO-s.start=n:=⟨_,rfl⟩
   have HUD:Hid (∀W,Below w1.heap.size w1 W→Calls Tryz.prog 217 #[PF g,PF C,.slice AH hl ca,.int .i64 (size:Nat),.int .i64 k.dict] W (ZJ g o cap L C Lb s.lc s.lp s.pb hl RES W)):=Lib.hid (fun W hW=>by
    have hud:=P6 (hM1.keep (hW.block _ (by omega)) (hW.block _ (by omega))) (hD.below hW) HL.out ⟨by omega,by omega,by omega,by omega⟩ HP.out.1 HP.out.2.1 HP.out.2.2.1 HM.out.2.2.1 HM.out.2.2.2 AH (s.out.drop s.start) ca (hBH.below hW) (by omega) (by have:=HO.out;omega) size (by omega) k.dict hd1 hd2
    rw[xJ.out,hlen]at hud
    exact hud)
   obtain⟨v0,hrow,_⟩:=yI.row
   obtain⟨v00,ZK,_⟩:=HU.out.row
   have hRw:=(Array.getElem?_eq_some_iff.1 ZK).1
   obtain⟨T,hT,_⟩:=hM1.box
   obtain⟨l,hlt,_⟩:=hM1.lits
   have hRC:=row_ne hrow hT (by decide)
   have hRL:=row_ne hrow hlt (by decide)
   have hRl:=(Array.getElem?_eq_some_iff.1 hrow).1
   obtain⟨T0,hT0,_⟩:=HM.out.1.box
   obtain⟨l0,hlt0,_⟩:=HM.out.1.lits
   have hkx: ∀x,Only [C,Lb,g,o] w1.drew x→yH k x pos s (PF C)∧Below k.base k.w0 x:=by
    intro x hx
    have hbw:Below k.base w x:=(hb1.mono (Nat.le_trans HU.out.FY HU.out.below.size)).trans ((Below.refl _ _).drew.trans (hx.below (Nat.le_trans HU.out.FY (Nat.le_trans HU.out.below.size hsz1)) (by
     intro i hi
     have h1:=HM.out.2.1
     have h2:=Nat.le_trans HU.out.FY HU.out.below.size
     simp only[List.mem_cons,List.not_mem_nil,or_false]at hi
     rcases hi with rfl | rfl | rfl | rfl<;>omega)))
    refine⟨HU.out.keep hbw fun i cs t y hi ht=> ?_,HU.out.below.trans hbw⟩
    have hilt:=(Array.getElem?_eq_some_iff.1 hi).1
    refine(hx.block i (show i<w1.heap.size by omega) ?_).trans (hb1.block i hilt)
    intro hm
    simp only[List.mem_cons,List.not_mem_nil,or_false]at hm
    rcases hm with rfl | rfl | rfl | rfl
    ·rw[hT0]at hi;injection hi with hi;injection hi with _ e _;subst e;revert ht;decide
    ·rw[hlt0]at hi;injection hi with hi;injection hi with _ e _;subst e;revert ht;decide
    ·omega
    ·omega
   have HKX:=Lib.hid hkx
   have HCE:Hid (∀W:World,W.heap[k.R]? =w1.heap[k.R]? →W.cell? ⟨k.R,0,none⟩=some (.int .i64 k.dict)∧W.cell? ⟨k.R,1,none⟩=some (.slice AO s.out.length cO)∧W.cell? ⟨k.R,2,none⟩=some (.int .i64 (s.start:Nat))∧W.cell? ⟨k.R,8,none⟩=some (PF C)):=Lib.hid (fun W hW=>⟨(World.cell?_of_block (a:=⟨k.R,0,none⟩) hW).trans r0,(World.cell?_of_block (a:=⟨k.R,1,none⟩) hW).trans r1,(World.cell?_of_block (a:=⟨k.R,2,none⟩) hW).trans r2,(World.cell?_of_block (a:=⟨k.R,8,none⟩) hW).trans r8⟩)
   have BZ:Hid (∀W:World,Only [C,Lb,g,o] w1.drew W→W.cell? ⟨k.R,0,none⟩=some (.int .i64 k.dict)∧W.cell? ⟨k.R,1,none⟩=some (.slice AO s.out.length cO)∧W.cell? ⟨k.R,2,none⟩=some (.int .i64 (s.start:Nat))∧W.cell? ⟨k.R,8,none⟩=some (PF C)):=Lib.hid (fun W hW=>HCE.out W (hW.block k.R hRl (by simp only[List.mem_cons,List.not_mem_nil,or_false];omega)))
   have hS0:=HCE.out w1.drew rfl
   have hlong: ∀q,RES=some q→q.1.length≤hl+size:=fun q e=>by have h1:=(wP size _ _ _ _ (xJ.out.trans e)).2 (by omega);omega
   have aju:=Lib.hid hlong
   have HAH:=Lib.hid (And.intro hAH (And.intro hhl (And.intro hca hlen)))
   have hoi:(s.out.length:Int)≤400000000:=by have:=HO.out;omega
   have atL:(s.start:Int)≤(s.out.length:Int):=by omega
   have atM:(s.out.length:Int)≤(cO:Int):=by omega
   have hcm:(cO:Int)≤9223372036854775807:=by omega
   clear yI hM1 hlt hD hb1 hg hoo hov hfr hcO hmO hBO hss hBH hlen hAH hhl hca hrow hT hRC hRL hRl hkx hlong ZK hRw hT0 hlt0 r0 r1 r2 r8
   cases RES with
   | none=>
    go_upto_region 4 with fail
    refine wp_region_held_drew (S:=fun W=>W.cell? ⟨k.R,0,none⟩=some (.int .i64 k.dict)∧W.cell? ⟨k.R,1,none⟩=some (.slice AO s.out.length cO)∧W.cell? ⟨k.R,2,none⟩=some (.int .i64 (s.start:Nat))∧W.cell? ⟨k.R,8,none⟩=some (PF C)) (by kernel_rfl) hS0 (fun hS=> ?_)
    refine tq 0 hS ?_
    refine tq 1 hS ?_
    refine tq 2 hS ?_
    refine tq 3 hS ?_
    refine tp 4 rfl (fun w hSw=>by obtain⟨q0,q1,q2,q8⟩:=hSw;go_simp;all_goals(with_reducible rfl)) hS ?_
    refine tq 5 hS ?_
    refine tq 6 hS ?_
    refine tq 7 hS ?_
    refine tp 8 rfl (fun w hSw=>by obtain⟨q0,q1,q2,q8⟩:=hSw;go_simp;all_goals(with_reducible rfl)) hS ?_
    refine tq 9 hS ?_
    refine tq 10 hS ?_
    refine tq 11 hS ?_
    refine tp 12 rfl (fun w hSw=>by obtain⟨q0,q1,q2,q8⟩:=hSw;go_simp;all_goals(with_reducible rfl)) hS ?_
    refine tk 13 (v:= .slice AH hl ca) ?ajv hS ?_
    case ajv=>
     intro w hSw
     go_simp;exact⟨HAH.out.1,HAH.out.2.1,HAH.out.2.2.1⟩
    simp only[Act.put,List.setIfInBounds_toArray,List.set_cons_zero,List.set_cons_succ]
    refine tq 14 hS ?_
    refine tq 15 hS ?_
    refine tq 16 hS ?_
    refine tq 17 hS ?_
    refine tp 18 rfl (fun w hSw=>by obtain⟨q0,q1,q2,q8⟩:=hSw;go_simp;all_goals(with_reducible rfl)) hS ?_
    refine tr 19 (fun K hK=> ?_)
    go_simp
    refine(HUD.out _ (aK _)).mono ?_
    rintro e x19 ⟨rfl,hon⟩
    have g19:=BZ.out _ hon
    have lW:=Lib.hid hon
    clear hon
    go_wp2_with fail
    refine hK.out _ _ g19 (fun _=> ?_)
    clear hK K
    refine tq 20 g19 ?_
    refine tq 21 g19 ?_
    refine tq 22 g19 ?_
    refine tq 23 g19 ?_
    refine tq 24 g19 ?_
    refine wpAnyH_done (by kernel_rfl) ?_ _
    go_wp2_with fail
    go_ret
    rw[HR.out]
    exact⟨rfl,(HKX.out _ lW.out).2⟩
   | some q=>
    obtain⟨T9,st9,r9,y9⟩:=q
    go_upto_region 4 with fail
    refine wp_region_held_drew (S:=fun W=>W.cell? ⟨k.R,0,none⟩=some (.int .i64 k.dict)∧W.cell? ⟨k.R,1,none⟩=some (.slice AO s.out.length cO)∧W.cell? ⟨k.R,2,none⟩=some (.int .i64 (s.start:Nat))∧W.cell? ⟨k.R,8,none⟩=some (PF C)) (by kernel_rfl) hS0 (fun hS=> ?_)
    refine tq 0 hS ?_
    refine tq 1 hS ?_
    refine tq 2 hS ?_
    refine tq 3 hS ?_
    refine tp 4 rfl (fun w hSw=>by obtain⟨q0,q1,q2,q8⟩:=hSw;go_simp;all_goals(with_reducible rfl)) hS ?_
    refine tq 5 hS ?_
    refine tq 6 hS ?_
    refine tq 7 hS ?_
    refine tp 8 rfl (fun w hSw=>by obtain⟨q0,q1,q2,q8⟩:=hSw;go_simp;all_goals(with_reducible rfl)) hS ?_
    refine tq 9 hS ?_
    refine tq 10 hS ?_
    refine tq 11 hS ?_
    refine tp 12 rfl (fun w hSw=>by obtain⟨q0,q1,q2,q8⟩:=hSw;go_simp;all_goals(with_reducible rfl)) hS ?_
    refine tk 13 (v:= .slice AH hl ca) ?ajw hS ?_
    case ajw=>
     intro w hSw
     go_simp;exact⟨HAH.out.1,HAH.out.2.1,HAH.out.2.2.1⟩
    simp only[Act.put,List.setIfInBounds_toArray,List.set_cons_zero,List.set_cons_succ]
    refine tq 14 hS ?_
    refine tq 15 hS ?_
    refine tq 16 hS ?_
    refine tq 17 hS ?_
    refine tp 18 rfl (fun w hSw=>by obtain⟨q0,q1,q2,q8⟩:=hSw;go_simp;all_goals(with_reducible rfl)) hS ?_
    refine tr 19 (fun K hK=> ?_)
    go_simp
    refine(HUD.out _ (aK _)).mono ?_
    rintro e x19 ⟨A9,c9,rfl,hc9,hB9,NP,hD9,hon,h12,ajx⟩
    have g19:=BZ.out _ hon
    have lW:=Lib.hid hon
    have H9:=Lib.hid (And.intro hB9 (And.intro NP (And.intro hD9 (And.intro h12 ajx))))
    clear hon hB9 NP hD9 h12 ajx
    go_wp2_with fail
    refine hK.out _ _ g19 (fun _=> ?_)
    clear hK K
    refine tq 20 g19 ?_
    refine tq 21 g19 ?_
    refine tq 22 g19 ?_
    refine tq 23 g19 ?_
    refine tq 24 g19 ?_
    refine wpAnyH_done (by kernel_rfl) ?_ _
    clear hS hS0 HUD HCE BZ
    have XI:=Lib.hid (VZ g o cap L y9.2 x19 H9.out.2.2.1)
    have ajy:T9.length-hl≤4000000:=by have:=aju.out _ rfl;simp only at this;omega
    have anR:=Lib.hid ajy
    clear ajy
    cases hdn:y9.2.done L with
    | false=>
     rw[hdn]at XI
     have Aq:=Lib.hid (HR.out.trans (show qO L (s.out.drop s.start).length pos s (some (T9,st9,r9,y9))= .bad 6 by unfold qO;exact if_neg (by rw[hdn];decide)))
     go_wp2_with fail
     refine XI.out.mono ?_
     rintro e x20 ⟨rfl,P7⟩
     go_wp2_with fail
     go_ret
     rw[Aq.out]
     exact⟨rfl,((HKX.out _ lW.out).1.of_below P7).below⟩
    | true=>
     rw[hdn]at XI
     have Aq:=Lib.hid (HR.out.trans (show qO L (s.out.drop s.start).length pos s (some (T9,st9,r9,y9))= .go pos {s with out:=s.out++T9.drop hl,st:=st9,r:=r9,P:=y9.1} by unfold qO;rw[HAH.out.2.2.2];exact if_pos hdn))
     clear hdn
     go_wp2_with fail
     refine XI.out.mono ?_
     rintro e x20 ⟨rfl,P7⟩
     have ZL:=(HKX.out _ lW.out).1.of_below P7
     have ajz:=H9.out.2.1.keep (P7.block _ H9.out.2.1.EW) (P7.block _ H9.out.2.1.BN)
     obtain⟨v,⟨_,r1,_,_,_,_,_,_,_⟩,hov,hfr⟩:=ZL.cells
     have hf1:=hfr 1
     have hbs:=Nat.le_trans ZL.FY ZL.below.size
     have HX:=Lib.hid (And.intro ZL (And.intro hov (And.intro (H9.out.1.below P7) (And.intro ajz hbs))))
     have HR1:=Lib.hid r1
     clear hfr hov ZL ajz P7 hbs
     go_upto_region 7 with fail
     go_wp2_with (at_builtin;refine ay rfl (.tmp 51) (.tmp 52) rfl k.base x20 v _ rfl HX.out.2.1 A9 (T9.drop hl) c9 (by rw[List.length_drop];rfl) HX.out.2.2.1 (by have:=anR.out;have:=HO.out;rw[List.length_drop];omega) HX.out.2.2.2.2 ?_;intro v' w4 fE hg4;obtain⟨A4,n4,c4,e4⟩:=fE.shape;subst e4;obtain⟨hU4,hC4,hf4,hc4⟩:=HX.out.1.append HR1.out hg4 fE;have HU4:=Lib.hid hU4;have ZI:=Lib.hid (hC4 {s with out:=s.out++T9.drop hl,st:=st9,r:=r9,P:=y9.1} (PF C) (fun _ _=>⟨C,Lb,rfl,HM.out.2.1,HX.out.2.2.2.1,HP.out.2.2.2,H9.out.2.2.2.1,H9.out.2.2.2.2⟩));clear hU4 hC4 fE hg4)
     go_ret
     rw[Aq.out]
     exact⟨rfl,_,HU4.out.same (fun _=>rfl) rfl rfl,ZI.out⟩
def U0(k:FX)(cv:Value)(x:yN)(e:Ending)(w':World):Prop:=
 match x with
 | .bad n=>e= .returned (.int .i64 (n:Nat))∧Below k.base k.w0 w'
 | .go pos s=>e= .returned (.int .i64 0)∧yH k w' pos s cv
def mD(B:List UInt8)(pos:Nat)(s:jy):yN:=
 if B.length<pos+1 then .bad 2
 else .go (pos+1) {s with lc:=(B.getD pos 0).toNat%9,lp:=(B.getD pos 0).toNat/9%5,pb:=(B.getD pos 0).toNat/45,asked:=false}
theorem uo{k:FX}{w:World}{pos:Nat}{s:jy}{cv:Value}(hU:yH k w pos s cv):Calls Tryz.prog 186 #[PF k.R,Rk k] w (U0 k cv (mD k.B pos s)):=by
 have HU:=Lib.hid hU
 by_cases h1:k.B.length<pos+1
 ·have HN:=Lib.hid (nR HU.out 1 (by decide) h1)
  have HR:=Lib.hid (show mD k.B pos s= .bad 2 by unfold mD;rw[if_pos h1])
  clear hU h1
  go_enter Tryz.func186,Tryz.ntmps186
  go_wp2_with fail
  refine HN.out.mono ?_
  rintro e w1 ⟨rfl,rfl⟩
  go_wp2_with fail
  go_ret
  rw[HR.out]
  exact⟨rfl,HU.out.below⟩
 ·have HN:=Lib.hid (qc HU.out 1 (by decide) (by omega))
  have HR:=Lib.hid (show mD k.B pos s= .go (pos+1) {s with lc:=(k.B.getD pos 0).toNat%9,lp:=(k.B.getD pos 0).toNat/9%5,pb:=(k.B.getD pos 0).toNat/45,asked:=false} by unfold mD;rw[if_neg h1])
  have hxl:=(k.B.getD pos 0).toNat_lt
  obtain⟨x,hx⟩: ∃x,k.B.getD pos 0=x:=⟨_,rfl⟩
  rw[hx]at HR hxl
  have HXE:=Lib.hid hx
  have H1:=Lib.hid h1
  have m1:((x.toNat:Int)).tmod 9=((x.toNat%9:Nat):Int):=by rw[Int.tmod_eq_emod_of_nonneg (by omega)];omega
  have m2:((x.toNat:Int)).tdiv 9=((x.toNat/9:Nat):Int):=by rw[Int.tdiv_eq_ediv_of_nonneg (by omega)];omega
  have m3:(((x.toNat/9:Nat):Int)).tmod 5=((x.toNat/9%5:Nat):Int):=by rw[Int.tmod_eq_emod_of_nonneg (by omega)];omega
  have m4:((x.toNat:Int)).tdiv 45=((x.toNat/45:Nat):Int):=by rw[Int.tdiv_eq_ediv_of_nonneg (by omega)];omega
  have hxi:(x.toNat:Int)<256:=by omega
  clear hU h1 hx
  go_enter Tryz.func186,Tryz.ntmps186
  go_wp2_with fail
  refine HN.out.mono ?_
  rintro e w1 ⟨A1,c1,rfl,hc1,⟨hB1,_⟩,yI,_⟩
  have hl1:((k.B.drop pos).take 1).length=1:=by have:=H1.out;simp;omega
  obtain⟨b,off,rfl,hb,hcs⟩:=hB1.addr (by omega)
  have k0:=hcs 0 (by omega)
  have e0:((k.B.drop pos).take 1)[0]=x:=by
   rw[←HXE.out]
   simp[List.getElem_take,List.getD_eq_getElem?_getD,List.getElem?_eq_getElem (show pos<k.B.length by have:=H1.out;omega)]
  rw[Nat.add_zero,e0]at k0
  obtain⟨v,⟨r0,r1,r2,r3,r4,r5,r6,r7,r8⟩,_,hfr⟩:=yI.cells
  have f5:=hfr 5
  have f6:=hfr 6
  have f7:=hfr 7
  have f4:=hfr 4
  have uQ:=Lib.hid yI
  clear hc1 hB1 yI hl1 hcs hb e0 hfr
  go_wp2_with fail
  go_ret
  rw[HR.out]
  have n1:(x.toNat:Int)%9=((x.toNat%9:Nat):Int):=by omega
  have n2:(x.toNat:Int)/9%5=((x.toNat/9%5:Nat):Int):=by omega
  have n3:(x.toNat:Int)/45=((x.toNat/45:Nat):Int):=by omega
  rw[n1,n2,n3]
  have u1:=uQ.out.put 5 (.int .i64 ((x.toNat%9:Nat):Nat)) (s':={s with lc:=x.toNat%9}) (cv':=cv) (fun _=>rfl) rfl uQ.out.nums.2.2.2.2
  have u2:=u1.put 6 (.int .i64 ((x.toNat/9%5:Nat):Nat)) (s':={s with lc:=x.toNat%9,lp:=x.toNat/9%5}) (cv':=cv) (fun _=>rfl) rfl uQ.out.nums.2.2.2.2
  have u3:=u2.put 7 (.int .i64 ((x.toNat/45:Nat):Nat)) (s':={s with lc:=x.toNat%9,lp:=x.toNat/9%5,pb:=x.toNat/45}) (cv':=cv) (fun _=>rfl) rfl uQ.out.nums.2.2.2.2
  exact⟨rfl,u3.put 4 (.bool false) (s':={s with lc:=x.toNat%9,lp:=x.toNat/9%5,pb:=x.toNat/45,asked:=false}) (cv':=cv) (fun _=>rfl) rfl uQ.out.nums.2.2.2.2⟩
end Go.Proofs.YtgfpocdiojifoaaGreatDoor
