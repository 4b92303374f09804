import Derived.Test.YtgfpocdiojifoaaGreatDoorZ41
namespace Go.Proofs.YtgfpocdiojifoaaGreatDoor
set_option maxRecDepth 100000
set_option maxHeartbeats 8000000
open Go.RowKit
theorem mX{base:Nat}{w0 w1 w2:World}(h1:Below base w0 w1)(h2:Below base w0 w2)(hs:base≤w0.heap.size){A:Option Addr}{l:List UInt8}(hB:Bytes w1 A l)(hA: ∀a,A=some a→a.block<base):Bytes w2 A l:=by
 rcases hB with h | ⟨b,off,rfl,hb,hc⟩
 ·exact .inl h
 ·have hlt:b<base:=hA _ rfl
  refine .inr ⟨b,off,rfl,by have:=h2.size;omega,fun j hj=> ?_⟩
  rw[h2.cell (p:=⟨b,off+j,none⟩) hlt,←h1.cell (p:=⟨b,off+j,none⟩) hlt]
  exact hc j hj
theorem Uk.below{k:FX}{w:World}{pos:Nat}{s:jy}(h:Uk k w pos s):Below k.base k.w0 w:=by
 obtain⟨cv,h1,_⟩:=h
 exact h1.below
theorem um.ret{k:FX}{x:yN}{e:Ending}{w':World}(h:um k x e w'): ∃n:Int,e= .returned (.int .i64 n)∧um k x (.returned (.int .i64 n)) w':=by
 cases x with
 | bad n=>obtain⟨rfl,h⟩:=h;exact⟨_,rfl,rfl,h⟩
 | go p s=>obtain⟨rfl,h⟩:=h;exact⟨_,rfl,rfl,h⟩
theorem kW{k:FX}{w:World}{pos:Nat}{s:jy}(h:Uk k w pos s)(n:Nat)(hn:n≤1000000)(hl:k.B.length<pos+n):Calls Tryz.prog 113 #[.int .i64 (n:Nat),PF k.bb,PF k.ab] w (zK w):=by
 obtain⟨cv,h1,_⟩:=h
 exact nR h1 n hn hl
theorem mF{k:FX}{w:World}{pos:Nat}{s:jy}(h:Uk k w pos s)(n:Nat)(hn:n≤1000000)(hl:pos+n≤k.B.length):Calls Tryz.prog 113 #[.int .i64 (n:Nat),PF k.bb,PF k.ab] w (fun e w'=> ∃AP cP,e= .returned (.tuple #[.slice AP n cP,.int .i64 0])∧(n≤cP∧cP≤9223372036854775807)∧(Bytes w' AP ((k.B.drop pos).take n)∧ ∀a,AP=some a→a.block<k.base)∧Uk k w' (pos+n) s):=by
 obtain⟨cv,h1,h2⟩:=h
 refine(qc h1 n hn hl).mono ?_
 rintro e w' ⟨AP,cP,rfl,h3,h4,h5,h6⟩
 exact⟨AP,cP,rfl,h3,h4,_,h5,h6 _ _ h2⟩
theorem EF{k:FX}{w:World}{pos:Nat}{s:jy}(h:Uk k w pos s)(c:Nat)(hc1:128≤c)(hc2:c<256)(hcl:s.clear=true)(hca: ¬(c<192∧s.asked=true))(ho:s.out.length≤400000000)(hd1:1≤k.dict)(hd2:k.dict≤9223372036854775807):
  Calls Tryz.prog 152 #[PF k.R,.int .u8 (c:Nat),Rk k] w (um k (jE k.B k.dict c pos s)):=by
 obtain⟨cv,hU,hC⟩:=h
 have HU:=Lib.hid hU
 have HC:=Lib.hid hC
 have HO:=Lib.hid ho
 have HD:=Lib.hid (And.intro hd1 hd2)
 have HCL:=Lib.hid hcl
 have hci:(c:Int)<256:=by omega
 have atN:(128:Int)≤(c:Int):=by omega
 by_cases h1:k.B.length<pos+4
 ·have HN:=Lib.hid (nR HU.out 4 (by decide) h1)
  have HR:=Lib.hid (show jE k.B k.dict c pos s= .bad 2 by unfold jE;exact if_pos h1)
  clear hU hC ho hd1 hd2 hcl hca h1
  go_enter Tryz.func152,Tryz.ntmps152
  go_wp2_with fail
  refine HN.out.mono ?_
  rintro e w1 ⟨rfl,rfl⟩
  go_wp2_with fail
  go_ret
  rw[HR.out]
  exact⟨rfl,HU.out.below⟩
 ·have HN:=Lib.hid (qc HU.out 4 (by decide) (by omega))
  have CJ:=Lib.hid (show pos+4≤k.B.length by omega)
  have FZ:jE k.B k.dict c pos s=((fG c k.B (pos+4) s).then (gV c)).then (dA k.B (dI k.B (pos+2)+1) (65536*(c%32)+dI k.B pos+1) k.dict):=by unfold jE;exact if_neg h1
  by_cases zL:c<192
  ·have hpr:fG c k.B (pos+4) s= .go (pos+4) s:=by unfold fG;exact if_pos zL
   have has:s.asked=false:=by
    cases hq:s.asked with
    | false=>rfl
    | true=>exact absurd ⟨zL,hq⟩ hca
   have HAS:=Lib.hid has
   have anS:decide ((192:Int)≤(c:Int))=false:=decide_eq_false (by omega)
   by_cases F5:c<160
   ·have HR:=Lib.hid (FZ.trans (show _=dA k.B (dI k.B (pos+2)+1) (65536*(c%32)+dI k.B pos+1) k.dict (pos+4) s by rw[hpr,show(yN.go (pos+4) s).then (gV c)=gV c (pos+4) s from rfl,show gV c (pos+4) s= .go (pos+4) s by unfold gV;exact if_pos F5];rfl))
    have ajA:decide ((160:Int)≤(c:Int))=false:=decide_eq_false (by omega)
    clear hU hC ho hd1 hd2 hcl hca h1 FZ hpr has zL F5 hc1 hc2
    go_enter Tryz.func152,Tryz.ntmps152
    go_wp2_with fail
    refine HN.out.mono ?_
    rintro e w1 ⟨A1,c1,rfl,hc1,hB1,yI,Fe⟩
    have HB1:=Lib.hid hB1
    have uQ:=Lib.hid (And.intro yI Fe)
    have UZ:(4:Int)≤(c1:Int):=by omega
    have hc12: ¬c1=2:=by omega
    have ZI:=Lib.hid hc1
    clear hB1 yI Fe hc1
    have HT:Hid (Uk k w1 (pos+4) s∧s.clear=true∧s.asked=false∧s.out.length≤400000000):=Lib.hid ⟨⟨_,uQ.out.1,uQ.out.2 _ _ HC.out⟩,HCL.out,HAS.out,HO.out⟩
    obtain⟨wt,hwt⟩: ∃wt,w1=wt:=⟨_,rfl⟩
    subst hwt
    have HBT:=Lib.hid (mX uQ.out.1.below HT.out.1.below uQ.out.1.FY HB1.out.1 HB1.out.2)
    have Rl:=Lib.hid (lG (k:=k) (p:=pos) (n:=4) (i:=2) (c:=c1-2) (A:=A1.map (·.add 2)) (w:=w1) (by have h:=HBT.out.cutFrom (k:=2) (c:=c1) (by have:=CJ.out;simp;omega) (by have:=ZI.out;have:=CJ.out;simp;omega);rw[if_neg hc12]at h;exact h) (by have:=CJ.out;omega) (by decide))
    obtain⟨t,ht⟩: ∃t,dI k.B (pos+2)=t:=⟨_,rfl⟩
    rw[ht]at Rl HR
    have htl:t<65536:=by rw[←ht];exact nN _ _
    obtain⟨n,hn⟩: ∃n,t+1=n:=⟨_,rfl⟩
    rw[hn]at HR
    have hti:(t:Int)+1=(n:Int):=by omega
    have hni:(n:Int)≤65536:=by omega
    have EG:=Lib.hid (show n≤65536 by omega)
    clear ht htl hn
    go_wp2_with fail
    refine Rl.out.mono ?_
    rintro e w5 ⟨rfl,hb5⟩
    have ZM:=Lib.hid (HT.out.1.of_below hb5)
    clear hb5
    by_cases h3:k.B.length<pos+4+n
    ·have rP:=Lib.hid (kW ZM.out n (by have:=EG.out;omega) h3)
     have Aq:=Lib.hid (HR.out.trans (show dA k.B n _ k.dict (pos+4) s= .bad 2 by unfold dA;exact if_pos h3))
     clear h3
     go_wp2_with fail
     refine rP.out.mono ?_
     rintro e w6 ⟨rfl,rfl⟩
     go_wp2_with fail
     go_ret
     rw[Aq.out]
     exact⟨rfl,ZM.out.below⟩
    ·have rP:=Lib.hid (mF ZM.out n (by have:=EG.out;omega) (by omega))
     have Aq:=Lib.hid (HR.out.trans (show dA k.B n _ k.dict (pos+4) s=fC ((k.B.drop (pos+4)).take n) _ k.dict (pos+4+n) s by unfold dA;exact if_neg h3))
     have H3:=Lib.hid h3
     clear h3
     go_wp2_with fail
     refine rP.out.mono ?_
     rintro e w6 ⟨A6,c6,rfl,hc6,Fg,ZN⟩
     have MG:=Lib.hid (lG (k:=k) (p:=pos) (n:=4) (i:=0) (c:=c1) (A:=A1) (w:=w6) (mX uQ.out.1.below ZN.below uQ.out.1.FY HB1.out.1 HB1.out.2) (by have:=CJ.out;omega) (by decide))
     have HU6:=Lib.hid (And.intro ZN (And.intro Fg hc6))
     obtain⟨u,hu⟩: ∃u,dI k.B (pos+0)=u:=⟨_,rfl⟩
     rw[hu]at MG
     rw[Nat.add_zero]at hu
     rw[hu]at Aq
     have hul:u<65536:=by rw[←hu];exact nN _ _
     obtain⟨z,hz⟩: ∃z,65536*(c%32)+u+1=z:=⟨_,rfl⟩
     rw[hz]at Aq
     have hz1:((c:Int)%32)*65536+(u:Int)+1=(z:Int):=by omega
     have hz2:wrap64 (((c:Int)%32)*65536)=((c:Int)%32)*65536:=by unfold wrap64;omega
     have hz3:IntKind.u8.wrap ((c:Int).tmod 32)=(c:Int)%32:=by rw[Int.tmod_eq_emod_of_nonneg (by omega),IntKind.wrap_u8];omega
     have hzb:z≤4000000:=by omega
     have hui:(u:Int)<65536:=by omega
     have hzi:(z:Int)≤4000000:=by omega
     have HZ:=Lib.hid hzb
     clear ZN Fg hc6 hu hul hz hzb
     go_wp2_with fail
     refine MG.out.mono ?_
     rintro e w7 ⟨rfl,hb7⟩
     have HU7:=Lib.hid (HU6.out.1.of_below hb7)
     have vJ:=Lib.hid (HU6.out.2.1.1.below hb7)
     clear hb7
     have hl7:((k.B.drop (pos+4)).take n).length=n:=by have:=H3.out;simp;omega
     have hdec:=decode_any (pos:=pos+4+n) (s:=s) HU7.out HT.out.2.1 HT.out.2.2.1 HT.out.2.2.2 A6 ((k.B.drop (pos+4)).take n) c6 vJ.out (by have:=EG.out;omega) z HZ.out HD.out.1 HD.out.2
     rw[hl7]at hdec
     have ZO:=Lib.hid hdec
     clear hdec hl7
     go_wp2_with fail
     refine ZO.out.mono ?_
     intro e w8 hd8
     obtain⟨m,rfl,hd8⟩:=hd8.ret
     have P8:=Lib.hid hd8
     clear hd8
     go_wp2_with fail
     go_ret
     rw[Aq.out]
     exact P8.out
   ·have hperm:lS (s.lc:Nat) (s.lp:Nat) (s.pb:Nat)=true:=by
     obtain⟨_,_,_,_,_,hp,_⟩:=hC hcl has
     exact hp
    have HR:=Lib.hid (FZ.trans (show _=dA k.B (dI k.B (pos+2)+1) (65536*(c%32)+dI k.B pos+1) k.dict (pos+4) (aP s) by rw[hpr,show(yN.go (pos+4) s).then (gV c)=gV c (pos+4) s from rfl,show gV c (pos+4) s= .go (pos+4) (aP s) by unfold gV;rw[if_neg F5,if_neg (by rw[hperm];decide)]];rfl))
    have ajA:decide ((160:Int)≤(c:Int))=true:=decide_eq_true (by omega)
    obtain⟨LC,hLC⟩: ∃n,s.lc=n:=⟨_,rfl⟩
    obtain⟨LP,hLP⟩: ∃n,s.lp=n:=⟨_,rfl⟩
    obtain⟨PB,hPB⟩: ∃n,s.pb=n:=⟨_,rfl⟩
    have hp':=of_decide_eq_true hperm
    have qg:=Lib.hid (And.intro (show LC≤4∧LP≤4∧PB≤4∧LC+LP≤4 by omega) hperm)
    have xA:=Lib.hid (And.intro hLC (And.intro hLP hPB))
    clear hU hC ho hd1 hd2 hcl hca h1 FZ hpr has zL F5 hc1 hc2 hperm hp' hLC hLP hPB
    go_enter Tryz.func152,Tryz.ntmps152
    go_wp2_with fail
    refine HN.out.mono ?_
    rintro e w1 ⟨A1,c1,rfl,hc1,hB1,yI,Fe⟩
    have HB1:=Lib.hid hB1
    have uQ:=Lib.hid (And.intro yI Fe)
    have UZ:(4:Int)≤(c1:Int):=by omega
    have hc12: ¬c1=2:=by omega
    have ZI:=Lib.hid hc1
    clear hB1 yI Fe hc1
    have Nl:=Lib.hid uQ.out.1
    obtain⟨v,⟨_,_,_,_,_,r5,r6,r7,_⟩,_,_⟩:=Nl.out.cells
    rw[xA.out.1]at r5
    rw[xA.out.2.1]at r6
    rw[xA.out.2.2]at r7
    obtain⟨v0,hrow,_⟩:=Nl.out.row
    have hRl:k.R<w1.heap.size:=(Array.getElem?_eq_some_iff.1 hrow).1
    have DJ:=Lib.hid (fun W=>uJ LC LP PB W (by have:=qg.out.1;omega) (by have:=qg.out.1;omega) (by have:=qg.out.1;omega) (by have:=qg.out.1;omega))
    have hS0:w1.drew.cell? ⟨k.R,5,none⟩=some (.int .i64 (LC:Nat))∧w1.drew.cell? ⟨k.R,6,none⟩=some (.int .i64 (LP:Nat))∧w1.drew.cell? ⟨k.R,7,none⟩=some (.int .i64 (PB:Nat)):=⟨r5,r6,r7⟩
    clear hrow
    go_upto_region 9 with fail
    refine wp_region_held_drew (S:=fun W=>W.cell? ⟨k.R,5,none⟩=some (.int .i64 (LC:Nat))∧W.cell? ⟨k.R,6,none⟩=some (.int .i64 (LP:Nat))∧W.cell? ⟨k.R,7,none⟩=some (.int .i64 (PB:Nat))) (by kernel_rfl) hS0 (fun hS=> ?_)
    refine tq 0 hS ?_
    refine tq 1 hS ?_
    refine tq 2 hS ?_
    refine tp 3 rfl (fun w hSw=>by obtain⟨q5,q6,q7⟩:=hSw;go_simp;all_goals(with_reducible rfl)) hS ?_
    refine tq 4 hS ?_
    refine tq 5 hS ?_
    refine tq 6 hS ?_
    refine tp 7 rfl (fun w hSw=>by obtain⟨q5,q6,q7⟩:=hSw;go_simp;all_goals(with_reducible rfl)) hS ?_
    refine tq 8 hS ?_
    refine tq 9 hS ?_
    refine tq 10 hS ?_
    refine tp 11 rfl (fun w hSw=>by obtain⟨q5,q6,q7⟩:=hSw;go_simp;all_goals(with_reducible rfl)) hS ?_
    refine tr 12 (fun K hK=> ?_)
    go_simp
    refine(DJ.out _).mono ?_
    rintro e x12 ⟨C,Lb,rfl,ZP,uY,ZQ,ZR⟩
    have g12:x12.cell? ⟨k.R,5,none⟩=some (.int .i64 (LC:Nat))∧x12.cell? ⟨k.R,6,none⟩=some (.int .i64 (LP:Nat))∧x12.cell? ⟨k.R,7,none⟩=some (.int .i64 (PB:Nat)):=⟨(uY.cell (p:=⟨k.R,5,none⟩) hRl).trans r5,(uY.cell (p:=⟨k.R,6,none⟩) hRl).trans r6,(uY.cell (p:=⟨k.R,7,none⟩) hRl).trans r7⟩
    have ZT:=Lib.hid (And.intro ZP (And.intro uY (And.intro ZQ ZR)))
    clear ZP uY ZQ ZR
    go_wp2_with fail
    refine hK.out _ _ g12 (fun _=> ?_)
    clear hK K
    refine tq 13 g12 ?_
    refine tq 14 g12 ?_
    refine tq 15 g12 ?_
    refine tq 16 g12 ?_
    refine tq 17 g12 ?_
    refine wpAnyH_done (by kernel_rfl) ?_ _
    clear hS hS0 hRl DJ r5 r6 r7
    have uq:=Nl.out.of_below ((Below.refl _ _).drew.trans (show Below w1.heap.size w1.drew x12 from ZT.out.2.1))
    obtain⟨_,⟨_,_,_,_,_,_,_,_,r8⟩,_,hfr⟩:=uq.cells
    have f8:=hfr 8
    have hput:=uq.put 8 (PF C) (s':=aP s) (cv':=PF C) (fun _=>rfl) rfl uq.nums.2.2.2.2
    have EC:mg k.base (x12.setCell ⟨k.R,8,none⟩ (PF C)) (PF C) (aP s):=by
     obtain⟨v0,hrow,_⟩:=uq.row
     have hb:=Nat.le_trans Nl.out.FY Nl.out.below.size
     have h1:=ZT.out.2.2.1
     have h2:=ZT.out.2.2.2
     have hc0:mg k.base x12 (PF C) (aP s):=fun _ _=>⟨C,Lb,rfl,⟨Nat.le_trans hb h1,Nat.le_trans hb h2⟩,by show bg _ C Lb s.lc s.lp s.pb 0 (1,1,1,1) (fun _=>1024);rw[xA.out.1,xA.out.2.1,xA.out.2.2];exact ZT.out.1,qg.out.2,(by decide:(0:Nat)<12),Zu⟩
     exact hc0.set (p:=⟨k.R,8,none⟩) hrow (by decide) (by decide) _
    obtain⟨wt,hwt⟩: ∃W,x12.setCell ⟨k.R,8,none⟩ (PF C)=W:=⟨_,rfl⟩
    rw[hwt]at hput EC
    have HWT:=Lib.hid hwt
    have HT:Hid (Uk k wt (pos+4) (aP s)∧(aP s).clear=true∧(aP s).asked=false∧(aP s).out.length≤400000000):=Lib.hid ⟨⟨_,hput,EC⟩,HCL.out,HAS.out,HO.out⟩
    clear uq hfr hput EC hwt Nl ZT
    go_upto_region 13 with fail
    rw[HWT.out]
    clear HWT f8 r8
    have HBT:=Lib.hid (mX uQ.out.1.below HT.out.1.below uQ.out.1.FY HB1.out.1 HB1.out.2)
    have Rl:=Lib.hid (lG (k:=k) (p:=pos) (n:=4) (i:=2) (c:=c1-2) (A:=A1.map (·.add 2)) (w:=wt) (by have h:=HBT.out.cutFrom (k:=2) (c:=c1) (by have:=CJ.out;simp;omega) (by have:=ZI.out;have:=CJ.out;simp;omega);rw[if_neg hc12]at h;exact h) (by have:=CJ.out;omega) (by decide))
    obtain⟨t,ht⟩: ∃t,dI k.B (pos+2)=t:=⟨_,rfl⟩
    rw[ht]at Rl HR
    have htl:t<65536:=by rw[←ht];exact nN _ _
    obtain⟨n,hn⟩: ∃n,t+1=n:=⟨_,rfl⟩
    rw[hn]at HR
    have hti:(t:Int)+1=(n:Int):=by omega
    have hni:(n:Int)≤65536:=by omega
    have EG:=Lib.hid (show n≤65536 by omega)
    clear ht htl hn
    go_wp2_with fail
    refine Rl.out.mono ?_
    rintro e w5 ⟨rfl,hb5⟩
    have ZM:=Lib.hid (HT.out.1.of_below hb5)
    clear hb5
    by_cases h3:k.B.length<pos+4+n
    ·have rP:=Lib.hid (kW ZM.out n (by have:=EG.out;omega) h3)
     have Aq:=Lib.hid (HR.out.trans (show dA k.B n _ k.dict (pos+4) (aP s)= .bad 2 by unfold dA;exact if_pos h3))
     clear h3
     go_wp2_with fail
     refine rP.out.mono ?_
     rintro e w6 ⟨rfl,rfl⟩
     go_wp2_with fail
     go_ret
     rw[Aq.out]
     exact⟨rfl,ZM.out.below⟩
    ·have rP:=Lib.hid (mF ZM.out n (by have:=EG.out;omega) (by omega))
     have Aq:=Lib.hid (HR.out.trans (show dA k.B n _ k.dict (pos+4) (aP s)=fC ((k.B.drop (pos+4)).take n) _ k.dict (pos+4+n) (aP s) by unfold dA;exact if_neg h3))
     have H3:=Lib.hid h3
     clear h3
     go_wp2_with fail
     refine rP.out.mono ?_
     rintro e w6 ⟨A6,c6,rfl,hc6,Fg,ZN⟩
     have MG:=Lib.hid (lG (k:=k) (p:=pos) (n:=4) (i:=0) (c:=c1) (A:=A1) (w:=w6) (mX uQ.out.1.below ZN.below uQ.out.1.FY HB1.out.1 HB1.out.2) (by have:=CJ.out;omega) (by decide))
     have HU6:=Lib.hid (And.intro ZN (And.intro Fg hc6))
     obtain⟨u,hu⟩: ∃u,dI k.B (pos+0)=u:=⟨_,rfl⟩
     rw[hu]at MG
     rw[Nat.add_zero]at hu
     rw[hu]at Aq
     have hul:u<65536:=by rw[←hu];exact nN _ _
     obtain⟨z,hz⟩: ∃z,65536*(c%32)+u+1=z:=⟨_,rfl⟩
     rw[hz]at Aq
     have hz1:((c:Int)%32)*65536+(u:Int)+1=(z:Int):=by omega
     have hz2:wrap64 (((c:Int)%32)*65536)=((c:Int)%32)*65536:=by unfold wrap64;omega
     have hz3:IntKind.u8.wrap ((c:Int).tmod 32)=(c:Int)%32:=by rw[Int.tmod_eq_emod_of_nonneg (by omega),IntKind.wrap_u8];omega
     have hzb:z≤4000000:=by omega
     have hui:(u:Int)<65536:=by omega
     have hzi:(z:Int)≤4000000:=by omega
     have HZ:=Lib.hid hzb
     clear ZN Fg hc6 hu hul hz hzb
     go_wp2_with fail
     refine MG.out.mono ?_
     rintro e w7 ⟨rfl,hb7⟩
     have HU7:=Lib.hid (HU6.out.1.of_below hb7)
     have vJ:=Lib.hid (HU6.out.2.1.1.below hb7)
     clear hb7
     have hl7:((k.B.drop (pos+4)).take n).length=n:=by have:=H3.out;simp;omega
     have hdec:=decode_any (pos:=pos+4+n) (s:=(aP s)) HU7.out HT.out.2.1 HT.out.2.2.1 HT.out.2.2.2 A6 ((k.B.drop (pos+4)).take n) c6 vJ.out (by have:=EG.out;omega) z HZ.out HD.out.1 HD.out.2
     rw[hl7]at hdec
     have ZO:=Lib.hid hdec
     clear hdec hl7
     go_wp2_with fail
     refine ZO.out.mono ?_
     intro e w8 hd8
     obtain⟨m,rfl,hd8⟩:=hd8.ret
     have P8:=Lib.hid hd8
     clear hd8
     go_wp2_with fail
     go_ret
     rw[Aq.out]
     exact P8.out
  ·have anS:decide ((192:Int)≤(c:Int))=true:=decide_eq_true (by omega)
   have ajA:decide ((160:Int)≤(c:Int))=true:=decide_eq_true (by omega)
   have F5: ¬c<160:=by omega
   by_cases h5:k.B.length<pos+4+1
   ·have HR:=Lib.hid (FZ.trans (show _=yN.bad 2 by rw[show fG c k.B (pos+4) s= .bad 2 by unfold fG;rw[if_neg zL,if_pos h5]];rfl))
    have HPO:=Lib.hid (show mD k.B (pos+4) s= .bad 2 by unfold mD;exact if_pos h5)
    clear hU hC ho hd1 hd2 hcl hca h1 FZ zL F5 hc1 hc2 h5
    go_enter Tryz.func152,Tryz.ntmps152
    go_wp2_with fail
    refine HN.out.mono ?_
    rintro e w1 ⟨A1,c1,rfl,hc1,hB1,yI,Fe⟩
    have HB1:=Lib.hid hB1
    have uQ:=Lib.hid (And.intro yI Fe)
    have UZ:(4:Int)≤(c1:Int):=by omega
    have hc12: ¬c1=2:=by omega
    have ZI:=Lib.hid hc1
    clear hB1 yI Fe hc1
    have HPR:=Lib.hid (uo uQ.out.1)
    rw[HPO.out]at HPR
    go_wp2_with fail
    refine HPR.out.mono ?_
    rintro e w2 ⟨rfl,hb2⟩
    go_wp2_with fail
    go_ret
    rw[HR.out]
    exact⟨rfl,hb2⟩
   ·obtain⟨s1,hs1⟩: ∃s1:jy,{s with lc:=(k.B.getD (pos+4) 0).toNat%9,lp:=(k.B.getD (pos+4) 0).toNat/9%5,pb:=(k.B.getD (pos+4) 0).toNat/45,asked:=false}=s1:=⟨_,rfl⟩
    have hpr:fG c k.B (pos+4) s= .go (pos+4+1) s1:=by rw[←hs1];unfold fG;rw[if_neg zL,if_neg h5]
    have HPO:=Lib.hid (show mD k.B (pos+4) s= .go (pos+4+1) s1 by rw[←hs1];unfold mD;exact if_neg h5)
    have yM:=Lib.hid (show s1.clear=s.clear∧s1.asked=false∧s1.out=s.out by rw[←hs1];exact⟨rfl,rfl,rfl⟩)
    have anT:=Lib.hid (yM.out.1.trans hcl)
    obtain⟨LC,hLC⟩: ∃n,s1.lc=n:=⟨_,rfl⟩
    obtain⟨LP,hLP⟩: ∃n,s1.lp=n:=⟨_,rfl⟩
    obtain⟨PB,hPB⟩: ∃n,s1.pb=n:=⟨_,rfl⟩
    have xA:=Lib.hid (And.intro hLC (And.intro hLP hPB))
    cases hperm:lS (s1.lc:Nat) (s1.lp:Nat) (s1.pb:Nat)with
    | false=>
     have HR:=Lib.hid (FZ.trans (show _=yN.bad 6 by rw[hpr,show(yN.go (pos+4+1) s1).then (gV c)=gV c (pos+4+1) s1 from rfl,show gV c (pos+4+1) s1= .bad 6 by unfold gV;rw[if_neg F5,if_pos hperm]];rfl))
     rw[hLC,hLP,hPB]at hperm
     have qg:=Lib.hid hperm
     clear hU hC ho hd1 hd2 hcl hca h1 FZ zL F5 hc1 hc2 h5 hs1 hpr hLC hLP hPB hperm
     go_enter Tryz.func152,Tryz.ntmps152
     go_wp2_with fail
     refine HN.out.mono ?_
     rintro e w1 ⟨A1,c1,rfl,hc1,hB1,yI,Fe⟩
     have HB1:=Lib.hid hB1
     have uQ:=Lib.hid (And.intro yI Fe)
     have UZ:(4:Int)≤(c1:Int):=by omega
     have hc12: ¬c1=2:=by omega
     have ZI:=Lib.hid hc1
     clear hB1 yI Fe hc1
     have HPR:=Lib.hid (uo uQ.out.1)
     rw[HPO.out]at HPR
     go_wp2_with fail
     refine HPR.out.mono ?_
     rintro e w2 ⟨rfl,ZU⟩
     have Nl:=Lib.hid ZU
     clear ZU
     obtain⟨v,⟨_,_,_,_,_,r5,r6,r7,_⟩,_,_⟩:=Nl.out.cells
     rw[xA.out.1]at r5
     rw[xA.out.2.1]at r6
     rw[xA.out.2.2]at r7
     have DJ:=Lib.hid (fun W=>Kv (LC:Nat) (LP:Nat) (PB:Nat) W qg.out)
     have hS0:w2.drew.cell? ⟨k.R,5,none⟩=some (.int .i64 (LC:Nat))∧w2.drew.cell? ⟨k.R,6,none⟩=some (.int .i64 (LP:Nat))∧w2.drew.cell? ⟨k.R,7,none⟩=some (.int .i64 (PB:Nat)):=⟨r5,r6,r7⟩
     go_upto_region 9 with fail
     refine wp_region_held_drew (S:=fun W=>W.cell? ⟨k.R,5,none⟩=some (.int .i64 (LC:Nat))∧W.cell? ⟨k.R,6,none⟩=some (.int .i64 (LP:Nat))∧W.cell? ⟨k.R,7,none⟩=some (.int .i64 (PB:Nat))) (by kernel_rfl) hS0 (fun hS=> ?_)
     refine tq 0 hS ?_
     refine tq 1 hS ?_
     refine tq 2 hS ?_
     refine tp 3 rfl (fun w hSw=>by obtain⟨q5,q6,q7⟩:=hSw;go_simp;all_goals(with_reducible rfl)) hS ?_
     refine tq 4 hS ?_
     refine tq 5 hS ?_
     refine tq 6 hS ?_
     refine tp 7 rfl (fun w hSw=>by obtain⟨q5,q6,q7⟩:=hSw;go_simp;all_goals(with_reducible rfl)) hS ?_
     refine tq 8 hS ?_
     refine tq 9 hS ?_
     refine tq 10 hS ?_
     refine tp 11 rfl (fun w hSw=>by obtain⟨q5,q6,q7⟩:=hSw;go_simp;all_goals(with_reducible rfl)) hS ?_
     refine tr 12 (fun K hK=> ?_)
     go_simp
     refine(DJ.out _).mono ?_
     rintro e x12 ⟨rfl,e12⟩
     subst e12
     have g12:=hS
     go_wp2_with fail
     refine hK.out _ _ g12 (fun _=> ?_)
     clear hK K
     refine tq 13 g12 ?_
     refine tq 14 g12 ?_
     refine tq 15 g12 ?_
     refine tq 16 g12 ?_
     refine tq 17 g12 ?_
     refine wpAnyH_done (by kernel_rfl) ?_ _
     go_wp2_with fail
     go_ret
     rw[HR.out]
     exact⟨rfl,(Nl.out.of_below (aK _)).below⟩
    | true=>
     have HR:=Lib.hid (FZ.trans (show _=dA k.B (dI k.B (pos+2)+1) (65536*(c%32)+dI k.B pos+1) k.dict (pos+4+1) (aP s1) by rw[hpr,show(yN.go (pos+4+1) s1).then (gV c)=gV c (pos+4+1) s1 from rfl,show gV c (pos+4+1) s1= .go (pos+4+1) (aP s1) by unfold gV;rw[if_neg F5,if_neg (by rw[hperm];decide)]];rfl))
     have hp':=of_decide_eq_true hperm
     have qg:=Lib.hid (And.intro (show LC≤4∧LP≤4∧PB≤4∧LC+LP≤4 by omega) hperm)
     clear hU hC ho hd1 hd2 hcl hca h1 FZ zL F5 hc1 hc2 h5 hs1 hpr hLC hLP hPB hperm hp'
     go_enter Tryz.func152,Tryz.ntmps152
     go_wp2_with fail
     refine HN.out.mono ?_
     rintro e w1 ⟨A1,c1,rfl,hc1,hB1,yI,Fe⟩
     have HB1:=Lib.hid hB1
     have uQ:=Lib.hid (And.intro yI Fe)
     have UZ:(4:Int)≤(c1:Int):=by omega
     have hc12: ¬c1=2:=by omega
     have ZI:=Lib.hid hc1
     clear hB1 yI Fe hc1
     have HPR:=Lib.hid (uo uQ.out.1)
     rw[HPO.out]at HPR
     go_wp2_with fail
     refine HPR.out.mono ?_
     rintro e w2 ⟨rfl,ZU⟩
     have Nl:=Lib.hid ZU
     clear ZU
     obtain⟨v,⟨_,_,_,_,_,r5,r6,r7,_⟩,_,_⟩:=Nl.out.cells
     rw[xA.out.1]at r5
     rw[xA.out.2.1]at r6
     rw[xA.out.2.2]at r7
     obtain⟨v0,hrow,_⟩:=Nl.out.row
     have hRl:k.R<w2.heap.size:=(Array.getElem?_eq_some_iff.1 hrow).1
     have DJ:=Lib.hid (fun W=>uJ LC LP PB W (by have:=qg.out.1;omega) (by have:=qg.out.1;omega) (by have:=qg.out.1;omega) (by have:=qg.out.1;omega))
     have hS0:w2.drew.cell? ⟨k.R,5,none⟩=some (.int .i64 (LC:Nat))∧w2.drew.cell? ⟨k.R,6,none⟩=some (.int .i64 (LP:Nat))∧w2.drew.cell? ⟨k.R,7,none⟩=some (.int .i64 (PB:Nat)):=⟨r5,r6,r7⟩
     clear hrow
     go_upto_region 9 with fail
     refine wp_region_held_drew (S:=fun W=>W.cell? ⟨k.R,5,none⟩=some (.int .i64 (LC:Nat))∧W.cell? ⟨k.R,6,none⟩=some (.int .i64 (LP:Nat))∧W.cell? ⟨k.R,7,none⟩=some (.int .i64 (PB:Nat))) (by kernel_rfl) hS0 (fun hS=> ?_)
     refine tq 0 hS ?_
     refine tq 1 hS ?_
     refine tq 2 hS ?_
     refine tp 3 rfl (fun w hSw=>by obtain⟨q5,q6,q7⟩:=hSw;go_simp;all_goals(with_reducible rfl)) hS ?_
     refine tq 4 hS ?_
     refine tq 5 hS ?_
     refine tq 6 hS ?_
     refine tp 7 rfl (fun w hSw=>by obtain⟨q5,q6,q7⟩:=hSw;go_simp;all_goals(with_reducible rfl)) hS ?_
     refine tq 8 hS ?_
     refine tq 9 hS ?_
     refine tq 10 hS ?_
     refine tp 11 rfl (fun w hSw=>by obtain⟨q5,q6,q7⟩:=hSw;go_simp;all_goals(with_reducible rfl)) hS ?_
     refine tr 12 (fun K hK=> ?_)
     go_simp
     refine(DJ.out _).mono ?_
     rintro e x12 ⟨C,Lb,rfl,ZP,uY,ZQ,ZR⟩
     have g12:x12.cell? ⟨k.R,5,none⟩=some (.int .i64 (LC:Nat))∧x12.cell? ⟨k.R,6,none⟩=some (.int .i64 (LP:Nat))∧x12.cell? ⟨k.R,7,none⟩=some (.int .i64 (PB:Nat)):=⟨(uY.cell (p:=⟨k.R,5,none⟩) hRl).trans r5,(uY.cell (p:=⟨k.R,6,none⟩) hRl).trans r6,(uY.cell (p:=⟨k.R,7,none⟩) hRl).trans r7⟩
     have ZT:=Lib.hid (And.intro ZP (And.intro uY (And.intro ZQ ZR)))
     clear ZP uY ZQ ZR
     go_wp2_with fail
     refine hK.out _ _ g12 (fun _=> ?_)
     clear hK K
     refine tq 13 g12 ?_
     refine tq 14 g12 ?_
     refine tq 15 g12 ?_
     refine tq 16 g12 ?_
     refine tq 17 g12 ?_
     refine wpAnyH_done (by kernel_rfl) ?_ _
     clear hS hS0 hRl DJ r5 r6 r7
     have uq:=Nl.out.of_below ((Below.refl _ _).drew.trans (show Below w2.heap.size w2.drew x12 from ZT.out.2.1))
     obtain⟨_,⟨_,_,_,_,_,_,_,_,r8⟩,_,hfr⟩:=uq.cells
     have f8:=hfr 8
     have hput:=uq.put 8 (PF C) (s':=aP s1) (cv':=PF C) (fun _=>rfl) rfl uq.nums.2.2.2.2
     have EC:mg k.base (x12.setCell ⟨k.R,8,none⟩ (PF C)) (PF C) (aP s1):=by
      obtain⟨v0,hrow,_⟩:=uq.row
      have hb:=Nat.le_trans Nl.out.FY Nl.out.below.size
      have h1:=ZT.out.2.2.1
      have h2:=ZT.out.2.2.2
      have hc0:mg k.base x12 (PF C) (aP s1):=fun _ _=>⟨C,Lb,rfl,⟨Nat.le_trans hb h1,Nat.le_trans hb h2⟩,by show bg _ C Lb s1.lc s1.lp s1.pb 0 (1,1,1,1) (fun _=>1024);rw[xA.out.1,xA.out.2.1,xA.out.2.2];exact ZT.out.1,qg.out.2,(by decide:(0:Nat)<12),Zu⟩
      exact hc0.set (p:=⟨k.R,8,none⟩) hrow (by decide) (by decide) _
     obtain⟨wt,hwt⟩: ∃W,x12.setCell ⟨k.R,8,none⟩ (PF C)=W:=⟨_,rfl⟩
     rw[hwt]at hput EC
     have HWT:=Lib.hid hwt
     have HT:Hid (Uk k wt (pos+4+1) (aP s1)∧(aP s1).clear=true∧(aP s1).asked=false∧(aP s1).out.length≤400000000):=Lib.hid ⟨⟨_,hput,EC⟩,anT.out,yM.out.2.1,(by show s1.out.length≤_;rw[yM.out.2.2];exact HO.out)⟩
     clear uq hfr hput EC hwt Nl ZT
     go_upto_region 13 with fail
     rw[HWT.out]
     clear HWT f8 r8
     have HBT:=Lib.hid (mX uQ.out.1.below HT.out.1.below uQ.out.1.FY HB1.out.1 HB1.out.2)
     have Rl:=Lib.hid (lG (k:=k) (p:=pos) (n:=4) (i:=2) (c:=c1-2) (A:=A1.map (·.add 2)) (w:=wt) (by have h:=HBT.out.cutFrom (k:=2) (c:=c1) (by have:=CJ.out;simp;omega) (by have:=ZI.out;have:=CJ.out;simp;omega);rw[if_neg hc12]at h;exact h) (by have:=CJ.out;omega) (by decide))
     obtain⟨t,ht⟩: ∃t,dI k.B (pos+2)=t:=⟨_,rfl⟩
     rw[ht]at Rl HR
     have htl:t<65536:=by rw[←ht];exact nN _ _
     obtain⟨n,hn⟩: ∃n,t+1=n:=⟨_,rfl⟩
     rw[hn]at HR
     have hti:(t:Int)+1=(n:Int):=by omega
     have hni:(n:Int)≤65536:=by omega
     have EG:=Lib.hid (show n≤65536 by omega)
     clear ht htl hn
     go_wp2_with fail
     refine Rl.out.mono ?_
     rintro e w5 ⟨rfl,hb5⟩
     have ZM:=Lib.hid (HT.out.1.of_below hb5)
     clear hb5
     by_cases h3:k.B.length<pos+4+1+n
     ·have rP:=Lib.hid (kW ZM.out n (by have:=EG.out;omega) h3)
      have Aq:=Lib.hid (HR.out.trans (show dA k.B n _ k.dict (pos+4+1) (aP s1)= .bad 2 by unfold dA;exact if_pos h3))
      clear h3
      go_wp2_with fail
      refine rP.out.mono ?_
      rintro e w6 ⟨rfl,rfl⟩
      go_wp2_with fail
      go_ret
      rw[Aq.out]
      exact⟨rfl,ZM.out.below⟩
     ·have rP:=Lib.hid (mF ZM.out n (by have:=EG.out;omega) (by omega))
      have Aq:=Lib.hid (HR.out.trans (show dA k.B n _ k.dict (pos+4+1) (aP s1)=fC ((k.B.drop (pos+4+1)).take n) _ k.dict (pos+4+1+n) (aP s1) by unfold dA;exact if_neg h3))
      have H3:=Lib.hid h3
      clear h3
      go_wp2_with fail
      refine rP.out.mono ?_
      rintro e w6 ⟨A6,c6,rfl,hc6,Fg,ZN⟩
      have MG:=Lib.hid (lG (k:=k) (p:=pos) (n:=4) (i:=0) (c:=c1) (A:=A1) (w:=w6) (mX uQ.out.1.below ZN.below uQ.out.1.FY HB1.out.1 HB1.out.2) (by have:=CJ.out;omega) (by decide))
      have HU6:=Lib.hid (And.intro ZN (And.intro Fg hc6))
      obtain⟨u,hu⟩: ∃u,dI k.B (pos+0)=u:=⟨_,rfl⟩
      rw[hu]at MG
      rw[Nat.add_zero]at hu
      rw[hu]at Aq
      have hul:u<65536:=by rw[←hu];exact nN _ _
      obtain⟨z,hz⟩: ∃z,65536*(c%32)+u+1=z:=⟨_,rfl⟩
      rw[hz]at Aq
      have hz1:((c:Int)%32)*65536+(u:Int)+1=(z:Int):=by omega
      have hz2:wrap64 (((c:Int)%32)*65536)=((c:Int)%32)*65536:=by unfold wrap64;omega
      have hz3:IntKind.u8.wrap ((c:Int).tmod 32)=(c:Int)%32:=by rw[Int.tmod_eq_emod_of_nonneg (by omega),IntKind.wrap_u8];omega
      have hzb:z≤4000000:=by omega
      have hui:(u:Int)<65536:=by omega
      have hzi:(z:Int)≤4000000:=by omega
      have HZ:=Lib.hid hzb
      clear ZN Fg hc6 hu hul hz hzb
      go_wp2_with fail
      refine MG.out.mono ?_
      rintro e w7 ⟨rfl,hb7⟩
      have HU7:=Lib.hid (HU6.out.1.of_below hb7)
      have vJ:=Lib.hid (HU6.out.2.1.1.below hb7)
      clear hb7
      have hl7:((k.B.drop (pos+4+1)).take n).length=n:=by have:=H3.out;simp;omega
      have hdec:=decode_any (pos:=pos+4+1+n) (s:=(aP s1)) HU7.out HT.out.2.1 HT.out.2.2.1 HT.out.2.2.2 A6 ((k.B.drop (pos+4+1)).take n) c6 vJ.out (by have:=EG.out;omega) z HZ.out HD.out.1 HD.out.2
      rw[hl7]at hdec
      have ZO:=Lib.hid hdec
      clear hdec hl7
      go_wp2_with fail
      refine ZO.out.mono ?_
      intro e w8 hd8
      obtain⟨m,rfl,hd8⟩:=hd8.ret
      have P8:=Lib.hid hd8
      clear hd8
      go_wp2_with fail
      go_ret
      rw[Aq.out]
      exact P8.out
theorem Ar{s:jy}{c:Nat}(h:s.clear=true)(h2: ¬(2<c∧c<128)): ¬(s.clear=false∨(2<c∧c<128)):=by
 rw[h]
 intro h
 rcases h with h | h
 ·cases h
 ·exact h2 h
theorem MH{k:FX}{w:World}{pos:Nat}{s:jy}(h:Uk k w pos s)(c:Nat)(hc1:1≤c)(hc2:c<256)(ho:s.out.length≤400000000)(hd1:1≤k.dict)(hd2:k.dict≤9223372036854775807):
  Calls Tryz.prog 114 #[PF k.R,.int .u8 (c:Nat),Rk k] w (um k (bI k.B k.dict c pos s)):=by
 have HD:=Lib.hid (And.intro hd1 hd2)
 have HO:=Lib.hid ho
 have H:=Lib.hid h
 by_cases hcl:c=1∨224≤c
 ·obtain⟨s1,hs1⟩: ∃s1:jy,{s with start:=s.out.length,clear:=true,asked:=true}=s1:=⟨_,rfl⟩
  have hun:bI k.B k.dict c pos s=aW k.B k.dict c pos s1:=by unfold bI unclear;rw[if_pos hcl,hs1]
  obtain⟨cv,hU,_⟩:=h
  obtain⟨v,⟨_,r1,r2,r3,r4,_,_,_,_⟩,hov,hfr⟩:=hU.cells
  obtain⟨AO,cO,rfl,hcO,hmO,hBO⟩:=hov.read
  have f2:=hfr 2
  have f3:=hfr 3
  have f4:=hfr 4
  have u1:=hU.put 2 (.int .i64 (s.out.length:Nat)) (s':={s with start:=s.out.length}) (cv':=cv) (fun _=>rfl) rfl (Nat.le_refl _)
  have u2:=u1.put 3 (.bool true) (s':={s with start:=s.out.length,clear:=true}) (cv':=cv) (fun _=>rfl) rfl (Nat.le_refl _)
  have u3:=u2.put 4 (.bool true) (s':={s with start:=s.out.length,clear:=true,asked:=true}) (cv':=cv) (fun _=>rfl) rfl (Nat.le_refl _)
  rw[hs1]at u3
  have U1:s1.asked=true∧s1.clear=true∧s1.out=s.out:=by rw[←hs1];exact⟨rfl,rfl,rfl⟩
  have hk3:Uk k (((w.setCell ⟨k.R,2,none⟩ (.int .i64 (s.out.length:Nat))).setCell ⟨k.R,3,none⟩ (.bool true)).setCell ⟨k.R,4,none⟩ (.bool true)) pos s1:=⟨cv,u3,fun _ h2=>by rw[U1.1]at h2;cases h2⟩
  obtain⟨_,⟨_,_,_,q3,q4,_,_,_,_⟩,_,_⟩:=u3.cells
  obtain⟨w3,hw3⟩: ∃W,((w.setCell ⟨k.R,2,none⟩ (.int .i64 (s.out.length:Nat))).setCell ⟨k.R,3,none⟩ (.bool true)).setCell ⟨k.R,4,none⟩ (.bool true)=W:=⟨_,rfl⟩
  rw[hw3]at hk3 q3 q4
  rw[U1.2.1]at q3
  rw[U1.1]at q4
  have HK3:=Lib.hid hk3
  have HW3:=Lib.hid hw3
  have yM:=Lib.hid U1
  have HO1:=Lib.hid (show s1.out.length≤400000000 by rw[U1.2.2];exact ho)
  have hoi:(s.out.length:Int)≤400000000:=by omega
  generalize s.out.length=n at*
  clear hU hov hcO hmO hBO u1 u2 u3 hk3 hw3 hs1 U1 ho hd1 hd2 hfr
  by_cases h1:c=1
  ·subst h1
   have HR:=Lib.hid (hun.trans (show aW k.B k.dict 1 pos s1=iP k.B pos s1 by unfold aW;rw[if_neg (Ar yM.out.2.1 (by omega)),if_pos (by omega)]))
   have HST:=Lib.hid (ED HK3.out HO1.out)
   clear hun hcl hc1 hc2
   go_enter Tryz.func114,Tryz.ntmps114
   go_upto_region 5 with fail
   rw[HW3.out]
   go_wp2_with fail
   refine HST.out.mono ?_
   intro e w8 hd8
   obtain⟨m,rfl,hd8⟩:=hd8.ret
   have P8:=Lib.hid hd8
   clear hd8
   go_wp2_with fail
   go_ret
   rw[HR.out]
   exact P8.out
  ·have anU:224≤c:=by omega
   have HR:=Lib.hid (hun.trans (show aW k.B k.dict c pos s1=jE k.B k.dict c pos s1 by unfold aW;rw[if_neg (Ar yM.out.2.1 (by omega)),if_neg (by omega),if_neg (by omega)]))
   have Lc:=Lib.hid (EF HK3.out c (by omega) hc2 yM.out.2.1 (by omega) HO1.out HD.out.1 HD.out.2)
   have i1: ¬(c:Int)=1:=by omega
   have i1b:((c:Int)==1)=false:=beq_eq_false_iff_ne.2 i1
   have i2:(224:Int)≤(c:Int):=by omega
   have i3:(c:Int)<256:=by omega
   clear hun hcl hc1 hc2 h1 anU
   go_enter Tryz.func114,Tryz.ntmps114
   go_upto_region 5 with fail
   rw[HW3.out]
   go_wp2_with fail
   refine Lc.out.mono ?_
   intro e w8 hd8
   obtain⟨m,rfl,hd8⟩:=hd8.ret
   have P8:=Lib.hid hd8
   clear hd8
   go_wp2_with fail
   go_ret
   rw[HR.out]
   exact P8.out
 ·have hun:bI k.B k.dict c pos s=aW k.B k.dict c pos s:=by unfold bI unclear;rw[if_neg hcl]
  obtain⟨cv,hU,_⟩:=h
  obtain⟨v,⟨_,_,_,r3,r4,_,_,_,_⟩,_,_⟩:=hU.cells
  have i1: ¬(c:Int)=1:=by omega
  have i1b:((c:Int)==1)=false:=beq_eq_false_iff_ne.2 i1
  have i2:(c:Int)<224:=by omega
  have i3:(1:Int)≤(c:Int):=by omega
  clear hU ho hd1 hd2
  cases hq:s.clear with
  | false=>
   have HR:=Lib.hid (hun.trans (show aW k.B k.dict c pos s= .bad 6 by unfold aW;rw[if_pos (.inl hq)]))
   rw[hq]at r3
   clear hun hcl hc1 hc2 hq
   go_enter Tryz.func114,Tryz.ntmps114
   go_wp2_with fail
   go_ret
   rw[HR.out]
   exact⟨rfl,H.out.below⟩
  | true=>
   rw[hq]at r3
   have HQ:=Lib.hid hq
   by_cases hmid:2<c∧c<128
   ·have HR:=Lib.hid (hun.trans (show aW k.B k.dict c pos s= .bad 6 by unfold aW;rw[if_pos (.inr hmid)]))
    have i4:(2:Int)<(c:Int):=by omega
    have i5:(c:Int)<128:=by omega
    clear hun hcl hc1 hc2 hq hmid
    go_enter Tryz.func114,Tryz.ntmps114
    go_wp2_with fail
    go_ret
    rw[HR.out]
    exact⟨rfl,H.out.below⟩
   ·have Nb: ¬(s.clear=false∨(2<c∧c<128)):=Ar hq hmid
    by_cases hst:c≤2
    ·have hc:c=2:=by omega
     subst hc
     have HR:=Lib.hid (hun.trans (show aW k.B k.dict 2 pos s=iP k.B pos s by unfold aW;rw[if_neg Nb,if_pos hst]))
     have HST:=Lib.hid (ED H.out HO.out)
     clear hun hcl hc1 hc2 hq hmid Nb hst i1 i1b i2 i3
     go_enter Tryz.func114,Tryz.ntmps114
     go_wp2_with fail
     refine HST.out.mono ?_
     intro e w8 hd8
     obtain⟨m,rfl,hd8⟩:=hd8.ret
     have P8:=Lib.hid hd8
     clear hd8
     go_wp2_with fail
     go_ret
     rw[HR.out]
     exact P8.out
    ·have i4:(128:Int)≤(c:Int):=by omega
     by_cases hask:c<192∧s.asked=true
     ·have HR:=Lib.hid (hun.trans (show aW k.B k.dict c pos s= .bad 6 by unfold aW;rw[if_neg Nb,if_neg hst,if_pos hask]))
      have i5:(c:Int)<192:=by omega
      rw[hask.2]at r4
      clear hun hcl hc1 hc2 hq hmid Nb hst hask
      go_enter Tryz.func114,Tryz.ntmps114
      go_wp2_with fail
      go_ret
      rw[HR.out]
      exact⟨rfl,H.out.below⟩
     ·have HR:=Lib.hid (hun.trans (show aW k.B k.dict c pos s=jE k.B k.dict c pos s by unfold aW;rw[if_neg Nb,if_neg hst,if_neg hask]))
      have Lc:=Lib.hid (EF H.out c (by omega) hc2 HQ.out hask HO.out HD.out.1 HD.out.2)
      have hb:decide ((c:Int)<192)=true→s.asked=false:=fun h=>by
       have zL:c<192:=by have:=of_decide_eq_true h;omega
       cases hx:s.asked with
       | false=>rfl
       | true=>exact absurd ⟨zL,hx⟩ hask
      by_cases zL:(c:Int)<192
      ·have ha:=hb (decide_eq_true zL)
       rw[ha]at r4
       clear hun hcl hc1 hc2 hq hmid Nb hst hask hb
       go_enter Tryz.func114,Tryz.ntmps114
       go_wp2_with fail
       refine Lc.out.mono ?_
       intro e w8 hd8
       obtain⟨m,rfl,hd8⟩:=hd8.ret
       have P8:=Lib.hid hd8
       clear hd8
       go_wp2_with fail
       go_ret
       rw[HR.out]
       exact P8.out
      ·clear hun hcl hc1 hc2 hq hmid Nb hst hask hb
       go_enter Tryz.func114,Tryz.ntmps114
       go_wp2_with fail
       refine Lc.out.mono ?_
       intro e w8 hd8
       obtain⟨m,rfl,hd8⟩:=hd8.ret
       have P8:=Lib.hid hd8
       clear hd8
       go_wp2_with fail
       go_ret
       rw[HR.out]
       exact P8.out
end Go.Proofs.YtgfpocdiojifoaaGreatDoor
