import Derived.Test.YtgfpocdiojifoaaGreatDoorZ48
import Derived.Deep.RegionHeld3
import Derived.Deep.CutBlock
import Derived.Deep.DeepCutAuto
namespace Go.Proofs.YtgfpocdiojifoaaGreatDoor
set_option maxRecDepth 100000
set_option maxHeartbeats 8000000
open Go.RowKit
theorem Qv(A:Option Addr)(D:List UInt8)(c:Nat)(o:Op)(A2:Option Addr)(E:List UInt8)(c2:Nat)(w:World)(hB:Bytes w A D∧ ∀a,A=some a→a.block<w.heap.size)(hc:D.length≤c)(hm:c≤9223372036854775807)(hF:gJ w o.A o.l)(hfo: ∀f∈o.l,f.ok)(hlc:o.l.length≤o.c)(hcm:o.c≤9223372036854775807)(hdi:o.dict<4294967296)(hB2:Bytes w A2 E∧ ∀a,A2=some a→a.block<w.heap.size)(hc2:E.length≤c2)(hm2:c2≤9223372036854775807)(hT:Tabs w):
  Calls Tryz.prog 4 #[.slice A D.length c,o.v,.slice A2 E.length c2] w (Holds w):=by
 obtain⟨W,hW⟩: ∃W,w.alloc (.cells #[.int .i64 o.lc,.int .i64 o.lp,.int .i64 o.pb,.int .i64 o.nice,.int .i64 o.chunk,.int .i64 o.block,.int .i64 o.check,o.ch,.int .u32 (o.dict:Nat)] 26)=W:=⟨_,rfl⟩
 obtain⟨hrow,hbW⟩:=gY (vs:=qB o.lc o.lp o.pb o.nice o.chunk o.block o.check o.ch o.dict) hW
 have HC:=Lib.hid (fun(W':World) (h:Below W.heap.size W W')=>oH (((h.block _ (Array.getElem?_eq_some_iff.1 hrow).1).trans hrow)))
 obtain⟨k0,k1,k2,k3,k4,k5,k6,k7,k8⟩:=HC.out W (Below.refl _ _)
 have HKN:=Lib.hid (fun(W':World) (h:Below W.heap.size W W')=>MZ W' ((hT.below hbW).below h))
 have HTA:=Lib.hid (fun(W':World) (h:Below W.heap.size W W')=>(hT.below hbW).below h)
 have HW:=Lib.hid hW
 have fV:=Lib.hid hbW
 have HB:=Lib.hid (And.intro hB (And.intro hc hm))
 have HB2:=Lib.hid (And.intro hB2 (And.intro hc2 hm2))
 have Fh:=Lib.hid (And.intro hF (And.intro hlc (And.intro hcm hdi)))
 have Nj:(D.length:Int)≤9223372036854775807:=by omega
 have agj:(E.length:Int)≤9223372036854775807:=by omega
 have aor:(o.l.length:Int)≤9223372036854775807:=by omega
 clear hrow hW hbW hB hB2 hc hm hc2 hm2 hF hlc hcm hdi hT
 by_cases hbig:(300:Int)<(D.length:Int)
 ·go_enter Tryz.func4,Tryz.ntmps4
  go_upto_region 1 with fail
  rw[HW.out]
  go_wp2_with fail
  refine(HKN.out W (Below.refl W.heap.size W)).mono ?_
  rintro e wk ⟨rfl,hbk⟩
  have EU:=Lib.hid (fV.out.trans ((((Below.refl W.heap.size W)).trans (hbk.mono ((Below.refl W.heap.size W)).size)).mono fV.out.size))
  clear hbk
  go_wp2_with fail
  go_ret
  exact⟨rfl,EU.out⟩
 by_cases akd:(20:Int)<(o.l.length:Int)
 ·go_enter Tryz.func4,Tryz.ntmps4
  go_upto_region 1 with fail
  rw[HW.out]
  go_wp2_with fail
  refine(HKN.out W (Below.refl W.heap.size W)).mono ?_
  rintro e wk ⟨rfl,hbk⟩
  have EU:=Lib.hid (fV.out.trans ((((Below.refl W.heap.size W)).trans (hbk.mono ((Below.refl W.heap.size W)).size)).mono fV.out.size))
  clear hbk
  go_wp2_with fail
  go_ret
  exact⟨rfl,EU.out⟩
 by_cases hbig2:(50:Int)<(E.length:Int)
 ·go_enter Tryz.func4,Tryz.ntmps4
  go_upto_region 1 with fail
  rw[HW.out]
  go_wp2_with fail
  refine(HKN.out W (Below.refl W.heap.size W)).mono ?_
  rintro e wk ⟨rfl,hbk⟩
  have EU:=Lib.hid (fV.out.trans ((((Below.refl W.heap.size W)).trans (hbk.mono ((Below.refl W.heap.size W)).size)).mono fV.out.size))
  clear hbk
  go_wp2_with fail
  go_ret
  exact⟨rfl,EU.out⟩
 have HIN:=Lib.hid (show L6 W o from⟨Fh.out.1.below fV.out,Fh.out.2.1,Fh.out.2.2.1,Fh.out.2.2.2,by omega⟩)
 have Aq:=Lib.hid (Na o W HIN.out)
 cases hf:o.fine with
 | false=>
  rw[hf]at Aq
  clear hf
  go_enter Tryz.func4,Tryz.ntmps4
  go_upto_region 1 with fail
  rw[HW.out]
  go_wp2_with fail
  refine Aq.out.mono ?_
  rintro e w1 ⟨rfl,hb1⟩
  have HB1:=Lib.hid hb1
  clear hb1
  go_wp2_with fail
  refine(HKN.out w1 HB1.out).mono ?_
  rintro e wk ⟨rfl,hbk⟩
  have EU:=Lib.hid (fV.out.trans (((HB1.out).trans (hbk.mono (HB1.out).size)).mono fV.out.size))
  clear hbk
  go_wp2_with fail
  go_ret
  exact⟨rfl,EU.out⟩
 | true=>
  have hok:=Op.Ok.of hf
  have hD3:D.length≤300:=by omega
  have hE5:E.length≤50:=by omega
  obtain⟨Q,hQ⟩: ∃Q,(D.length+o.chunk.toNat-1)/o.chunk.toNat=Q:=⟨_,rfl⟩
  obtain⟨z1,z2,z3⟩:=o.aal hok D (by omega) hfo hQ.symm
  have hp3:=hok.chunk
  have hQs:Q≤300:=by
   rw[←hQ]
   refine Nat.le_trans (Nat.div_le_div_right (Nat.le_of_eq (show D.length+o.chunk.toNat-1=D.length+(o.chunk.toNat-1) by omega))) ?_
   rw[Nat.div_le_iff_le_mul_add_pred (by omega)]
   have:1*300≤o.chunk.toNat*300:=Nat.mul_le_mul_right _ (by omega)
   omega
  have hq1:((D.length:Int)+o.chunk-1)/o.chunk=(Q:Int):=by rw[←hQ,Int.natCast_ediv];congr 1<;>omega
  have Lc:=Lib.hid (fun(W':World) (h:Below W.heap.size W W')=>EP o A D c W' hf (HIN.out.below h) hfo (HTA.out W' h) ((HB.out.1.1.below fV.out).below h) HB.out.2.1 HB.out.2.2 (by omega))
  have QH:=Lib.hid (fun(W':World) (h:Below W.heap.size W W') (A3:Option Addr) (B3:List UInt8) (c3 mem:Nat) (r:List UInt8×Nat×(Nat×Nat)×Nat) (hr:Qr B3 o.check mem r) (hB3:Bytes W' A3 B3) (hA3: ∀a,A3=some a→a.block<W'.heap.size) (hc3:B3.length≤c3) (hm3:c3≤9223372036854775807) (hl3:B3.length≤1000000) (hme:mem<18446744073709551616)=>ER A3 B3 c3 o.check mem W' r hr hok.check (HTA.out W' h) hB3 hA3 hc3 hm3 hl3 hme)
  have hdd:=qh o.dict hok.dict.2
  have HG:=Lib.hid (RF hok D (by omega) hfo E 100663296 (by omega))
  have HCU:=Lib.hid (agq hok D (by omega) hfo 100663296 (by omega))
  have HME:=Lib.hid (aah hok D (by omega) hfo E (o.dict-1) (by have:=hok.dict;omega))
  obtain⟨PB,hPB⟩: ∃L,o.blk D=L:=⟨_,rfl⟩
  rw[hPB]at Lc HG HCU HME z1 z2 z3
  obtain⟨x,y,hrc⟩: ∃x y,o.rc D=(x,y):=⟨_,_,rfl⟩
  rw[hrc]at Lc HG
  rw[hf]at Aq
  have Hw:=Lib.hid (And.intro z1 (And.intro z2 (And.intro z3 (And.intro hQs (And.intro hD3 hE5)))))
  have Kr:=Lib.hid (And.intro hp3 (And.intro hok.dict hq1))
  clear hf hok hD3 hE5 hQ z1 z2 z3 hp3 hQs hq1 hdd hPB hrc hfo
  go_enter Tryz.func4,Tryz.ntmps4
  go_upto_region 1 with fail
  rw[HW.out]
  go_wp2_with fail
  refine Aq.out.mono ?_
  rintro e w1 ⟨rfl,hb1⟩
  have HB1:=Lib.hid hb1
  clear hb1 k0 k1 k2 k3 k4 k5 k6 k7 k8
  obtain⟨k0,k1,k2,k3,k4,k5,k6,k7,k8⟩:=HC.out w1 HB1.out
  go_wp2_with fail
  refine(Lc.out w1 HB1.out).mono ?_
  rintro e w2 ⟨g,cg,rfl,hcg,hmg,⟨_,hg⟩,hFr,hb2⟩
  have ake:=Lib.hid (HB1.out.trans (hb2.mono HB1.out.size))
  have H2:=Lib.hid (And.intro (hFr.bytes hg) (And.intro hg (And.intro hcg hmg)))
  clear hcg hmg hg hFr hb2 k0 k1 k2 k3 k4 k5 k6 k7 k8
  go_upto_region 4 with fail
  obtain⟨w3,hw3⟩: ∃W',w2.alloc (.cells #[.int .i64 (x:Nat),.int .i64 (y:Nat)] 29)=W':=⟨_,rfl⟩
  obtain⟨hr3,hb3⟩:=gY (vs:=[.int .i64 (x:Nat),.int .i64 (y:Nat)]) hw3
  rw[hw3]
  have H3:=Lib.hid (And.intro hr3 (H2.out.1.below hb3))
  have HB3:=Lib.hid (ake.out.trans (hb3.mono ake.out.size))
  have HGL:=Lib.hid (Nat.lt_of_lt_of_le H2.out.2.1 hb3.size)
  have HG3:Hid (Below w3.heap.size w3 (w3.alloc (.cells #[] 5))):=Lib.hid ((Below.refl _ _).alloc (Nat.le_refl _) _)
  clear hw3 hr3 hb3
  go_upto_region 5 with(first
   | (at_builtin;refine ay rfl (.tmp 51) (.tmp 52) rfl w3.heap.size (w3.alloc (.cells #[] 5)) (.slice (some ⟨w3.heap.size,0,none⟩) 0 0) [] rfl (Gq w3) (some ⟨g,0,none⟩) PB cg rfl (H3.out.2.below HG3.out) (by have:=Hw.out.1;have:=Hw.out.2.2.2.1;have:=Hw.out.2.2.2.2.1;simp;omega) HG3.out.size ?_;intro v4 w4 fE hg4;have H4:=Lib.hid (And.intro (show Own w3.heap.size w4 v4 PB from fE) (below_grown HG3.out hg4 HG3.out.size (fun g e=>((Gq w3).aF g e).1)));clear fE hg4)
   | (at_builtin;refine ay rfl (.tmp 53) (.tmp 54) rfl w3.heap.size w4 v4 PB rfl H4.out.1 A2 E c2 rfl (HB2.out.1.1.below (fV.out.trans ((HB3.out.trans (H4.out.2.mono HB3.out.size)).mono fV.out.size))) (by have:=Hw.out.1;have:=Hw.out.2.2.2;omega) H4.out.2.size ?_;intro v5 w5 qj hg5;have H5:=Lib.hid (And.intro qj (below_grown H4.out.2 hg5 H4.out.2.size (fun g e=>(H4.out.1.aF g e).1)));clear qj hg5))
  obtain⟨A5,c5,rfl,hc5,hm5,PE⟩:=H5.out.1.read
  have hA5: ∀a,A5=some a→a.block<w5.heap.size:=fun a ha=>(H5.out.1.aF a.block (by rw[ha];rfl)).2
  have zk:=Lib.hid (HB3.out.trans (H5.out.2.mono HB3.out.size))
  have hal:(PB++E).length≤1500:=by have:=Hw.out;rw[List.length_append];omega
  have HR1:=Lib.hid (fun(W':World) (h:Below w5.heap.size w5 W') (mem:Nat) (r:List UInt8×Nat×(Nat×Nat)×Nat) (hr:Qr (PB++E) o.check mem r) (hme:mem<18446744073709551616)=>QH.out W' (zk.out.trans (h.mono zk.out.size)) A5 (PB++E) c5 mem r hr (PE.below h) (fun a ha=>Nat.lt_of_lt_of_le (hA5 a ha) h.size) hc5 hm5 (by omega) hme)
  obtain⟨al,hal2⟩: ∃n,(PB++E).length=n:=⟨_,rfl⟩
  rw[hal2]at HR1 ⊢
  have HG1:=Lib.hid (HR1.out w5 (Below.refl _ _) 100663296 _ HG.out (by decide))
  obtain⟨k0,k1,k2,k3,k4,k5,k6,k7,k8⟩:=HC.out w5 zk.out
  clear PE hA5 hc5 hm5 hal hal2
  go_wp2_with fail
  refine HG1.out.mono ?_
  rintro e w6 ⟨A6,c6,rfl,⟨hc6,_⟩,Fg,hb6⟩
  have Gv:=Lib.hid hb6
  have aos:=Lib.hid Fg
  clear hc6 Fg hb6 k0 k1 k2 k3 k4 k5 k6 k7 k8
  go_upto_region 6 with fail
  obtain⟨w7,hw7⟩: ∃W',w6.alloc (.cells #[.int .i64 (x:Nat),.int .i64 (y:Nat)] 29)=W':=⟨_,rfl⟩
  obtain⟨Z9,hb7⟩:=gY (vs:=[.int .i64 (x:Nat),.int .i64 (y:Nat)]) hw7
  rw[hw7]
  have Qs:=Lib.hid (Gv.out.trans (hb7.mono Gv.out.size))
  have aaj:=Lib.hid (H5.out.2.trans (Qs.out.mono H5.out.2.size))
  have vJ:=Lib.hid (zk.out.trans (Qs.out.mono zk.out.size))
  obtain⟨x0,x1,_⟩:=lV ((aaj.out.block _ (Array.getElem?_eq_some_iff.1 H3.out.1).1).trans H3.out.1)
  obtain⟨y0,y1,_⟩:=lV Z9
  have s1:=AX (aos.out.below hb7) c6
  have s2:=AX (HB.out.1.1.below (fV.out.trans (vJ.out.mono fV.out.size))) c
  clear hw7 Z9 hb7
  have hpos:9≤(PB.length:Int):=by have:=Hw.out.2.2.1;omega
  go_upto_region 8 with fail
  obtain⟨pl,hpl⟩: ∃n,PB.length-1=n:=⟨_,rfl⟩
  have akf:=Hw.out.2.2.1
  have agt:(PB.length:Int)-1=(pl:Int):=by omega
  have agu:(pl:Int)≤(cg:Int):=by have:=H2.out.2.2.1;omega
  have aam:pl≤cg:=by have:=H2.out.2.2.1;omega
  have aan:(PB.length:Int)≤1700:=by have:=Hw.out;omega
  have agv:(cg:Int)≤9223372036854775807:=by have:=H2.out.2.2.2;omega
  have hwp:IntKind.i64.wrap (pl:Int)=(pl:Int):=IntWalk.i64_in _ (by omega)
  have HR2:Hid (∀W2:World,Below w7.heap.size w7 W2→Calls Tryz.prog 11 #[.slice (some ⟨g,0,none⟩) pl cg,.int .i64 o.check,.int .u64 100663296] W2 (wU W2 ([],0,(0,0),2))):=Lib.hid (fun W2 h2=>by
   have hb:=aaj.out.trans (h2.mono aaj.out.size)
   have hl:(PB.take (PB.length-1)).length=pl:=by rw[List.length_take];omega
   have h:=QH.out W2 (vJ.out.trans (h2.mono vJ.out.size)) (some ⟨g,0,none⟩) (PB.take (PB.length-1)) cg 100663296 _ HCU.out ((H3.out.2.below hb).take _) (fun a ha=>by injection ha with ha;rw[←ha];exact Nat.lt_of_lt_of_le HGL.out hb.size) (by omega) (by omega) (by have:=Hw.out;omega) (by decide)
   rw[hl]at h
   exact h)
  have HC6:Hid (∀W2:World,Below w7.heap.size w7 W2→W2.cell? ⟨w.heap.size,6,none⟩=some (.int .i64 o.check)):=Lib.hid (fun W2 h2=>by
   obtain⟨_,_,_,_,_,_,q,_,_⟩:=HC.out W2 (vJ.out.trans (h2.mono vJ.out.size))
   exact q)
  have hdr:=aK w7
  have HNQ:=Lib.hid (And.intro agt (And.intro agu (And.intro aam (And.intro aan (And.intro agv hwp)))))
  clear hpl akf agt agu aam aan agv hwp hpos x0 x1 y0 y1 s1 s2 hbig hbig2 akd Nj agj aor
  go_cut [15,16,17,18]from 94 (fun s15 s16 s17 s18 wx=>s18= .int .i64 2∧Below w7.heap.size w7 wx)
  case first=>
   obtain⟨agt,agu,aam,aan,agv,hwp⟩:=HNQ.out
   refine wp_region_held_drew (S:=fun W=>Below w7.heap.size w7 W) (by kernel_rfl) hdr (fun hS=> ?_)
   refine tq 0 hS ?_
   refine tq 1 hS ?_
   refine tq 2 hS ?_
   refine tq 3 hS ?_
   refine tk 4 (v:= .slice (some ⟨g,0,none⟩) pl cg) ?aot hS ?_
   case aot=>
    intro w hSw
    go_simp;all_goals(with_reducible rfl)
   simp only[Act.put,List.setIfInBounds_toArray,List.set_cons_zero,List.set_cons_succ]
   refine tq 5 hS ?_
   refine tp 6 rfl (fun w hSw=>by have q:=HC6.out w hSw;go_simp;all_goals(with_reducible rfl)) hS ?_
   refine wpAnyH_ready (rs:=[7,13]) (by kernel_rfl) (by simp) ?_
   refine(AllReadyH.cons (o:={dst:=some 102,op:=Op.call {callee:=Callee.value (Operand.func 11),args:= #[Operand.tmp 99,Operand.tmp 101,Operand.const (Value.int IntKind.u64 100663296)],argTypes:= #[22,3,41]},type:=39,pos:= "law.go:77",after:= #[{on:=4,ground:=Ground.data},{on:=6,ground:=Ground.data}],guard:=none}) rfl (fun K hK=> ?_) (AllReadyH.cons (o:={dst:=some 17,op:=Op.alloc 29,type:=0,pos:= "law.go:77",after:= #[],guard:=none}) rfl (fun K hK=> ?_) AllReadyH.nil))
   ·skip
    go_simp
    refine(HR2.out _ hdr).mono ?_
    rintro e x8 ⟨A8,c8,rfl,_,_,hb8⟩
    have g8:Below w7.heap.size w7 x8:=hdr.trans hb8
    clear hb8
    go_wp2_with fail
    refine hK.out _ _ g8 (fun _=> ?_)
    clear hK K
    refine tq 8 g8 ?_
    refine tq 9 g8 ?_
    refine tq 10 g8 ?_
    refine tq 11 g8 ?_
    refine tq 12 g8 ?_
    refine tr 13 (fun K hK=> ?_)
    go_simp
    obtain⟨w9,FC⟩: ∃W',x8.alloc (.cells #[.int .i64 0,.int .i64 0] 29)=W':=⟨_,rfl⟩
    obtain⟨zr,Jy⟩:=gY (vs:=[.int .i64 0,.int .i64 0]) FC
    rw[FC]
    obtain⟨z0,z1,zf⟩:=lV zr
    have F9:=zf 0
    have Gf:=zf 1
    have g9:Below w7.heap.size w7 w9:=g8.trans (Jy.mono g8.size)
    have HRW:=Lib.hid (And.intro g9 (show w7.heap.size≤x8.heap.size from g8.size))
    clear FC Jy zf zr
    refine hK.out _ _ g9 (fun _=> ?_)
    clear hK K
    refine tq 14 g9 ?_
    refine tq 15 g9 ?_
    refine tr 16 (fun K hK=> ?_)
    go_simp
    refine hK.out _ _ (Below.setCell (p:=⟨_,1,none⟩) (Below.setCell (p:=⟨_,0,none⟩) HRW.out.1 HRW.out.2 _) HRW.out.2 _) (fun _=> ?_)
    clear hK K
    refine tq 17 (Below.setCell (p:=⟨_,1,none⟩) (Below.setCell (p:=⟨_,0,none⟩) HRW.out.1 HRW.out.2 _) HRW.out.2 _) ?_
    refine wpAnyH_done (by kernel_rfl) ?_ _
    go_wp2_with fail
    go_meet
    exact⟨rfl,by first | exact(Below.setCell (p:=⟨_,1,none⟩) (Below.setCell (p:=⟨_,0,none⟩) HRW.out.1 HRW.out.2 _) HRW.out.2 _) | exact(Below.setCell (p:=⟨_,1,none⟩) (Below.setCell (p:=⟨_,0,none⟩) HRW.out.1 HRW.out.2 _) HRW.out.2 _).drew⟩
   ·skip
    go_simp
    obtain⟨w9,FC⟩: ∃W',w7.alloc (.cells #[.int .i64 0,.int .i64 0] 29)=W':=⟨_,rfl⟩
    obtain⟨zr,Jy⟩:=gY (vs:=[.int .i64 0,.int .i64 0]) FC
    rw[FC]
    have g9:Below w7.heap.size w7 w9.drew:=Jy.drew
    clear FC Jy
    refine hK.out _ _ g9 (fun _=> ?_)
    clear hK K
    refine tr 7 (fun K hK=> ?_)
    go_simp
    refine(HR2.out _ g9).mono ?_
    rintro e x8 ⟨A8,c8,rfl,_,_,hb8⟩
    have g8:Below w7.heap.size w7 x8:=g9.trans (hb8.mono g9.size)
    obtain⟨z0,z1,zf⟩:=lV ((hb8.block _ (Array.getElem?_eq_some_iff.1 zr).1).trans zr)
    have F9:=zf 0
    have Gf:=zf 1
    have HRW:=Lib.hid (And.intro g8 (Nat.le_refl w7.heap.size))
    clear hb8 zf
    go_wp2_with fail
    refine hK.out _ _ g8 (fun _=> ?_)
    clear hK K
    refine tq 8 g8 ?_
    refine tq 9 g8 ?_
    refine tq 10 g8 ?_
    refine tq 11 g8 ?_
    refine tq 12 g8 ?_
    refine tq 14 g8 ?_
    refine tq 15 g8 ?_
    refine tr 16 (fun K hK=> ?_)
    go_simp
    refine hK.out _ _ (Below.setCell (p:=⟨_,1,none⟩) (Below.setCell (p:=⟨_,0,none⟩) HRW.out.1 HRW.out.2 _) HRW.out.2 _) (fun _=> ?_)
    clear hK K
    refine tq 17 (Below.setCell (p:=⟨_,1,none⟩) (Below.setCell (p:=⟨_,0,none⟩) HRW.out.1 HRW.out.2 _) HRW.out.2 _) ?_
    refine wpAnyH_done (by kernel_rfl) ?_ _
    go_wp2_with fail
    go_meet
    exact⟨rfl,by first | exact(Below.setCell (p:=⟨_,1,none⟩) (Below.setCell (p:=⟨_,0,none⟩) HRW.out.1 HRW.out.2 _) HRW.out.2 _) | exact(Below.setCell (p:=⟨_,1,none⟩) (Below.setCell (p:=⟨_,0,none⟩) HRW.out.1 HRW.out.2 _) HRW.out.2 _).drew⟩
  case rest=>
  obtain⟨h18,hbc⟩:=hcut
  subst h18
  have akg:=Lib.hid hbc
  clear hbc hdr
  obtain⟨dm,hdm⟩: ∃n,o.dict-1=n:=⟨_,rfl⟩
  have aou:(o.dict:Int)-1=(dm:Int):=by have:=Kr.out.2.1;omega
  have hd6:(o.dict:Int)≤67108864:=by have:=Kr.out.2.1;omega
  have aov:(dm:Int)≤67108864:=by omega
  have akh:=Lib.hid (Qs.out.trans (akg.out.mono Qs.out.size))
  have hr9:=HR1.out wc akh.out (o.dict-1) _ HME.out (by have:=Kr.out.2.1;omega)
  rw[hdm]at hr9
  have HR9:=Lib.hid hr9
  have HBC:=Lib.hid (vJ.out.trans (akg.out.mono vJ.out.size))
  obtain⟨k0,k1,k2,k3,k4,k5,k6,k7,k8⟩:=HC.out wc HBC.out
  clear hdm hr9
  go_wp2_with fail
  refine HR9.out.mono ?_
  rintro e w10 ⟨A10,c10,rfl,_,_,IV⟩
  have oN:=Lib.hid (HBC.out.trans (IV.mono HBC.out.size))
  clear IV k0 k1 k2 k3 k4 k5 k6 k7 k8 aou hd6 aov
  go_upto_region 10 with fail
  obtain⟨w11,agw⟩: ∃W',w10.alloc (.cells #[.int .i64 0,.int .i64 0] 29)=W':=⟨_,rfl⟩
  obtain⟨_,aki⟩:=gY (vs:=[.int .i64 0,.int .i64 0]) agw
  rw[agw]
  have ac6:=Lib.hid (oN.out.trans (aki.mono oN.out.size))
  obtain⟨k0,k1,k2,k3,k4,k5,k6,k7,k8⟩:=HC.out w11 ac6.out
  have hq1:=Kr.out.2.2
  have auD:=Kr.out.1
  have hq2:((D.length:Int)+o.chunk-1).tdiv o.chunk=(Q:Int):=by rw[Int.tdiv_eq_ediv_of_nonneg (by omega)];exact hq1
  have hcz:(o.chunk==0)=false:=by rw[beq_eq_false_iff_ne];omega
  have hQi:(Q:Int)≤300:=by have:=Hw.out.2.2.2.1;omega
  have hDi:(D.length:Int)≤300:=by have:=Hw.out.2.2.2.2.1;omega
  have hPi:(PB.length:Int)≤(D.length:Int)+3*(Q:Int)+128:=by have:=Hw.out.1;omega
  have hPm:(PB.length:Int)%4=0:=by have:=Hw.out.2.1;omega
  clear agw aki
  go_wp2_with fail
  refine(HKN.out w11 ac6.out).mono ?_
  rintro e wk ⟨rfl,hbk⟩
  have EU:=Lib.hid (fV.out.trans (((ac6.out).trans (hbk.mono (ac6.out).size)).mono fV.out.size))
  clear hbk
  go_wp2_with fail
  go_ret
  exact⟨rfl,EU.out⟩
end Go.Proofs.YtgfpocdiojifoaaGreatDoor
