import Derived.Test.YtgfpocdiojifoaaGreatDoorZ36
import Derived.Deep.CutBlock
namespace Go.Proofs.YtgfpocdiojifoaaGreatDoor
set_option maxRecDepth 100000
set_option maxHeartbeats 8000000
open Go.RowKit
def G8(w:World)(h:gU)(e:Ending)(w':World):Prop:=
 (jI h=true∧ ∃v,e= .returned (.tuple #[v,.int .i64 0])∧Own w.heap.size w' v (gB h)∧Below w.heap.size w w')∨
 (jI h=false∧e= .returned (.tuple #[.slice none 0 0,.int .i64 1])∧Below w.heap.size w w')
theorem UH(h:gU)(hok:h.ok)(A:Option Addr)(c:Nat)(w:World)(hF0:gJ w A h.l)(hfo: ∀f∈h.l,f.ok)(hl:h.l.length≤20):
  Calls Tryz.prog 15 #[G7 h A c] w (G8 w h):=by
 have hB0:Below w.heap.size w (w.alloc (kV h A c)):=(Below.refl _ _).alloc (Nat.le_refl _) _
 have hcs:=vO w h A c
 have HV:=Lib.hid (Py h hok A c (w.alloc (kV h A c)) (hF0.below hB0) hl)
 have hgood:=Lib.hid (uj h hok hfo)
 have HOP:=Lib.hid (show bH h=0::UInt8.ofNat (fZ h)::yE h from rfl)
 have HSE:=Lib.hid (show fZ h=h.l.length+(if h.p= -1 then 0 else 64)+(if h.q= -1 then 0 else 128)from rfl)
 have rH:=Lib.hid (show yE h=kQ h.p++kQ h.q++fM (h.l++[bQ h.d])from rfl)
 have HBH:=Lib.hid (show jC h=(nJ (bH h)).set 0 (UInt8.ofNat ((nJ (bH h)).length/4))from rfl)
 have HPH:=Lib.hid (show gB h=jC h++uf (jC h)from rfl)
 have hsz0:w.heap.size<(w.alloc (kV h A c)).heap.size:=by simp
 obtain⟨p,q,l,d⟩:=h
 obtain⟨o1,o2,o3,o4,o5⟩: -9223372036854775808≤p∧p≤9223372036854775807∧ -9223372036854775808≤q∧q≤9223372036854775807∧d<4294967296:=hok
 simp only[kV,G7]at HV hcs hB0 hsz0 HSE rH hgood
 have HCS:=Lib.hid hcs
 have HB0:=Lib.hid hB0
 clear hcs hB0
 cases hv:jI ⟨p,q,l,d⟩with
 | false=>
  rw[hv]at HV
  go_enter Tryz.func15,Tryz.ntmps15
  go_wp2_with fail
  refine HV.out.mono ?_
  rintro e w1 ⟨rfl,hb1⟩
  go_wp2_with fail
  go_ret2
  exact .inr ⟨hv,rfl,HB0.out.trans (hb1.mono HB0.out.size)⟩
 | true=>
  rw[hv]at HV
  obtain⟨g1,g2,g3,g4⟩:=hgood.out hv
  have HG:Hid (∀f∈l++[bQ d],vS f):=Lib.hid g1
  have g2:l.length≤3:=g2
  have g3:p= -1∨1≤p:=g3
  have g4:q= -1∨0≤q:=g4
  have Fb:(l.length:Int)≤3:=by omega
  clear g1
  go_enter Tryz.func15,Tryz.ntmps15
  go_wp2_with fail
  refine HV.out.mono ?_
  rintro e w1 ⟨rfl,hb1⟩
  have HB1:Hid (Below w.heap.size w w1):=Lib.hid (HB0.out.trans (hb1.mono HB0.out.size))
  have HK:=Lib.hid (fun(wx:World) (hb:Below w1.heap.size w1 wx)=>
   (show wx.cell? ⟨w.heap.size,0,none⟩=some (.int .i64 p)∧wx.cell? ⟨w.heap.size,1,none⟩=some (.int .i64 q)∧wx.cell? ⟨w.heap.size,2,none⟩=some (.slice A l.length c)∧wx.cell? ⟨w.heap.size,3,none⟩=some (.int .u32 (d:Nat))from
    have lt0:=hsz0
    have lt1:w.heap.size<w1.heap.size:=Nat.lt_of_lt_of_le hsz0 hb1.size
    have up:=fun i=>(hb.cell (p:=⟨w.heap.size,i,none⟩) lt1).trans (hb1.cell (p:=⟨w.heap.size,i,none⟩) lt0)
    ⟨(up 0).trans HCS.out.1,(up 1).trans HCS.out.2.1,(up 2).trans HCS.out.2.2.1,(up 3).trans HCS.out.2.2.2⟩))
  obtain⟨_,_,k2,_⟩:=HK.out w1 (Below.refl _ _)
  have ane:Hid (w.heap.size<w1.heap.size):=Lib.hid (Nat.lt_of_lt_of_le hsz0 hb1.size)
  clear hb1 hsz0
  have hw8:IntKind.u8.wrap (l.length:Int)=(l.length:Int):=by rw[IntKind.wrap_u8];omega
  have hX0:Box (w1.heap.size+1) ((w1.alloc (.cells #[.int .u8 0,.int .u8 (l.length:Int)] 5)).alloc (.cells #[.slice (some ⟨w1.heap.size,0,none⟩) 2 2] 22)) (.slice (some ⟨w1.heap.size,0,none⟩) 2 2):=by
   have h:=heap_alloc_last (w1.alloc (.cells #[.int .u8 0,.int .u8 (l.length:Int)] 5)) (.cells #[.slice (some ⟨w1.heap.size,0,none⟩) 2 2] 22)
   rw[World.size_alloc]at h
   exact h
  have hln:((UInt8.ofNat l.length).toNat:Int)=(l.length:Int):=by rw[UInt8.toNat_ofNat'];omega
  have hO0:Own w1.heap.size ((w1.alloc (.cells #[.int .u8 0,.int .u8 (l.length:Int)] 5)).alloc (.cells #[.slice (some ⟨w1.heap.size,0,none⟩) 2 2] 22)) (.slice (some ⟨w1.heap.size,0,none⟩) 2 2) [0,UInt8.ofNat l.length]:=by
   have h:=(Own.lit w1 [0,UInt8.ofNat l.length] (Nat.le_refl _) (by simp)).alloc (.cells #[.slice (some ⟨w1.heap.size,0,none⟩) 2 2] 22)
   rw[←hln];exact h
  have hW0:Below w1.heap.size w1 ((w1.alloc (.cells #[.int .u8 0,.int .u8 (l.length:Int)] 5)).alloc (.cells #[.slice (some ⟨w1.heap.size,0,none⟩) 2 2] 22)):=((Below.refl _ _).alloc (Nat.le_refl _) _).alloc (by simp) _
  have HOI:Hid (Jf (w1.heap.size+1) w1.heap.size w1 [0,UInt8.ofNat l.length] ((w1.alloc (.cells #[.int .u8 0,.int .u8 (l.length:Int)] 5)).alloc (.cells #[.slice (some ⟨w1.heap.size,0,none⟩) 2 2] 22))):=Lib.hid ⟨_,hX0,hO0,hW0⟩
  obtain⟨j0,_,_,_⟩:=HK.out _ hW0
  clear hX0 hO0 hW0 hln
  go_upto_region 5 with fail
  generalize(w1.alloc (.cells #[.int .u8 0,.int .u8 (l.length:Int)] 5)).alloc (.cells #[.slice (some ⟨w1.heap.size,0,none⟩) 2 2] 22)=w2 at*
  go_upto_if 22 with fail
  go_cut []from 11 (fun wx=>Jf (w1.heap.size+1) w1.heap.size w1 (0::UInt8.ofNat (l.length+(if p= -1 then 0 else 64))::kQ p) wx)
  case first=>
   by_cases hp:p= -1
   ·subst hp
    go_wp2_with fail
    go_meet
    exact HOI.out
   ·have hp1:1≤p:=by omega
    have hpo:Hid (kQ p=Vl.put 9 p.toNat):=Lib.hid (by unfold kQ;rw[if_neg hp])
    have hpi:Hid ((if p= -1 then 0 else 64)=(64:Nat)):=Lib.hid (by rw[if_neg hp])
    obtain⟨m,rfl⟩:=Int.eq_ofNat_of_zero_le (show 0≤p by omega)
    obtain⟨g,cc,hx,ho,hb,hg,hgb,hc1,hf1,_,hcc,hcm,_⟩:=HOI.out.opened
    obtain⟨s,hs⟩: ∃s,l.length+64=s:=⟨_,rfl⟩
    have hor:bits .or .u8 (l.length:Int) 64=(s:Int):=by rw[anc l.length g2,hs]
    have hst:=Es hx ho hb hg hgb s (by omega)
    have HN:=Lib.hid (Bl (w1.heap.size+1) w1.heap.size _ _ m _ hst.1 hst.2.1 (by omega) (by omega) (by simp))
    obtain⟨j0',_,_,_⟩:=HK.out _ hst.2.2
    have hxc:=hx.cell
    rw[show((UInt8.ofNat l.length).toNat:Int)=(l.length:Int) by rw[UInt8.toNat_ofNat'];omega]at hc1
    have HST:=Lib.hid hst.2.2
    have HS:=Lib.hid hs
    have anf:(2:Int)≤(cc:Int):=by omega
    clear hst hx ho hs hp hg hb
    go_wp2_with fail
    refine HN.out.mono ?_
    rintro e w3 ⟨v3,rfl,hx3,ho3,hb3,_,_⟩
    go_wp2_with fail
    go_meet
    refine⟨v3,hx3,?_,HST.out.trans hb3⟩
    rw[hpi.out,hpo.out,HS.out]
    exact ho3
  case rest=>
  obtain⟨s1,hs1⟩: ∃s1,l.length+(if p= -1 then 0 else 64)=s1:=⟨_,rfl⟩
  have ai3:s1=l.length∨s1=l.length+64:=by rw[←hs1];split<;>simp
  rw[hs1]at hcut
  have yM:=Lib.hid hs1
  have UJ:=Lib.hid hcut
  obtain⟨_,_,_,hbc⟩:=hcut
  obtain⟨_,j1,_,_⟩:=HK.out _ hbc
  clear hbc hs1 HOI j0
  go_upto_if 35 with fail
  go_cut []from 11 (fun wx=>Jf (w1.heap.size+1) w1.heap.size w1 (0::UInt8.ofNat (s1+(if q= -1 then 0 else 128))::(kQ p++kQ q)) wx)
  case first=>
   by_cases hq:q= -1
   ·subst hq
    have ho:kQ (-1)=[]:=rfl
    go_wp2_with fail
    go_meet
    rw[ho,List.append_nil]
    exact UJ.out
   ·have hpo:Hid (kQ q=Vl.put 9 q.toNat):=Lib.hid (by unfold kQ;rw[if_neg hq])
    have hpi:Hid ((if q= -1 then 0 else 128)=(128:Nat)):=Lib.hid (by rw[if_neg hq])
    obtain⟨m,rfl⟩:=Int.eq_ofNat_of_zero_le (show 0≤q by omega)
    obtain⟨g,cc,hx,ho,hb,hg,hgb,hc1,hf1,_,hcc,hcm,_⟩:=UJ.out.opened
    obtain⟨s,hs⟩: ∃s,s1+128=s:=⟨_,rfl⟩
    have hor:bits .or .u8 (s1:Int) 128=(s:Int):=by
     rcases ai3 with e | e
     ·rw[←hs,e];exact(Q5 l.length g2).1
     ·rw[←hs,e];exact(Q5 l.length g2).2
    have hst:=Es hx ho hb hg hgb s (by omega)
    have HN:=Lib.hid (Bl (w1.heap.size+1) w1.heap.size _ _ m _ hst.1 hst.2.1 (by omega) (by omega) (by have:=iW p;simp;omega))
    obtain⟨_,j1',_,_⟩:=HK.out _ hst.2.2
    have hxc:=hx.cell
    rw[show((UInt8.ofNat s1).toNat:Int)=(s1:Int) by rw[UInt8.toNat_ofNat'];omega]at hc1
    obtain⟨NN,hNN⟩: ∃NN,(kQ p).length+2=NN:=⟨_,rfl⟩
    rw[hNN]at hxc hcc
    have hN1:(1:Int)<(NN:Int):=by omega
    have hNc:(NN:Int)≤(cc:Int):=by omega
    have HST:=Lib.hid hst.2.2
    have HS:=Lib.hid hs
    clear hst hx ho hs hq hg hb hNN hcc ai3
    go_wp2_with fail
    refine HN.out.mono ?_
    rintro e w3 ⟨v3,rfl,hx3,ho3,hb3,_,_⟩
    go_wp2_with fail
    go_meet
    refine⟨v3,hx3,?_,HST.out.trans hb3⟩
    rw[hpi.out,hpo.out,HS.out]
    exact ho3
  case rest=>
  clear UJ j1
  have acN:Hid (0::UInt8.ofNat (s1+(if q= -1 then 0 else 128))::(kQ p++kQ q)++fM (l++[bQ d])=bH ⟨p,q,l,d⟩):=Lib.hid (by
   rw[HOP.out,HSE.out,rH.out,←yM.out];rfl)
  have hpl:(0::UInt8.ofNat (s1+(if q= -1 then 0 else 128))::(kQ p++kQ q):List UInt8).length≤30:=by
   have h1:=iW p
   have h2:=iW q
   simp only[List.length_cons,List.length_append];omega
  generalize(0::UInt8.ofNat (s1+(if q= -1 then 0 else 128))::(kQ p++kQ q):List UInt8)=pre at*
  have UJ:=Lib.hid hcut
  obtain⟨v0,hx0,ho0,hbc⟩:=hcut
  obtain⟨_,_,_,j3⟩:=HK.out _ hbc
  have hFl:=(hF0.below HB1.out).below hbc
  have hFa:=hFl.below ((Below.refl wc.heap.size wc).alloc (Nat.le_refl _) (.cells #[.int .i64 33,.int .u32 (d:Nat)] 84))
  have hba:Below w1.heap.size w1 (wc.alloc (.cells #[.int .i64 33,.int .u32 (d:Nat)] 84)):=hbc.alloc hbc.size _
  have hlast:(wc.alloc (.cells #[.int .i64 33,.int .u32 (d:Nat)] 84)).cell? ⟨wc.heap.size,0,none⟩=some (.int .i64 33)∧(wc.alloc (.cells #[.int .i64 33,.int .u32 (d:Nat)] 84)).cell? ⟨wc.heap.size,1,none⟩=some (.int .u32 (d:Nat)):=⟨by simp,by simp⟩
  have hbx:wc.heap.size<(wc.alloc (.cells #[.int .i64 33,.int .u32 (d:Nat)] 84)).heap.size:=by simp
  have hxa:=hx0.below ((Below.refl wc.heap.size wc).alloc (Nat.le_refl _) (.cells #[.int .i64 33,.int .u32 (d:Nat)] 84))
  have hoa:=ho0.alloc (.cells #[.int .i64 33,.int .u32 (d:Nat)] 84)
  go_upto_region 12 with fail
  generalize wc.alloc (.cells #[.int .i64 33,.int .u32 (d:Nat)] 84)=wa at*
  go_cut [54,55,56]from 57 (fun s54 s55 s56 wx=>s56= .int .i64 0∧s55= .int .i64 ((l.length:Int)+1)∧gK w1.heap.size wx s54 (l++[bQ d])∧Jf (w1.heap.size+1) w1.heap.size w1 pre wx)
  case first=>
   have HH:=Lib.hid (fun(w':World) (hb:Below wa.heap.size wa w')=>(hb.cell (p:=⟨w.heap.size,2,none⟩) (Nat.lt_of_lt_of_le ane.out hba.size)).trans (HK.out wa hba).2.2.1)
   have xA:=Lib.hid (fun(w':World) (hb:Below wa.heap.size wa w')=>(show w'.cell? ⟨wc.heap.size,0,none⟩=some (.int .i64 33)∧w'.cell? ⟨wc.heap.size,1,none⟩=some (.int .u32 (d:Nat))from⟨(hb.cell (p:=⟨wc.heap.size,0,none⟩) hbx).trans hlast.1,(hb.cell (p:=⟨wc.heap.size,1,none⟩) hbx).trans hlast.2⟩))
   have hdr:Below wa.heap.size wa wa.drew:=kN wa
   have hOL:bK.ok (bQ d):=⟨by show(-9223372036854775808:Int)≤33;omega,by show(33:Int)≤9223372036854775807;omega,o5⟩
   have ai4: ∀f∈([]++l)++[bQ d],f.ok:=fun f hf=>(HG.out f (by simpa using hf)).1
   have ai5:(([]++l)++[bQ d]).length=l.length+1:=by simp
   have vX:=Lib.hid (fun(A7:Option Addr) (c7:Nat) (wx:World) (h1:gK wa.heap.size wx (.slice A7 (([]++l)++[bQ d]).length c7) (([]++l)++[bQ d])) (h2:Below wa.heap.size wa wx)=>(show gK w1.heap.size wx (.slice A7 (l.length+1) c7) (l++[bQ d])∧Jf (w1.heap.size+1) w1.heap.size w1 pre wx from⟨(by rw[ai5]at h1;exact h1.weaken hba.size),v0,hxa.below h2,hoa.below h2,hba.trans (h2.mono hba.size)⟩))
   clear ai5
   have CG:Hid (([]:List bK).length+l.length≤1000000∧([]++l:List bK).length+[bQ d].length≤1000000):=Lib.hid (by simp;omega)
   refine wp_region_held_drew (S:=fun w'=>Below wa.heap.size wa w') (by kernel_rfl) hdr (fun hS=> ?_)
   refine tq 0 hS ?_
   refine tp 1 rfl (fun w hSw=>by have j:=HH.out w hSw;go_simp;all_goals(with_reducible rfl)) hS ?_
   refine tp 3 rfl (fun w hSw=>by obtain⟨j,jj⟩:=xA.out w hSw;go_simp;all_goals(with_reducible rfl)) hS ?_
   refine tq 7 hS ?_
   refine wpAnyH_ready (rs:=[2,4]) (by kernel_rfl) (by simp) ?_
   refine(AllReadyH.cons (o:={dst:=some 51,op:=Op.call {callee:=Callee.builtin Builtin.append,args:= #[Operand.const (Value.slice none 0 0),Operand.tmp 50],argTypes:= #[23,23]},type:=23,pos:= "header.go:49",after:= #[{on:=1,ground:=Ground.data}],guard:=none}) rfl (fun K hK=> ?_) (AllReadyH.cons (o:={dst:=some 53,op:=Op.buildSlice 23 1 #[(0,Operand.tmp 52)],type:=23,pos:= "header.go:49",after:= #[{on:=3,ground:=Ground.data}],guard:=none}) rfl (fun K hK=> ?_) AllReadyH.nil))
   ·skip
    refine ji rfl (.const (.slice none 0 0)) (.tmp 50) rfl wa.heap.size wa.drew (.slice none 0 0) [] rfl (gK.nil _ _) A l c rfl (hFa.below hdr) CG.out.1 hdr.size ?_
    intro v5 w5 qj hg5
    have g5:Below wa.heap.size wa w5:=below_grown hdr hg5 hdr.size (fun g e=>by cases e)
    simp only[Act.put,List.setIfInBounds_toArray,List.set_cons_zero,List.set_cons_succ]
    refine hK.out _ _ g5 (fun _=> ?_)
    clear hK K
    refine tr 4 (fun K hK=> ?_)
    go_simp
    have g6:Below wa.heap.size wa (w5.alloc (.cells #[.int .i64 33,.int .u32 (d:Nat)] 84)):=g5.alloc g5.size _
    refine hK.out _ _ g6 (fun _=> ?_)
    clear hK K
    refine tr 5 (fun K hK=> ?_)
    refine ji rfl (.tmp 51) (.tmp 53) rfl wa.heap.size (w5.alloc (.cells #[.int .i64 33,.int .u32 (d:Nat)] 84)) v5 ([]++l) rfl (qj.alloc _) (some ⟨w5.heap.size,0,none⟩) [bQ d] 1 rfl (Eo w5 (bQ d) hOL) CG.out.2 g6.size ?_
    intro v7 w7 Bd VD
    have g7:Below wa.heap.size wa w7:=below_grown g6 VD g6.size (fun g e=>(qj.lt g e).1)
    obtain⟨A7,c7,rfl,_,_,_⟩:=Bd.read ai4
    have HX:=Lib.hid (vX.out A7 c7 w7 Bd g7)
    simp only[Act.put,List.setIfInBounds_toArray,List.set_cons_zero,List.set_cons_succ]
    refine hK.out _ _ g7 (fun _=> ?_)
    clear hK K
    refine tr 6 (fun K hK=> ?_)
    go_simp
    refine hK.out _ _ g7 (fun _=> ?_)
    clear hK K
    refine wpAnyH_done (by kernel_rfl) ?_ _
    go_wp2_with fail
    go_meet
    exact⟨rfl,rfl,HX.out.1,HX.out.2⟩
   ·skip
    go_simp
    have g5:Below wa.heap.size wa (wa.drew.alloc (.cells #[.int .i64 33,.int .u32 (d:Nat)] 84)):=hdr.alloc hdr.size _
    have hf5:=Eo wa.drew (bQ d) hOL
    refine hK.out _ _ g5 (fun _=> ?_)
    clear hK K
    refine tr 2 (fun K hK=> ?_)
    refine ji rfl (.const (.slice none 0 0)) (.tmp 50) rfl wa.heap.size (wa.drew.alloc (.cells #[.int .i64 33,.int .u32 (d:Nat)] 84)) (.slice none 0 0) [] rfl (gK.nil _ _) A l c rfl (hFa.below g5) CG.out.1 g5.size ?_
    intro v5 w5 qj hg5
    have g6:Below wa.heap.size wa w5:=below_grown g5 hg5 g5.size (fun g e=>by cases e)
    have hf6:=hf5.below (below_grown (Below.refl _ _) hg5 (Nat.le_refl _) (fun g e=>by cases e))
    simp only[Act.put,List.setIfInBounds_toArray,List.set_cons_zero,List.set_cons_succ]
    refine hK.out _ _ g6 (fun _=> ?_)
    clear hK K
    refine tr 5 (fun K hK=> ?_)
    refine ji rfl (.tmp 51) (.tmp 53) rfl wa.heap.size w5 v5 ([]++l) rfl qj (some ⟨wa.drew.heap.size,0,none⟩) [bQ d] 1 rfl hf6 CG.out.2 g6.size ?_
    intro v7 w7 Bd VD
    have g7:Below wa.heap.size wa w7:=below_grown g6 VD g6.size (fun g e=>(qj.lt g e).1)
    obtain⟨A7,c7,rfl,_,_,_⟩:=Bd.read ai4
    have HX:=Lib.hid (vX.out A7 c7 w7 Bd g7)
    simp only[Act.put,List.setIfInBounds_toArray,List.set_cons_zero,List.set_cons_succ]
    refine hK.out _ _ g7 (fun _=> ?_)
    clear hK K
    refine tr 6 (fun K hK=> ?_)
    go_simp
    refine hK.out _ _ g7 (fun _=> ?_)
    clear hK K
    refine wpAnyH_done (by kernel_rfl) ?_ _
    go_wp2_with fail
    go_meet
    exact⟨rfl,rfl,HX.out.1,HX.out.2⟩
  case rest=>
  obtain⟨rfl,rfl,Bd,hoi⟩:=hcut
  have ai6:=Lib.hid (fun f hf=>(HG.out f hf).1)
  have hl7:(l++[bQ d]).length≤4:=by simp;omega
  have ai7:=qN (l++[bQ d]) HG.out
  obtain⟨A7,c7,rfl,hc7,hm7,_⟩:=Bd.read ai6.out
  clear hlast hbx hxa hoa hFa hFl hba hx0 ho0 hbc j3 UJ
  have hn7:(l++[bQ d]).length=l.length+1:=by simp
  have hi7:((l.length:Int)+1)=((l++[bQ d]).length:Int):=by rw[hn7];omega
  rw[hi7]
  clear hn7 hi7
  generalize hL7:l++[bQ d]=L7 at*
  go_wp2_with fail
  go_loopw [56] (fun i wr=> ∃j:Nat,j≤L7.length∧i= .int .i64 (j:Nat)∧Hid (gK w1.heap.size wr (.slice A7 L7.length c7) L7)∧Hid (Jf (w1.heap.size+1) w1.heap.size w1 (pre++fM (L7.take j)) wr)) (fun i _=>L7.length-(intOf i).toNat)
  case atStart=>exact⟨0,by omega,rfl,Lib.hid Bd,Lib.hid (by simpa [fM]using hoi)⟩
  case round=>
   obtain⟨j,hj,rfl,HO7,HOI⟩:=hrel
   by_cases hjl:j<L7.length
   ·have hji:(j:Int)<(L7.length:Int):=by omega
    have hF7:=HO7.out.Pv ai6.out
    obtain⟨b7,as8,rfl,hb7,hat⟩:=hF7.addr (by omega)
    have hfj:=hat j hjl
    have hgj:=HG.out L7[j] (List.getElem_mem hjl)
    have hnx:fM (L7.take (j+1))=fM (L7.take j)++(Vl.put 9 L7[j].id.toNat++(Vl.put 9 (fB L7[j]).length++fB L7[j])):=by
     rw[List.take_succ_eq_append_getElem hjl,Ep];rfl
    have hft:=qN (L7.take j) (fun f hf=>HG.out f (List.mem_of_mem_take hf))
    have hk1:=hfj.c0
    have hk2:=hfj.c1
    have hCB:=Pm L7[j] hfj.ok
    generalize L7[j]=f at*
    obtain⟨id,n⟩:=f
    obtain⟨ani,afN,anj,hbl,as9⟩:=hgj
    simp only at hk1 hk2 afN anj hnx
    obtain⟨mid,rfl⟩:=Int.eq_ofNat_of_zero_le afN
    rw[hbl]at hCB
    have HCB:=Lib.hid (show ∀w',Calls Tryz.prog 46 #[.agg #[.int .i64 (mid:Int),.int .u32 (n:Nat)]] w' (zH w' (fB ⟨mid,n⟩) (.int .i64 0))from hCB)
    rw[Int.toNat_natCast]at hnx
    generalize fB ⟨mid,n⟩=PP at*
    obtain⟨v,hx,ho,hb⟩:=HOI.out
    have hV1:=(Vl.iE 9 mid).2
    have hV2:=(Vl.iE 9 PP.length).2
    have htk:(L7.take j).length≤4:=by simp;omega
    obtain⟨L0,hL0⟩: ∃L0,pre++fM (L7.take j)=L0:=⟨_,rfl⟩
    have ata:L0.length≤130:=by rw[←hL0,List.length_append];omega
    rw[hL0]at ho
    have qR:Hid (pre++fM (L7.take (j+1))=L0++Vl.put 9 mid++Vl.put 9 PP.length++PP):=Lib.hid (by rw[hnx,←hL0];simp only[List.append_assoc])
    obtain⟨ww,hww⟩: ∃ww,wr.alloc (.cells #[.int .i64 (mid:Int),.int .u32 (n:Nat)] 84)=ww:=⟨_,rfl⟩
    have Zn:Below wr.heap.size wr ww:=by rw[←hww];exact(Below.refl _ _).alloc (Nat.le_refl _) _
    have atb:ww.heap.size=wr.heap.size+1:=by rw[←hww];simp
    have hq0:ww.cell? ⟨wr.heap.size,0,none⟩=some (.int .i64 (mid:Int))∧ww.cell? ⟨wr.heap.size,1,none⟩=some (.int .u32 (n:Nat)):=by rw[←hww];exact⟨by simp,by simp⟩
    have afP:=hb.trans (Zn.mono hb.size)
    have HQ:=Lib.hid hq0
    have HWW:=Lib.hid hww
    have apL:w1.heap.size+1<wr.heap.size:=hx.lt
    clear hat hfj hnx hft hCB ani afN hbl hL0 hq0
    go_upto_region 15 with fail
    clear hww
    obtain⟨q0,q1⟩:=HQ.out
    go_wp2_with fail
    refine(HCB.out ww).mono ?_
    rintro e w3 ⟨vP,rfl,hoP,hb3⟩
    have hx3:=(hx.below Zn).below hb3
    have ho3:=(ho.below Zn).below hb3
    have ai9:Below w1.heap.size w1 w3:=afP.trans (hb3.mono afP.size)
    have Zo:=(HO7.out.below Zn).below hb3
    have hq3:w3.cell? ⟨wr.heap.size,0,none⟩=some (.int .i64 (mid:Int)):=(hb3.cell (p:=⟨wr.heap.size,0,none⟩) (by show wr.heap.size<ww.heap.size;omega)).trans HQ.out.1
    have Nz: ∀g,v.ownBlock=some g→g<wr.heap.size:=fun g e=>(ho.aF g e).2
    have aja: ∀g,vP.ownBlock=some g→wr.heap.size<g∧g<w3.heap.size:=fun g e=>by have:=hoP.aF g e;omega
    have HVL:=Lib.hid (And.intro Nz aja)
    have HN1:=Lib.hid (Bl (w1.heap.size+1) w1.heap.size v L0 mid w3 hx3 ho3 (by omega) (by omega) (by omega))
    have anl:=Lib.hid hoP
    obtain⟨AP,cP,rfl,hcP,hmP,_⟩:=hoP.read
    have atc:=ai9.size
    clear Nz aja q0 q1 afP Zn hx ho hb
    go_wp2_with fail
    refine HN1.out.mono ?_
    rintro e w4 ⟨v4,rfl,hx4,fE,hb4,hk4,hl4⟩
    have Zp: ∀g,(Value.slice AP PP.length cP).ownBlock=some g→g≠w1.heap.size+1∧v.ownBlock≠some g:=fun g e=>by
     have h1:=HVL.out.2 g e
     exact⟨by omega,fun e2=>by have:=HVL.out.1 g e2;omega⟩
    have anm:=anl.out.keep (fun g e=>hk4 g (HVL.out.2 g e).2 (Zp g e).1 (Zp g e).2)
    have Zq:=Zo.keep (fun g e=>hk4 g (Zo.lt g e).2 (Zo.Px hx3 g e) (Zo.ne ho3 g e))
    have IU:Below w1.heap.size w1 w4:=ai9.trans hb4
    have rP:=Lib.hid (Bl (w1.heap.size+1) w1.heap.size v4 _ PP.length w4 hx4 fE (by omega) (by omega) (by simp only[List.length_append];omega))
    have ano:=Lib.hid (hb4.size)
    clear hk4 HN1 hq3
    go_wp2_with fail
    refine rP.out.mono ?_
    rintro e w5 ⟨v5,rfl,hx5,qj,hb5,hk5,hl5⟩
    have hne5: ∀g,(Value.slice AP PP.length cP).ownBlock=some g→v4.ownBlock≠some g:=fun g e e2=>by
     rcases hl4 g e2 with h | h
     ·exact(Zp g e).2 h
     ·have:=(HVL.out.2 g e).2;omega
    have anp:=anm.keep (fun g e=>hk5 g (Nat.lt_of_lt_of_le (HVL.out.2 g e).2 ano.out) (Zp g e).1 (hne5 g e))
    have afQ:=Zq.keep (fun g e=>hk5 g (Zq.lt g e).2 (Zq.Px hx4 g e) (Zq.ne fE g e))
    have wE:Below w1.heap.size w1 w5:=IU.trans hb5
    obtain⟨A5,c5,e5,_,_,PE⟩:=anp.read
    obtain⟨rfl,rfl⟩:AP=A5∧cP=c5:=by injection e5 with e1 e2 e3;exact⟨e1,e3⟩
    obtain⟨L5,hL5⟩: ∃L5,L0++Vl.put 9 mid++Vl.put 9 PP.length=L5:=⟨_,rfl⟩
    have atd:L5.length≤150:=by rw[←hL5];simp only[List.length_append];omega
    rw[hL5]at qj qR
    have ate:=hx5.cell
    have anq:Hid (L5.length+PP.length≤140737488355328):=Lib.hid (by omega)
    clear hk5 Zp hne5 hL5 rP hl4 hl5 Zo Zq fE ho3 hx3 hx4 HVL
    go_wp2_with (at_builtin;refine ay rfl (.tmp 78) (.tmp 79) rfl w1.heap.size _ v5 L5 rfl qj AP PP cP rfl PE anq.out wE.size ?_;intro v6 w6 BP hg6;have hx6:=hx5.grown hg6 (fun e=>hx5.ne qj e);have atf:=hx6.cell;have atg:=hx6.frozen;have hb16:Below w1.heap.size w1 w6:=below_grown wE hg6 wE.size (fun g e=>(qj.aF g e).1);have ajb:=afQ.keep (fun g e=>hg6.block g (afQ.lt g e).2 (fun e2=>afQ.ne qj g e e2.symm));obtain⟨A6,c6,rfl,_,_,_⟩:=BP.read;rw[List.length_append]at BP)
    have anr:=ajb.keep (w':=w6.setCell ⟨w1.heap.size+1,0,none⟩ (.slice A6 (L5.length+PP.length) c6)) (fun g e=>ah _ _ _ _ (fun e2=>ajb.Px hx6 g e e2))
    exact⟨⟨j+1,by omega,by go_num,Lib.hid anr,Lib.hid ⟨_,hx6.set _,by rw[qR.out];exact BP.Pj hx6 _,Below.setCell hb16 (by show w1.heap.size≤w1.heap.size+1;omega) _⟩⟩,by simp[intOf];omega⟩
   ·obtain rfl:j=L7.length:=by omega
    rw[List.take_length,acN.out]at HOI
    have hlen:0<(bH ⟨p,q,l,d⟩).length∧(bH ⟨p,q,l,d⟩).length≤130:=by
     rw[←acN.out,List.length_append]
     have h1:=ai7
     refine⟨?_,by omega⟩
     have h2:0<(bH ⟨p,q,l,d⟩).length:=by simp[bH]
     rw[←acN.out,List.length_append]at h2
     exact h2
    have HPD:=Lib.hid (show nJ (bH ⟨p,q,l,d⟩)=bH ⟨p,q,l,d⟩++List.replicate (aY (bH ⟨p,q,l,d⟩).length) 0 from rfl)
    have hz4:aY (bH ⟨p,q,l,d⟩).length<4:=by unfold aY;omega
    have hzq:((bH ⟨p,q,l,d⟩).length+aY (bH ⟨p,q,l,d⟩).length)%4=0:=by unfold aY;omega
    have ajc: ∃r,bH ⟨p,q,l,d⟩=0::r:=⟨_,rfl⟩
    generalize aY (bH ⟨p,q,l,d⟩).length=Z at*
    generalize bH ⟨p,q,l,d⟩=BD at*
    clear acN ai7 hpl hjl
    go_wp2_with fail
    go_loopw [] (fun wr=> ∃t:Nat,t≤Z∧Jf (w1.heap.size+1) w1.heap.size w1 (BD++List.replicate t 0) wr∧Jg (w1.heap.size+1) wr=BD.length+t) (fun wr=>BD.length+Z-Jg (w1.heap.size+1) wr)
    case atStart=>
     refine⟨0,by omega,by simpa using HOI.out,?_⟩
     obtain⟨v,hx,ho,_⟩:=HOI.out
     obtain⟨A0,c0,rfl,_,_,_⟩:=ho.read
     exact hx.len
    case round=>
     obtain⟨t,ht,ajd,Zr⟩:=hrel
     obtain⟨O,hO⟩: ∃O,BD++List.replicate t (0:UInt8)=O:=⟨_,rfl⟩
     have hOl:O.length=BD.length+t:=by rw[←hO];simp
     rw[hO]at ajd
     obtain⟨v,hx,ho,hb⟩:=ajd
     obtain⟨g,cc,rfl,hg,amZ,hcc,hcm,hcell,hfz⟩:=ho.opened (by omega)
     have hxc:=hx.cell
     have hgb:g≠w1.heap.size+1:=fun e=>hx.ne ho (by rw[e];rfl)
     by_cases htz:t<Z
     ·have hm4: ¬(O.length:Int)%4=0:=by omega
      have hoA:=ho.alloc (.cells #[.int .u8 0] 5)
      have hxA:Box (w1.heap.size+1) (wr.alloc (.cells #[.int .u8 0] 5)) _:=hx.below ((Below.refl _ _).alloc (Nat.le_refl _) _)
      have E8:Below w1.heap.size w1 (wr.alloc (.cells #[.int .u8 0] 5)):=hb.alloc hb.size _
      have hBA:Bytes (wr.alloc (.cells #[.int .u8 0] 5)) (some ⟨wr.heap.size,0,none⟩) [0]:= .inr ⟨wr.heap.size,0,rfl,by simp,by
       intro k hk
       obtain rfl:k=0:=by simpa using hk
       simp⟩
      have CG:Hid (O.length+[(0:UInt8)].length≤140737488355328):=Lib.hid (by simp;omega)
      have qR:Hid (O++[0]=BD++List.replicate (t+1) 0):=Lib.hid (by rw[←hO,List.replicate_succ',List.append_assoc])
      have HOL:=Lib.hid hOl
      have HBL:=Lib.hid Zr
      clear hO hcell hfz hx ho hzq hz4 Zr hOl ajc
      go_wp2_with (at_builtin;refine ay rfl (.tmp 86) (.tmp 87) rfl w1.heap.size _ _ O rfl hoA (some ⟨wr.heap.size,0,none⟩) [0] 1 rfl hBA CG.out E8.size ?_;intro v8 w8 Jw hg8;have hx8:=hxA.grown hg8 (fun e=>hxA.ne hoA e);have ati:=hx8.cell;have atj:=hx8.frozen;have hb8:Below w1.heap.size w1 w8:=below_grown E8 hg8 E8.size (fun g e=>(hoA.aF g e).1);obtain⟨A8,c8,rfl,_,_,_⟩:=Jw.read;rw[show(O++[(0:UInt8)]).length=O.length+1 by simp]at Jw)
      have hnew:=hx8.set (.slice A8 (O.length+1) c8)
      have hno:=Jw.Pj hx8 (.slice A8 (O.length+1) c8)
      rw[qR.out]at hno
      have hnl:=hnew.len
      have hOl:=HOL.out
      have Zr:=HBL.out
      exact⟨⟨t+1,by omega,⟨_,hnew,hno,Below.setCell hb8 (by show w1.heap.size≤w1.heap.size+1;omega) _⟩,by rw[hnl];omega⟩,by rw[hnl,Zr];omega⟩
     ·obtain rfl:t=Z:=by omega
      have hm4:(O.length:Int)%4=0:=by omega
      obtain⟨M,hM⟩: ∃M,O.length/4=M:=⟨_,rfl⟩
      have hMi:(O.length:Int)=4*(M:Int):=by omega
      have hMb:M<256:=by omega
      obtain⟨r0,hr0⟩:=ajc
      obtain⟨r,hr⟩: ∃r,O=0::r:=⟨r0++List.replicate t 0,by rw[←hO,hr0];rfl⟩
      have hPO:nJ BD=O:=by rw[HPD.out];exact hO
      have VA:Hid (jC ⟨p,q,l,d⟩=UInt8.ofNat M::r):=Lib.hid (by
       rw[HBH.out,hPO,hM,hr];rfl)
      have hq1:(4*(M:Int)+4)/4=(M:Int)+1:=by omega
      have hwm:IntKind.u8.wrap (M:Int)=(M:Int):=by rw[IntKind.wrap_u8];omega
      obtain⟨NO,hNO⟩: ∃NO,O.length=NO:=⟨_,rfl⟩
      have hrl:(UInt8.ofNat M::r).length=NO:=by rw[←hNO,hr];simp
      rw[hNO]at hx ho hcc hxc hMi hm4
      rw[hr]at ho
      have hst:=UG hx ho hb hg hgb M hMb
      have hf0:=hfz 0
      have hc0:wr.cell? ⟨g,0,none⟩=some (.int .u8 0):=by
       have h:=hcell 0 (by rw[hr];simp)
       rw[h];simp[hr]
      have atl:(0:Int)<(NO:Int):=by omega
      have anf:(NO:Int)≤(cc:Int):=by omega
      have HST:=Lib.hid hst
      have anw:=hst.1.cell
      have atm:NO≤1000:=by omega
      clear hPO hO hr hr0 htz hz4 hzq hcell hfz hx ho hb hM HPD Zr hst hOl hNO
      rw[hMi]at hm4
      go_upto_region 25 with fail
      obtain⟨hx5,qj,hb5⟩:=HST.out
      generalize wr.setCell ⟨g,0,none⟩ (.int .u8 (M:Nat))=w5 at hx5 qj hb5 ⊢
      rw[←VA.out]at hrl qj
      generalize jC ⟨p,q,l,d⟩=BH at*
      have PE:Bytes w5 (some ⟨g,0,none⟩) BH:=by
       rw[←hrl]at qj
       obtain⟨A6,c6,e6,_,_,hb6⟩:=qj.read
       injection e6 with e1 e2 e3
       rw[e1];exact hb6
      have HS:=Lib.hid (show ∀w',Bytes w' (some ⟨g,0,none⟩) BH→Calls Tryz.prog 18 #[.int .i64 1,.slice (some ⟨g,0,none⟩) NO cc] w' (dO w' (uf BH))from fun w' h=>by
       have:=LU (some ⟨g,0,none⟩) BH cc w' h (by omega) hcm
       rwa [hrl]at this)
      have hd5:Below w5.heap.size w5 w5.drew:=kN w5
      have anx:Below w1.heap.size w1 w5.drew:=hb5.trans (hd5.mono hb5.size)
      have HX5:Hid (Box (w1.heap.size+1) w5.drew (.slice (some ⟨g,0,none⟩) NO cc)):=Lib.hid hx5
      have HNS:Hid (BH.length+(uf BH).length≤140737488355328):=Lib.hid (by have:=lF BH;omega)
      clear hxc anw hc0 hf0 hq1 hwm hMi hm4
      refine wp_region_held_drew (S:=fun w'=>Box (w1.heap.size+1) w' (.slice (some ⟨g,0,none⟩) NO cc)∧Below w1.heap.size w1 w') (by kernel_rfl) ⟨HX5.out,anx⟩ (fun hS=> ?_)
      refine tp 0 rfl (fun w hSw=>by have k:=hSw.1.cell;go_simp;all_goals(with_reducible rfl)) hS ?_
      refine tp 1 rfl (fun w hSw=>by have k:=hSw.1.cell;go_simp;all_goals(with_reducible rfl)) hS ?_
      refine tr 2 (fun K hK=> ?_)
      go_simp
      refine(HS.out w5.drew (PE.below hd5)).mono ?_
      rintro e w6 ⟨A6,c6,rfl,hc6,hm6,Fg,hb6⟩
      have g6:Below w5.heap.size w5 w6:=hd5.trans (hb6.mono hd5.size)
      have hx6:=hx5.below g6
      have BP:=qj.below g6
      have hb16:=hb5.trans (g6.mono hb5.size)
      go_wp2_with fail
      refine hK.out _ _ ⟨hx6,hb16⟩ (fun _=> ?_)
      clear hK K
      refine tr 3 (fun K hK=> ?_)
      refine wO rfl (.tmp 97) (.tmp 99) rfl w1.heap.size w6 (.slice (some ⟨g,0,none⟩) NO cc) BH rfl BP A6 (uf BH) c6 rfl Fg HNS.out hb16.size ?_
      intro v7 w7 Bd VD
      have hx7:=hx6.grown VD (fun e=>hx6.ne BP e)
      have g7:Below w1.heap.size w1 w7:=below_grown hb16 VD hb16.size (fun g e=>(BP.aF g e).1)
      simp only[Act.put,List.setIfInBounds_toArray,List.set_cons_zero,List.set_cons_succ]
      refine hK.out _ _ ⟨hx7,g7⟩ (fun _=> ?_)
      clear hK K
      refine tr 4 (fun K hK=> ?_)
      go_simp
      refine hK.out _ _ ⟨hx7,g7⟩ (fun _=> ?_)
      clear hK K
      refine tr 5 (fun K hK=> ?_)
      go_simp
      refine hK.out _ _ ⟨hx7,g7⟩ (fun _=> ?_)
      clear hK K
      refine wpAnyH_done (by kernel_rfl) ?_ _
      go_wp2_with fail
      go_ret2
      exact .inl ⟨hv,_,rfl,by rw[HPH.out];exact Bd.weaken HB1.out.size,HB1.out.trans (g7.mono HB1.out.size)⟩
def jY(w:World)(g:Nat)(L:List UInt8):Prop:= ∀i (h:i<L.length),w.cell? ⟨g,i,none⟩=some (B8 L[i])∧w.frozen? ⟨g,i,none⟩=false
def G9(w:World)(L:List UInt8)(e:Ending)(w':World):Prop:= ∃g cap,e= .returned (.slice (some ⟨g,0,none⟩) L.length cap)∧L.length≤cap∧cap≤9223372036854775807∧w.heap.size≤g∧g<w'.heap.size∧jY w' g L∧Below w.heap.size w w'
theorem jY.bytes{w:World}{g:Nat}{L:List UInt8}(h:jY w g L)(hg:g<w.heap.size):Bytes w (some ⟨g,0,none⟩) L:= .inr ⟨g,0,rfl,hg,fun k hk=>by rw[Nat.zero_add];exact(h k hk).1⟩
theorem jY.below{w w':World}{g:Nat}{L:List UInt8}(h:jY w g L)(hg:g<w.heap.size)(hb:Below w.heap.size w w'):jY w' g L:=fun i hi=>by
 obtain⟨h1,h2⟩:=h i hi
 exact⟨(hb.cell (p:=⟨g,i,none⟩) hg).trans h1,(hb.frozen (p:=⟨g,i,none⟩) hg).trans h2⟩
theorem nK{w:World}{A:Option Addr}{l:List UInt8}{c:Nat}(h:Bytes w A l):Lib.HoldsBytes w (.slice A l.length c) l:=by
 refine⟨A,c,rfl,fun e=> ?_,fun a e i x hx=> ?_⟩
 ·rcases h with h | ⟨b,off,h,_⟩
  ·exact h
  ·rw[e]at h;cases h
 ·rcases h with h | ⟨b,off,h,_,hc⟩
  ·subst h;simp at hx
  ·rw[e]at h;injection h with h;subst h
   have hi:i<l.length:=by
    rcases Nat.lt_or_ge i l.length with h | h
    ·exact h
    ·rw[List.getElem?_eq_none h]at hx;cases hx
   rw[List.getElem?_eq_getElem hi]at hx
   injection hx with hx
   rw[←hx,show(⟨b,off,none⟩:Addr).add i=⟨b,off+i,none⟩from by unfold Addr.add;split<;>simp_all]
   exact hc i hi
theorem Jh{B:Nat}{w':World}{v:Value}{l:List UInt8}(h:Lib.FreshBytes B w' v l)(hl:0<l.length):
  ∃g cap,v= .slice (some ⟨g,0,none⟩) l.length cap∧l.length≤cap∧cap≤9223372036854775807∧B≤g∧g<w'.heap.size∧jY w' g l:=by
 obtain⟨g,cap,zs,rfl,hg,hlc,hcm,hz,hzb,hb,hc,hf⟩:=h
 refine⟨g,cap,rfl,hlc,by unfold maxLen at hcm;exact hcm,hg,?_,fun i hi=>⟨?_,hf i (by omega)⟩⟩
 ·have:=World.block_lt_of_cell? _ _ (hc 0 (by omega));simpa using this
 ·rw[hc i (by omega)]
  have hiz:i<zs.length:=by omega
  have e:zs.getD i 0=zs[i]:=by simp[List.getD,hiz]
  have hzi:=hzb zs[i] (List.getElem_mem _)
  have Fb:l[i]=UInt8.ofNat zs[i].toNat:=by
   have h2:(Lib.bytesOf (zs.take l.length))[i]? =l[i]? :=by rw[hb]
   rw[List.getElem?_eq_getElem hi]at h2
   unfold Lib.bytesOf at h2
   rw[List.getElem?_map,List.getElem?_take,if_pos hi,List.getElem?_eq_getElem hiz]at h2
   simpa using h2.symm
  rw[e,Fb]
  show some (Value.int .u8 zs[i])=some (Value.int .u8 ((UInt8.ofNat zs[i].toNat).toNat:Nat))
  rw[UInt8.toNat_ofNat']
  congr 2
  omega
theorem aje{A0 A1 A2:Option Addr}{l0 l1 l2:List UInt8}{c0 c1 c2 g:Nat}(w:World)(h0:Bytes w A0 l0)(h1:Bytes w A1 l1)(h2:Bytes w A2 l2)
  (k0:w.cell? ⟨g,0,none⟩=some (.slice A0 l0.length c0)) (k1:w.cell? ⟨g,1,none⟩=some (.slice A1 l1.length c1)) (k2:w.cell? ⟨g,2,none⟩=some (.slice A2 l2.length c2))
  (L:List UInt8) (hL:l0++l1++l2=L) (hl:L.length≤1000000) (hp:0<L.length):
  Calls Tryz.prog 19 #[.slice (some ⟨g,0,none⟩) 3 3,.slice none 0 0] w (G9 w L):=by
 have hlen:l0.length+l1.length+l2.length=L.length:=by rw[←hL];simp;omega
 have hP:Lib.PartsAt w ⟨g,0,none⟩ [.slice A0 l0.length c0,.slice A1 l1.length c1,.slice A2 l2.length c2] [l0,l1,l2]:=by
  refine⟨rfl,fun i v hv=> ?_,fun i v l hv hl=> ?_⟩
  ·rw[show(⟨g,0,none⟩:Addr).add i=⟨g,i,none⟩from by unfold Addr.add;split<;>simp_all]
   match i with
   | 0=>simp at hv;subst hv;exact k0
   | 1=>simp at hv;subst hv;exact k1
   | 2=>simp at hv;subst hv;exact k2
   | i+3=>simp at hv
  ·match i with
   | 0=>simp at hv hl;subst hv;subst hl;exact nK h0
   | 1=>simp at hv hl;subst hv;subst hl;exact nK h1
   | 2=>simp at hv hl;subst hv;subst hl;exact nK h2
   | i+3=>simp at hv
 refine(rJ g 0 3 3 _ [l0,l1,l2] (.slice none 0 0) [] w rfl (by omega) hP (by omega) ⟨none,0,rfl,fun _=>rfl,fun a e=>by cases e⟩ (by omega) (by simp[Lib.lens];omega)).mono ?_
 rintro e w' ⟨v,rfl,hv,hb⟩
 have ej:Lib.join [l0,l1,l2] []=L:=by rw[Lib.join_cons,←hL];simp[Lib.joinTail]
 rw[ej]at hv
 obtain⟨g',cap,rfl,q1,q2,q3,q4,q5⟩:=Jh hv hp
 exact⟨g',cap,rfl,q1,q2,q3,q4,q5,hb⟩

theorem Only.Zt{X:List Nat}{w0 w w':World}(hb:Below w0.heap.size w0 w)(h:Only X w w')(hX: ∀i∈X,w0.heap.size≤i):Below w0.heap.size w0 w':=hb.trans (h.below hb.size hX)
theorem MS.adW{io:Io}{w:World}{C L lc lp pb st:Nat}{r:R4}{x:io.S}{X:List Nat}(h:MS io w C L lc lp pb st r x X): ∀i∈C::L::X,i<w.heap.size:=by
 intro i hi
 simp only[List.mem_cons]at hi
 rcases hi with rfl | rfl | hi
 ·exact h.mod.EW
 ·exact h.mod.BN
 ·exact io.lt h.io i hi
theorem FW{st:Nat}{k l:Int}{st':Nat}(hst:st<12)(h:((st':Nat):Int)=stateAfter (st:Nat) k l):st'<12:=by
 unfold stateAfter at h
 split at h
 ·split at h
  ·omega
  ·split at h<;>omega
 ·split at h
  ·split at h<;>omega
  ·split at h
   ·omega
   ·split at h<;>omega
theorem acP(lc lp pb:Int)(w:World):Calls Tryz.prog 49 #[.int .i64 lc,.int .i64 lp,.int .i64 pb] w fun e w'=>e= .returned (.bool (lS lc lp pb))∧w=w':=by
 obtain⟨R,hR⟩: ∃R,lS lc lp pb=R:=⟨_,rfl⟩
 rw[hR]
 by_cases ato:0≤lc
 case neg=>
  have xE:Hid (R=false):=Lib.hid (by rw[←hR];exact decide_eq_false (by omega))
  clear hR
  go_enter Tryz.func49,Tryz.ntmps49
  go_wp2_with fail
  go_ret
  exact⟨by rw[xE.out];rfl,rfl⟩
 by_cases atp:lc≤4
 case neg=>
  have xE:Hid (R=false):=Lib.hid (by rw[←hR];exact decide_eq_false (by omega))
  clear hR
  go_enter Tryz.func49,Tryz.ntmps49
  go_wp2_with fail
  go_ret
  exact⟨by rw[xE.out];rfl,rfl⟩
 by_cases atq:0≤lp
 case neg=>
  have xE:Hid (R=false):=Lib.hid (by rw[←hR];exact decide_eq_false (by omega))
  clear hR
  go_enter Tryz.func49,Tryz.ntmps49
  go_wp2_with fail
  go_ret
  exact⟨by rw[xE.out];rfl,rfl⟩
 by_cases atr:lp≤4
 case neg=>
  have xE:Hid (R=false):=Lib.hid (by rw[←hR];exact decide_eq_false (by omega))
  clear hR
  go_enter Tryz.func49,Tryz.ntmps49
  go_wp2_with fail
  go_ret
  exact⟨by rw[xE.out];rfl,rfl⟩
 by_cases hs4:lc+lp≤4
 case neg=>
  have xE:Hid (R=false):=Lib.hid (by rw[←hR];exact decide_eq_false (by omega))
  clear hR
  go_enter Tryz.func49,Tryz.ntmps49
  go_wp2_with fail
  go_ret
  exact⟨by rw[xE.out];rfl,rfl⟩
 by_cases att:0≤pb
 case neg=>
  have xE:Hid (R=false):=Lib.hid (by rw[←hR];exact decide_eq_false (by omega))
  clear hR
  go_enter Tryz.func49,Tryz.ntmps49
  go_wp2_with fail
  go_ret
  exact⟨by rw[xE.out];rfl,rfl⟩
 by_cases atu:pb≤4
 case neg=>
  have xE:Hid (R=false):=Lib.hid (by rw[←hR];exact decide_eq_false (by omega))
  clear hR
  go_enter Tryz.func49,Tryz.ntmps49
  go_wp2_with fail
  go_ret
  exact⟨by rw[xE.out];rfl,rfl⟩
 have xE:Hid (R=true):=Lib.hid (by rw[←hR];exact decide_eq_true (by omega))
 clear hR
 go_enter Tryz.func49,Tryz.ntmps49
 go_wp2_with fail
 go_ret
 exact⟨by rw[xE.out];rfl,rfl⟩
theorem Zu:eP (1,1,1,1):=by unfold eP;decide

end Go.Proofs.YtgfpocdiojifoaaGreatDoor
