import Derived.Test.YtgfpocdiojifoaaGreatDoorZ22
import Derived.Test.YtgfpocdiojifoaaGreatDoorZ24
import Derived.Lib.MinMax
import Derived.Deep.RegionHeld3
namespace Go.Proofs.YtgfpocdiojifoaaGreatDoor
set_option maxRecDepth 100000
set_option maxHeartbeats 8000000
open Go.RowKit
structure PkC(w0:World)(k:jv)(AF:Option Addr)(cF mp B bD oD:Nat):Prop where
 ready:Ready w0 k.F AF cF k.D (k.dict:Nat) k.nice mp B
 addr:k.A=some ⟨bD,oD,none⟩
 bytes:Bytes w0 k.A k.D
 blk:bD<w0.heap.size
 cap:k.D.length≤k.cD
 small:k.D.length≤100000
 dict:1≤k.dict
 nice:k.nice≤273
 lc:k.lc≤4
 lp:k.lp≤4
 pb:k.pb≤4
 OL:k.lc+k.lp≤4
def dV(s:iq):Nat×R4×(Nat→Nat):=s.getD wB
def abS(w:World)(p:Nat)(k:jv)(had:Bool)(Y:List Nat)(r:List UInt8×(Nat×R4×(Nat→Nat)))(e:Ending)(w':World):Prop:=
 ∃v Y',e= .returned (.tuple #[v,.int .i64 0])∧Own w.heap.size w' v r.1∧Pk w' p k (some r.2) had Y'∧Only (p::Y) w w'∧(∀i∈Y',i∈Y∨w.heap.size≤i)∧5≤r.1.length∧r.1.length+100≤140737488355328
theorem abT{w w':World}{k:jv}{C L:Nat}(hM:bg w C L k.lc k.lp k.pb 0 (1,1,1,1) (fun _=>1024))(hb:Below w.heap.size w w'):Tn w' k C L wB:=
 ⟨hM.keep (hb.block _ hM.EW) (hb.block _ hM.BN),by decide,by unfold eP wB;decide⟩
theorem Af{lc lp pb:Nat}{D:List UInt8}{s:Sy}{l:List Sy}{p:Nat}{st:Nat}{r:R4}{x:jf}{g:Nat}{s':Sy}{st':Nat}{r':R4}{Z:jf}(h:Md.sym (aj g) lc lp pb st r (D.take p) (s.k:Nat) s.b (s.l:Nat) (s.d:Nat) (s.r:Nat) x=(s',st',r',Z)):
  lJ lc lp pb D (s::l) p (st,r,x)=lJ lc lp pb D l (p+max s.l 1) (st',r',Z):=by
 have e:=(ahX g lc lp pb st r (D.take p) (s.k:Nat) s.b (s.l:Nat) (s.d:Nat) (s.r:Nat) x).symm.trans h
 show lJ lc lp pb D l (p+max s.l 1) ((Md.sym (aj 0) lc lp pb st r (D.take p) (s.k:Nat) s.b (s.l:Nat) (s.d:Nat) (s.r:Nat) x).2)=_
 rw[e]
structure TD(k:jv)(C L g:Nat)(X0:List Nat)(w8 wr:World)(st:Nat)(r:R4)(x:jf)(n:Nat):Prop where
 ms: ∃X,MS (aj g) wr C L k.lc k.lp k.pb st r x X∧ ∀i∈X,i∈X0∨w8.heap.size≤i
 only:Only (C::L::X0) w8 wr
 st:st<12
 good:eP r
 ok:(aj g).ok x.2 n
theorem TD.put{k:jv}{C L g:Nat}{X0 X:List Nat}{w8 wr w1 w2:World}{st':Nat}{r':R4}{Z:jf}{n:Nat}(hX: ∀i∈X,i∈X0∨w8.heap.size≤i)(ho:Only (C::L::X0) w8 wr)(hb:Below wr.heap.size wr w1)(hw:jd (aj g) C L k.lc k.lp k.pb st' r' Z X w1 w2)(h1:st'<12)(h2:eP r')(h3:(aj g).ok Z.2 n):
  TD k C L g X0 w8 w2 st' r' Z n:=by
 obtain⟨X',hM,hon,hX'⟩:=hw
 have ho1:Only (C::L::X0) w8 w1:=ho.trans (Only.of_below hb) (fun i hi=> .inl hi)
 refine⟨⟨X',hM,fun i hi=> ?_⟩,ho1.trans hon (fun i hi=> ?_),h1,h2,h3⟩
 ·rcases hX' i hi with h | h
  ·exact hX i h
  ·exact .inr (Nat.le_trans ho1.size h)
 ·rcases List.mem_cons.1 hi with rfl | hi
  ·exact .inl (by simp)
  ·rcases List.mem_cons.1 hi with rfl | hi
   ·exact .inl (by simp)
   ·rcases hX i hi with h | h
    ·exact .inl (by simp[h])
    ·exact .inr h
theorem try_any{w0 w:World}{p:Nat}{k:jv}{s:iq}{had:Bool}{Y:List Nat}{AF:Option Addr}{cF mp B bD oD:Nat}(c:PkC w0 k AF cF mp B bD oD)(hb:Below w0.heap.size w0 w)(h:Pk w p k s had Y)(hp:w0.heap.size≤p)(hY: ∀i∈Y,w0.heap.size≤i)(a b:Nat)(hab:a<b)(hbl:b≤k.D.length):
  Calls Tryz.prog 76 #[PF p,.int .i64 (a:Nat),.int .i64 (b:Nat)] w (abS w p k had Y (codeOf k a b (dV s))):=by
 obtain⟨cv,hP,hC⟩:=h.ex
 have HC:=Lib.hid c
 have HB:=Lib.hid hb
 have HP:=Lib.hid hP
 have HCC:=Lib.hid hC
 have HPY:=Lib.hid (And.intro hp hY)
 have HAB:=Lib.hid (And.intro hab hbl)
 have HCL:Hid (∀W,Below w.heap.size w W→W.cell? ⟨p,1,none⟩=some (.int .i64 (k.lc:Nat))∧W.cell? ⟨p,2,none⟩=some (.int .i64 (k.lp:Nat))∧W.cell? ⟨p,3,none⟩=some (.int .i64 (k.pb:Nat))):=Lib.hid (fun W hW=>by
  have h1:=hP.below hW
  exact⟨h1.lc,h1.lp,h1.pb⟩)
 have DJ:=Lib.hid (fun W=>uJ k.lc k.lp k.pb W c.lc c.lp c.pb c.OL)
 obtain⟨cp,rfl⟩: ∃q,cv= .pointer q:=by
  cases s with
  | none=>exact⟨_,hC.1⟩
  | some s=>obtain⟨C,L,e,_⟩:=hC;exact⟨_,e⟩
 have c11:=hP.VB
 have hai:(a:Int)<(b:Int):=by omega
 have hdi:(k.D.length:Int)≤100000:=by have:=c.small;omega
 have hbi:(b:Int)≤(k.D.length:Int):=by omega
 clear c hb h hp hY hab hbl hP hC
 go_enter Tryz.func76,Tryz.ntmps76
 go_upto_if 22 with fail
 go_cut []from 8 (fun wx=> ∃C L,iH wx p k (PF C) had∧Tn wx k C L (dV s)∧Only (p::Y) w wx∧ ∀i∈[C,L],i∈Y∨w.heap.size≤i)
 case first=>
  cases s with
  | some s=>
   obtain⟨C,L,hcv,rfl,hc⟩:=HCC.out
   injection hcv with hcv
   subst hcv
   go_wp2_with fail
   go_meet
   exact⟨C,L,HP.out,hc,Only.refl _ _,fun i hi=> .inl hi⟩
  | none=>
   obtain⟨hcv,rfl⟩:=HCC.out
   injection hcv with hcv
   subst hcv
   go_upto_region 2 with fail
   have hdr:Below w.heap.size w w.drew:=⟨rfl,rfl,rfl,Nat.le_refl _,fun _ _=>rfl⟩
   refine wp_region_held_drew (S:=fun w'=>Below w.heap.size w w') (by kernel_rfl) hdr (fun hS=> ?_)
   refine tq 0 hS ?_
   refine tq 1 hS ?_
   refine tq 2 hS ?_
   refine tq 3 hS ?_
   refine tp 4 rfl (fun w hSw=>by obtain⟨k1,k2,k3⟩:=HCL.out w hSw;go_simp;all_goals(with_reducible rfl)) hS ?_
   refine tq 5 hS ?_
   refine tq 6 hS ?_
   refine tq 7 hS ?_
   refine tq 8 hS ?_
   refine tp 9 rfl (fun w hSw=>by obtain⟨k1,k2,k3⟩:=HCL.out w hSw;go_simp;all_goals(with_reducible rfl)) hS ?_
   refine tq 10 hS ?_
   refine tq 11 hS ?_
   refine tq 12 hS ?_
   refine tq 13 hS ?_
   refine tp 14 rfl (fun w hSw=>by obtain⟨k1,k2,k3⟩:=HCL.out w hSw;go_simp;all_goals(with_reducible rfl)) hS ?_
   refine tr 15 (fun K hK=> ?_)
   go_simp
   refine(DJ.out _).mono ?_
   rintro e w1 ⟨C,L,rfl,hM1,hb1,Fe,hL1⟩
   have g15:=hdr.trans (hb1.mono hdr.size)
   go_wp2_with fail
   refine hK.out _ _ g15 (fun _=> ?_)
   clear hK K
   refine tq 16 g15 ?_
   refine tq 17 g15 ?_
   refine tq 18 g15 ?_
   refine tq 19 g15 ?_
   refine tq 20 g15 ?_
   refine wpAnyH_done (by kernel_rfl) ?_ _
   have fU:=Lib.hid g15
   have uT:=Lib.hid hM1
   have HCG:Hid (w.heap.size≤C∧w.heap.size≤L):=Lib.hid ⟨Fe,hL1⟩
   have hP1:=HP.out.below g15
   have f11:=hP1.frozen 11
   have k11:=hP1.VB
   clear hS g15 hM1 Fe hL1 hb1 hdr hP1
   go_wp2_with fail
   go_meet
   have hps:p<w.heap.size:=HP.out.lt
   have hP2:=(HP.out.below fU.out).XV (PF C)
   have hset:Below w1.heap.size w1 (w1.setCell ⟨p,11,none⟩ (PF C))∨True:= .inr trivial
   refine⟨C,L,hP2,?_,?_,fun i hi=> ?_⟩
   ·have hc:=abT (k:=k) uT.out (Below.refl _ _)
    refine hc.keep ?_ ?_
    ·exact ah _ _ _ _ (by show C≠p;have:=HCG.out.1;omega)
    ·exact ah _ _ _ _ (by show L≠p;have:=HCG.out.2;omega)
   ·exact(Only.of_below fU.out).setCell (.inl (by simp)) _
   ·simp only[List.mem_cons,List.not_mem_nil,or_false]at hi
    rcases hi with rfl | rfl
    ·exact .inr HCG.out.1
    ·exact .inr HCG.out.2
 case rest=>
 obtain⟨WC,hWC⟩: ∃W,W=wc:=⟨_,rfl⟩
 subst hWC
 obtain⟨C,L,hPx,hCx,hox,air⟩:=hcut
 obtain⟨⟨st1,r1,P1⟩,hs1⟩: ∃q,dV s=q:=⟨_,rfl⟩
 rw[hs1]at hCx
 have HPX:=Lib.hid hPx
 have KX:=Lib.hid hCx
 have HOX:=Lib.hid hox
 have abU:=Lib.hid air
 have ais:Below w0.heap.size w0 WC:=HB.out.trans (HOX.out.below HB.out.size (fun i hi=>by
  rcases List.mem_cons.1 hi with rfl | hi
  ·exact HPY.out.1
  ·exact HPY.out.2 i hi))
 have HBX:=Lib.hid ais
 have ait:Hid (w0.heap.size≤C∧w0.heap.size≤L):=Lib.hid (by
  constructor
  ·rcases abU.out C (by simp)with h | h
   ·exact HPY.out.2 _ h
   ·exact Nat.le_trans HB.out.size h
  ·rcases abU.out L (by simp)with h | h
   ·exact HPY.out.2 _ h
   ·exact Nat.le_trans HB.out.size h)
 have aiu:p≠C∧p≠L:=by
  have h:=(show ru WC k (PF C) [C,L] (some (st1,r1,P1))from⟨C,L,rfl,rfl,hCx⟩).apart hPx (by decide) (by decide)
  simp only[List.mem_cons,List.not_mem_nil,or_false,not_or]at h
  exact h
 have ae4:=Lib.hid aiu
 have HCX:Hid (∀W,Below WC.heap.size WC W→W.cell? ⟨p,0,none⟩=some (.slice k.A k.D.length k.cD)∧W.cell? ⟨p,10,none⟩=some (PF k.F)∧W.cell? ⟨p,11,none⟩=some (PF C)):=Lib.hid (fun W hW=>by
  have h1:=HPX.out.below hW
  exact⟨h1.data,h1.find,h1.VB⟩)
 have aiv:Hid (∀W,Below WC.heap.size WC W→Calls Tryz.prog 122 #[PF C] W (J4 r1.val W)):=Lib.hid (fun W hW=>su (KX.out.mod.keep (hW.block _ KX.out.mod.EW) (hW.block _ KX.out.mod.BN)))
 obtain⟨LS,hLS⟩: ∃LS,xM k a b r1=LS:=⟨_,rfl⟩
 obtain⟨rS,hrS⟩: ∃rS,(aO k.D (k.dict:Nat) k.nice b (b-a) a r1).2=rS:=⟨_,rfl⟩
 have ae5:Hid (∀W,Below WC.heap.size WC W→Calls Tryz.prog 121 #[PF k.F,.slice k.A k.D.length k.cD,.int .i64 (a:Nat),.int .i64 (b:Nat),r1.val] W (KL LS rS W)):=Lib.hid (fun W hW=>by
  have hbW:Below w0.heap.size w0 W:=HBX.out.trans (hW.mono HBX.out.size)
  have h:=KN k.F AF k.A cF k.cD k.D (k.dict:Nat) k.nice mp B a b r1 W (HC.out.ready.below (hbW)) (HC.out.bytes.below hbW) HC.out.cap (Nat.le_of_lt HAB.out.1) HAB.out.2
  rw[hrS,show(aO k.D (k.dict:Nat) k.nice b (b-a) a r1).1=LS from hLS]at h
  exact h)
 have xA:=Lib.hid hLS
 have yM:=Lib.hid hs1
 clear hPx hCx hox air hs1 ais aiu hLS hrS c11
 go_upto_region 6 with fail
 go_cut [10,12]from 10 (fun s10 s12 wx=>s12= .int .i64 0∧iR WC.heap.size wx s10 LS∧Below WC.heap.size WC wx)
 case first=>
  have hdr:Below WC.heap.size WC WC.drew:=⟨rfl,rfl,rfl,Nat.le_refl _,fun _ _=>rfl⟩
  refine wp_region_held_drew (S:=fun w'=>Below WC.heap.size WC w') (by kernel_rfl) hdr (fun hS=> ?_)
  refine tq 0 hS ?_
  refine tq 1 hS ?_
  refine tq 2 hS ?_
  refine tp 3 rfl (fun w hSw=>by obtain⟨k0,k10,k11⟩:=HCX.out w hSw;go_simp;all_goals(with_reducible rfl)) hS ?_
  refine tq 4 hS ?_
  refine tq 5 hS ?_
  refine tq 6 hS ?_
  refine tp 7 rfl (fun w hSw=>by obtain⟨k0,k10,k11⟩:=HCX.out w hSw;go_simp;all_goals(with_reducible rfl)) hS ?_
  refine tq 8 hS ?_
  refine tq 9 hS ?_
  refine tq 10 hS ?_
  refine tq 11 hS ?_
  refine tq 12 hS ?_
  refine tp 13 rfl (fun w hSw=>by obtain⟨k0,k10,k11⟩:=HCX.out w hSw;go_simp;all_goals(with_reducible rfl)) hS ?_
  refine wpAnyH_ready (rs:=[14,20]) (by kernel_rfl) (by simp) ?_
  refine(AllReadyH.cons (o:={dst:=some 64,op:=Op.call {callee:=Callee.value (Operand.func 122),args:= #[Operand.tmp 63],argTypes:= #[73]},type:=127,pos:= "chunks.go:121",after:= #[{on:=13,ground:=Ground.data}],guard:=none}) rfl (fun K hK=> ?_) (AllReadyH.cons (o:={dst:=some 11,op:=Op.alloc 127,type:=0,pos:= "chunks.go:121",after:= #[],guard:=none}) rfl (fun K hK=> ?_) AllReadyH.nil))
  ·skip
   go_simp
   refine(aiv.out _ hdr).mono ?_
   rintro e x14 ⟨rfl,IU⟩
   have g14:=hdr.trans (IU.mono hdr.size)
   have wC:=Lib.hid IU
   clear IU
   go_wp2_with fail
   refine hK.out _ _ g14 (fun _=> ?_)
   clear hK K
   refine wpAnyH_ready (rs:=[15,20]) (by kernel_rfl) (by simp) ?_
   refine(AllReadyH.cons (o:={dst:=some 65,op:=Op.call {callee:=Callee.value (Operand.func 121),args:= #[Operand.tmp 53,Operand.tmp 57,Operand.tmp 58,Operand.tmp 59,Operand.tmp 64],argTypes:= #[69,22,3,3,127]},type:=193,pos:= "chunks.go:121",after:= #[{on:=3,ground:=Ground.data},{on:=7,ground:=Ground.data},{on:=8,ground:=Ground.data},{on:=9,ground:=Ground.data},{on:=14,ground:=Ground.data},{on:=14,ground:=Ground.chain}],guard:=none}) rfl (fun K hK=> ?_) (AllReadyH.cons (o:={dst:=some 11,op:=Op.alloc 127,type:=0,pos:= "chunks.go:121",after:= #[],guard:=none}) rfl (fun K hK=> ?_) AllReadyH.nil))
   ·skip
    go_simp
    refine(ae5.out x14 g14).mono ?_
    rintro e x15 ⟨v15,rfl,hos,wE⟩
    have g15:=g14.trans (wE.mono g14.size)
    have fU:=Lib.hid g15
    have Yj:=Lib.hid hos
    have abV:=Lib.hid wE
    clear wE hos
    go_wp2_with fail
    refine hK.out _ _ fU.out (fun _=> ?_)
    clear hK K
    refine tq 16 fU.out ?_
    refine tq 17 fU.out ?_
    refine tq 18 fU.out ?_
    refine tq 19 fU.out ?_
    refine tr 20 (fun K hK=> ?_)
    go_simp
    refine hK.out _ _ (fU.out.alloc fU.out.size _) (fun _=> ?_)
    clear hK K
    refine tq 21 (fU.out.alloc fU.out.size _) ?_
    refine tr 22 (fun K hK=> ?_)
    go_simp
    refine hK.out _ _ (fU.out.alloc fU.out.size _) (fun _=> ?_)
    clear hK K
    refine tq 23 (fU.out.alloc fU.out.size _) ?_
    refine wpAnyH_done (by kernel_rfl) ?_ _
    go_wp2_with fail
    go_meet
    exact⟨rfl,by first | exact(Yj.out.weaken g14.size).below ((Below.refl _ _).alloc (Nat.le_refl _) _) | exact((((Yj.out.set jV.out.2 _).set jV.out.2 _).set jV.out.2 _).set jV.out.2 _).weaken gA.size | exact((((Yj.out.set (Nat.lt_of_lt_of_le jV.out.2 wC.out.size) _).set (Nat.lt_of_lt_of_le jV.out.2 wC.out.size) _).set (Nat.lt_of_lt_of_le jV.out.2 wC.out.size) _).set (Nat.lt_of_lt_of_le jV.out.2 wC.out.size) _).weaken g14.size,by first | exact fU.out.alloc fU.out.size _ | exact((((fU.out.setCell jV.out.1 _).setCell jV.out.1 _).setCell jV.out.1 _).setCell jV.out.1 _)⟩
   ·skip
    go_simp
    obtain⟨WA,hWA⟩: ∃W,x14.alloc (.cells #[.int .i64 0,.int .i64 0,.int .i64 0,.int .i64 0] 127)=W:=⟨_,rfl⟩
    rw[hWA]
    have gA:Below WC.heap.size WC WA:=by rw[←hWA];have h:=((g14:Below WC.heap.size WC x14).alloc (by first | exact Nat.le_refl _ | exact g14.size) (.cells #[.int .i64 0,.int .i64 0,.int .i64 0,.int .i64 0] 127));exact⟨h.os,h.tape,h.output,h.size,h.block⟩
    have oK:WA.heap[x14.heap.size]? =some (.cells #[.int .i64 0,.int .i64 0,.int .i64 0,.int .i64 0] 127 (0,0)):=by rw[←hWA];exact heap_alloc_new _ _
    have HRA:=Lib.hid oK
    have jV:Hid (WC.heap.size≤x14.heap.size∧x14.heap.size<WA.heap.size):=Lib.hid ⟨g14.size,(Array.getElem?_eq_some_iff.1 oK).1⟩
    clear hWA oK
    refine hK.out _ _ gA (fun _=> ?_)
    clear hK K
    refine tr 15 (fun K hK=> ?_)
    go_simp
    refine(ae5.out WA gA).mono ?_
    rintro e x15 ⟨v15,rfl,hos,wE⟩
    have g15:=gA.trans (wE.mono gA.size)
    have fU:=Lib.hid g15
    have Yj:=Lib.hid hos
    have abV:=Lib.hid wE
    clear wE hos
    go_wp2_with fail
    refine hK.out _ _ fU.out (fun _=> ?_)
    clear hK K
    refine tq 16 fU.out ?_
    refine tq 17 fU.out ?_
    refine tq 18 fU.out ?_
    refine tq 19 fU.out ?_
    refine tq 21 fU.out ?_
    refine tr 22 (fun K hK=> ?_)
    go_simp
    have hro:=(abV.out.block _ jV.out.2).trans HRA.out
    have z0:x15.cell? ⟨x14.heap.size,0,none⟩=some (.int .i64 0):=by rw[cell_of_row x15 _ _ _ _ _ hro];rfl
    have z1:x15.cell? ⟨x14.heap.size,1,none⟩=some (.int .i64 0):=by rw[cell_of_row x15 _ _ _ _ _ hro];rfl
    have z2:x15.cell? ⟨x14.heap.size,2,none⟩=some (.int .i64 0):=by rw[cell_of_row x15 _ _ _ _ _ hro];rfl
    have z3:x15.cell? ⟨x14.heap.size,3,none⟩=some (.int .i64 0):=by rw[cell_of_row x15 _ _ _ _ _ hro];rfl
    have F9:x15.frozen? ⟨x14.heap.size,0,none⟩=false:=frozen_of_row x15 _ 0 _ _ hro
    have Gf:x15.frozen? ⟨x14.heap.size,1,none⟩=false:=frozen_of_row x15 _ 1 _ _ hro
    have Jt:x15.frozen? ⟨x14.heap.size,2,none⟩=false:=frozen_of_row x15 _ 2 _ _ hro
    have Ju:x15.frozen? ⟨x14.heap.size,3,none⟩=false:=frozen_of_row x15 _ 3 _ _ hro
    go_simp
    refine hK.out _ _ ((((fU.out.setCell (p:=⟨x14.heap.size,0,none⟩) jV.out.1 _).setCell (p:=⟨x14.heap.size,1,none⟩) jV.out.1 _).setCell (p:=⟨x14.heap.size,2,none⟩) jV.out.1 _).setCell (p:=⟨x14.heap.size,3,none⟩) jV.out.1 _) (fun _=> ?_)
    clear hK K
    refine tq 23 ((((fU.out.setCell (p:=⟨x14.heap.size,0,none⟩) jV.out.1 _).setCell (p:=⟨x14.heap.size,1,none⟩) jV.out.1 _).setCell (p:=⟨x14.heap.size,2,none⟩) jV.out.1 _).setCell (p:=⟨x14.heap.size,3,none⟩) jV.out.1 _) ?_
    refine wpAnyH_done (by kernel_rfl) ?_ _
    go_wp2_with fail
    go_meet
    exact⟨rfl,by first | exact(Yj.out.weaken g14.size).below ((Below.refl _ _).alloc (Nat.le_refl _) _) | exact((((Yj.out.set jV.out.2 _).set jV.out.2 _).set jV.out.2 _).set jV.out.2 _).weaken gA.size | exact((((Yj.out.set (Nat.lt_of_lt_of_le jV.out.2 wC.out.size) _).set (Nat.lt_of_lt_of_le jV.out.2 wC.out.size) _).set (Nat.lt_of_lt_of_le jV.out.2 wC.out.size) _).set (Nat.lt_of_lt_of_le jV.out.2 wC.out.size) _).weaken g14.size,by first | exact fU.out.alloc fU.out.size _ | exact((((fU.out.setCell jV.out.1 _).setCell jV.out.1 _).setCell jV.out.1 _).setCell jV.out.1 _)⟩
  ·skip
   go_simp
   obtain⟨WA,hWA⟩: ∃W,(WC.alloc (.cells #[.int .i64 0,.int .i64 0,.int .i64 0,.int .i64 0] 127)).drew=W:=⟨_,rfl⟩
   rw[hWA]
   have gA:Below WC.heap.size WC WA:=by rw[←hWA];have h:=((Below.refl _ _:Below WC.heap.size WC WC).alloc (by first | exact Nat.le_refl _ | exact g14.size) (.cells #[.int .i64 0,.int .i64 0,.int .i64 0,.int .i64 0] 127));exact⟨h.os,h.tape,h.output,h.size,h.block⟩
   have oK:WA.heap[WC.heap.size]? =some (.cells #[.int .i64 0,.int .i64 0,.int .i64 0,.int .i64 0] 127 (0,0)):=by rw[←hWA];exact heap_alloc_new _ _
   have HRA:=Lib.hid oK
   have jV:Hid (WC.heap.size≤WC.heap.size∧WC.heap.size<WA.heap.size):=Lib.hid ⟨Nat.le_refl _,(Array.getElem?_eq_some_iff.1 oK).1⟩
   clear hWA oK
   refine hK.out _ _ gA (fun _=> ?_)
   clear hK K
   refine tr 14 (fun K hK=> ?_)
   go_simp
   refine(aiv.out _ gA).mono ?_
   rintro e x14 ⟨rfl,IU⟩
   have g14:=gA.trans (IU.mono gA.size)
   have wC:=Lib.hid IU
   clear IU
   go_wp2_with fail
   refine hK.out _ _ g14 (fun _=> ?_)
   clear hK K
   refine tr 15 (fun K hK=> ?_)
   go_simp
   refine(ae5.out x14 g14).mono ?_
   rintro e x15 ⟨v15,rfl,hos,wE⟩
   have g15:=g14.trans (wE.mono g14.size)
   have fU:=Lib.hid g15
   have Yj:=Lib.hid hos
   have abV:=Lib.hid wE
   clear wE hos
   go_wp2_with fail
   refine hK.out _ _ fU.out (fun _=> ?_)
   clear hK K
   refine tq 16 fU.out ?_
   refine tq 17 fU.out ?_
   refine tq 18 fU.out ?_
   refine tq 19 fU.out ?_
   refine tq 21 fU.out ?_
   refine tr 22 (fun K hK=> ?_)
   go_simp
   have hro:=(abV.out.block _ (Nat.lt_of_lt_of_le jV.out.2 wC.out.size)).trans ((wC.out.block _ jV.out.2).trans HRA.out)
   have z0:x15.cell? ⟨WC.heap.size,0,none⟩=some (.int .i64 0):=by rw[cell_of_row x15 _ _ _ _ _ hro];rfl
   have z1:x15.cell? ⟨WC.heap.size,1,none⟩=some (.int .i64 0):=by rw[cell_of_row x15 _ _ _ _ _ hro];rfl
   have z2:x15.cell? ⟨WC.heap.size,2,none⟩=some (.int .i64 0):=by rw[cell_of_row x15 _ _ _ _ _ hro];rfl
   have z3:x15.cell? ⟨WC.heap.size,3,none⟩=some (.int .i64 0):=by rw[cell_of_row x15 _ _ _ _ _ hro];rfl
   have F9:x15.frozen? ⟨WC.heap.size,0,none⟩=false:=frozen_of_row x15 _ 0 _ _ hro
   have Gf:x15.frozen? ⟨WC.heap.size,1,none⟩=false:=frozen_of_row x15 _ 1 _ _ hro
   have Jt:x15.frozen? ⟨WC.heap.size,2,none⟩=false:=frozen_of_row x15 _ 2 _ _ hro
   have Ju:x15.frozen? ⟨WC.heap.size,3,none⟩=false:=frozen_of_row x15 _ 3 _ _ hro
   go_simp
   refine hK.out _ _ ((((fU.out.setCell (p:=⟨WC.heap.size,0,none⟩) jV.out.1 _).setCell (p:=⟨WC.heap.size,1,none⟩) jV.out.1 _).setCell (p:=⟨WC.heap.size,2,none⟩) jV.out.1 _).setCell (p:=⟨WC.heap.size,3,none⟩) jV.out.1 _) (fun _=> ?_)
   clear hK K
   refine tq 23 ((((fU.out.setCell (p:=⟨WC.heap.size,0,none⟩) jV.out.1 _).setCell (p:=⟨WC.heap.size,1,none⟩) jV.out.1 _).setCell (p:=⟨WC.heap.size,2,none⟩) jV.out.1 _).setCell (p:=⟨WC.heap.size,3,none⟩) jV.out.1 _) ?_
   refine wpAnyH_done (by kernel_rfl) ?_ _
   go_wp2_with fail
   go_meet
   exact⟨rfl,by first | exact(Yj.out.weaken g14.size).below ((Below.refl _ _).alloc (Nat.le_refl _) _) | exact((((Yj.out.set jV.out.2 _).set jV.out.2 _).set jV.out.2 _).set jV.out.2 _).weaken gA.size | exact((((Yj.out.set (Nat.lt_of_lt_of_le jV.out.2 wC.out.size) _).set (Nat.lt_of_lt_of_le jV.out.2 wC.out.size) _).set (Nat.lt_of_lt_of_le jV.out.2 wC.out.size) _).set (Nat.lt_of_lt_of_le jV.out.2 wC.out.size) _).weaken g14.size,by first | exact fU.out.alloc fU.out.size _ | exact((((fU.out.setCell jV.out.1 _).setCell jV.out.1 _).setCell jV.out.1 _).setCell jV.out.1 _)⟩
 case rest=>
 obtain⟨h12,hOS,IV⟩:=hcut
 subst h12
 obtain⟨AL,cL,e10,hcL,hmL,hat⟩:=hOS.form
 subst e10
 have amB:0<LS.length:=by
  rw[←xA.out];unfold xM
  rw[sK HAB.out.1]
  simp
 obtain⟨gS,hAL,hgS,_,_,_,_,_⟩:=hat 0 amB
 subst hAL
 have aiw:WC.heap.size≤gS:=(hOS.lt gS rfl).1
 have HSC:Hid (∀n (hn:n<LS.length) (W:World),W.heap[gS]? =wc.heap[gS]? →W.cell? ⟨gS,5*n,none⟩=some (.int .i64 (LS[n].k:Nat))∧W.cell? ⟨gS,5*n+1,none⟩=some (.int .u8 (LS[n].b.toNat:Nat))∧W.cell? ⟨gS,5*n+2,none⟩=some (.int .i64 (LS[n].l:Nat))∧W.cell? ⟨gS,5*n+3,none⟩=some (.int .i64 (LS[n].d:Nat))∧W.cell? ⟨gS,5*n+4,none⟩=some (.int .i64 (LS[n].r:Nat))):=Lib.hid (fun n hn W hW=>by
  obtain⟨g',e',_,c0,c1,c2,c3,c4⟩:=hat n hn
  injection e' with e';injection e' with e' _ _
  subst e'
  exact⟨(World.cell?_of_block (a:=⟨gS,_,none⟩) hW).trans c0,(World.cell?_of_block (a:=⟨gS,_,none⟩) hW).trans c1,(World.cell?_of_block (a:=⟨gS,_,none⟩) hW).trans c2,(World.cell?_of_block (a:=⟨gS,_,none⟩) hW).trans c3,(World.cell?_of_block (a:=⟨gS,_,none⟩) hW).trans c4⟩)
 have HGS:Hid (WC.heap.size≤gS∧gS<wc.heap.size):=Lib.hid ⟨aiw,hgS⟩
 have asg:(LS.length:Int)≤(cL:Int):=by omega
 have ash:(LS.length:Int)≤9223372036854775807:=by omega
 have oN:=Lib.hid IV
 have aix:C<WC.heap.size∧L<WC.heap.size:=⟨KX.out.mod.EW,KX.out.mod.BN⟩
 have HCW:=Lib.hid aix
 have QL:=Lib.hid (show p<WC.heap.size from HPX.out.lt)
 clear hOS hcL hmL hat hgS aiw IV aix
 go_upto_region 10 with(refine(new_any _).mono ?_;rintro e w8 ⟨g,o,cap,rfl,hE8,hb8,hg8,Jw⟩;have HE8:=Lib.hid hE8;have OM:=Lib.hid hb8;have HG8:=Lib.hid (And.intro hg8 Jw);clear hE8 hb8 hg8 Jw)
 have HM8:Hid (MS (aj g) w8 C L k.lc k.lp k.pb st1 r1 (P1,st0) [g,o]):=Lib.hid (by
  have hbb:=oN.out.trans (OM.out.mono oN.out.size)
  refine⟨KX.out.mod.keep (hbb.block _ HCW.out.1) (hbb.block _ HCW.out.2),⟨o,cap,rfl,HE8.out⟩,?_,?_⟩
  ·have:=HG8.out;have:=HCW.out;have:=oN.out.size;simp only[List.mem_cons,List.not_mem_nil,or_false,not_or];omega
  ·have:=HG8.out;have:=HCW.out;have:=oN.out.size;simp only[List.mem_cons,List.not_mem_nil,or_false,not_or];omega)
 have HI8:Hid (TD k C L g [g,o] w8 w8 st1 r1 (P1,st0) (54*(b-a)+100)):=Lib.hid ⟨⟨_,HM8.out,fun i hi=> .inl hi⟩,Only.refl _ _,KX.out.st,KX.out.good,⟨VR,by have:=HAB.out;have:=HC.out.small;show 1+0+2*_≤_;omega⟩⟩
 go_wp2_with fail
 go_loopw [14,76] (fun pv iv wr=> ∃(i pl st:Nat) (r:R4) (x:jf),pv= .int .i64 (pl:Nat)∧iv= .int .i64 (i:Nat)∧Hid (TD k C L g [g,o] w8 wr st r x (54*(b-pl)+100))∧Hid (LS.drop i=(aO k.D (k.dict:Nat) k.nice b (b-pl) pl r).1∧lJ k.lc k.lp k.pb k.D LS a (st1,r1,(P1,st0))=lJ k.lc k.lp k.pb k.D (LS.drop i) pl (st,r,x))∧i≤LS.length∧pl≤b) (fun _ iv _=>LS.length-(intOf iv).toNat)
 case atStart=>exact⟨0,a,st1,r1,(P1,st0),rfl,rfl,HI8,Lib.hid ⟨by rw[←xA.out];rfl,rfl⟩,Nat.zero_le _,Nat.le_of_lt HAB.out.1⟩
 case round=>
  obtain⟨i,pl,st,r,x,rfl,rfl,HI,HL,hi,amD⟩:=hrel
  by_cases hlt:i<LS.length
  case neg=>
   have Om: ¬(i:Int)<(LS.length:Int):=by omega
   have aiy:LS.drop i=[]:=List.drop_eq_nil_of_le (by omega)
   have HPA:Hid (lJ k.lc k.lp k.pb k.D LS a (st1,r1,(P1,st0))=(st,r,x)):=Lib.hid (by rw[HL.out.2,aiy];rfl)
   obtain⟨X,hM,hX⟩:=HI.out.ms
   obtain⟨oE,amE,rfl,hE⟩:=hM.io
   have hok:=HI.out.ok
   have HKE:Hid (1+x.2.k+4≤140737488355328):=Lib.hid (by obtain⟨_,h4⟩:=hok;omega)
   have E5:=Lib.hid (SB g oE amE x.2 wr hE HKE.out)
   have HMM:=Lib.hid hM
   clear hlt aiy hM hX hE hok hi
   go_wp2_with fail
   refine E5.out.mono ?_
   rintro e w9 ⟨v9,rfl,ho9,Jy⟩
   go_wp2_with fail
   go_ret2
   have hcode:codeOf k a b (dV s)=(Rc.be (5+x.2.k) x.2.v,(st,r,x.1)):=by
    rw[yM.out]
    unfold codeOf
    rw[xA.out]
    show(Rc.be (5+(lJ k.lc k.lp k.pb k.D LS a (st1,r1,(P1,st0))).2.2.2.k) _,_)=_
    rw[HPA.out]
   rw[hcode]
   have hon:Only [C,L] WC wr:=by
    have h1:Only [C,L] WC w8:=Only.of_below (oN.out.trans (OM.out.mono oN.out.size))
    refine h1.trans HI.out.only (fun i hi=> ?_)
    rcases List.mem_cons.1 hi with rfl | hi
    ·exact .inl (by simp)
    ·rcases List.mem_cons.1 hi with rfl | hi
     ·exact .inl (by simp)
     ·right
      have:=HG8.out;have:=oN.out.size
      simp only[List.mem_cons,List.not_mem_nil,or_false]at hi
      rcases hi with rfl | rfl<;>omega
   have yV:Only [C,L] WC w9:=hon.trans (Only.of_below Jy) (fun i hi=> .inl hi)
   have hpr:w9.heap[p]? =WC.heap[p]? :=yV.block p QL.out (by simp only[List.mem_cons,List.not_mem_nil,or_false,not_or];exact ae4.out)
   refine⟨v9,[C,L],rfl,ho9.weaken ?_,⟨PF C,HPX.out.keep hpr,C,L,rfl,rfl,⟨(HMM.out.mod).keep (Jy.block _ HMM.out.mod.EW) (Jy.block _ HMM.out.mod.BN),HI.out.st,HI.out.good⟩⟩,?_,fun i hi=>abU.out i hi,by rw[Rc.dJ];omega,by rw[Rc.dJ];obtain⟨_,h4⟩:=HI.out.ok;omega⟩
   ·exact Nat.le_trans HOX.out.size hon.size
   ·refine HOX.out.trans yV (fun i hi=> ?_)
    rcases abU.out i hi with h | h
    ·exact .inl (by simp[h])
    ·exact .inr h
  case pos=>
   have Om:(i:Int)<(LS.length:Int):=by omega
   have abY:pl<b:=by
    by_cases h:pl<b
    ·exact h
    ·have h1:=HL.out.1
     rw[Dq h]at h1
     have h2:(LS.drop i).length=0:=by rw[h1];rfl
     rw[List.length_drop]at h2;omega
   obtain⟨S,hS⟩: ∃S,jM k.D (k.dict:Nat) k.nice b pl r=S:=⟨_,rfl⟩
   have hst:=(sO (D:=k.D) (dict:=(k.dict:Nat)) (nice:=k.nice) (r:=r) abY HAB.out.2 HC.out.small (by have:=HC.out.dict;omega) HC.out.nice)
   have hto:=QW (D:=k.D) (dict:=(k.dict:Nat)) (nice:=k.nice) (r:=r) abY
   have hstep:=sK (D:=k.D) (dict:=(k.dict:Nat)) (nice:=k.nice) (r:=r) abY
   rw[hS]at hst hto hstep
   have hdrop:LS.drop i=S::(aO k.D (k.dict:Nat) k.nice b (b-(pl+max S.l 1)) (pl+max S.l 1) (fP S r)).1:=by
    rw[HL.out.1,hstep]
   have hcons:=List.drop_eq_getElem_cons hlt
   have hSi:LS[i]=S:=by rw[hcons]at hdrop;injection hdrop
   have hrest:LS.drop (i+1)=(aO k.D (k.dict:Nat) k.nice b (b-(pl+max S.l 1)) (pl+max S.l 1) (fP S r)).1:=by rw[hcons]at hdrop;injection hdrop
   have hTl:(k.D.take pl).length=pl:=by rw[List.length_take];have:=HAB.out.2;omega
   have hfit:=hst.fits
   obtain⟨s',st',r',Z,TF,hr',_,_,_⟩:=GN (g:=g) (lc:=k.lc) (lp:=k.lp) (pb:=k.pb) (a:=⟨k.D.take pl,st,r,x⟩) (k:=(S.k:Nat)) (b:=S.b) (l:=(S.l:Nat)) (d:=(S.d:Nat)) (q:=(S.r:Nat)) HI.out.good (by show kC r ((k.D.take pl).length:Int) _ _ _ _=true;rw[hTl];exact hfit)
   have hr2:r'=fP S r:=hr'.trans (qZ S hst.k r)
   obtain⟨M,hM⟩: ∃M,max S.l 1=M:=⟨_,rfl⟩
   have hMi:max (S.l:Int) 1=(M:Int):=by omega
   rw[hM]at hto hrest
   have HPA:Hid (lJ k.lc k.lp k.pb k.D LS a (st1,r1,(P1,st0))=lJ k.lc k.lp k.pb k.D (LS.drop (i+1)) (pl+M) (st',r',Z)):=Lib.hid (by
    rw[HL.out.2,hcons,hSi,←hM]
    exact Af TF)
   have xu:Hid (LS.drop (i+1)=(aO k.D (k.dict:Nat) k.nice b (b-(pl+M)) (pl+M) r').1):=Lib.hid (by rw[hrest,hr2])
   have hM1:1≤M∧M≤100000:=by have:=hst.short;have:=HC.out.small;omega
   have hMb:(M:Int)≤100000:=by omega
   have apo:(pl:Int)≤100000:=by have:=HC.out.small;have:=HAB.out.2;omega
   have Fb:(S.l:Int)≤273:=by have:=hst.short;omega
   obtain⟨X,hMS,hX⟩:=HI.out.ms
   have hsw:w8.heap.size≤wr.heap.size:=HI.out.only.size
   have Yk:WC.heap.size≤w8.heap.size:=Nat.le_trans oN.out.size OM.out.size
   have ae7: ∀j∈X,WC.heap.size≤j:=fun j hj=>by
    rcases hX j hj with h | h
    ·have:=HG8.out;have:=oN.out.size
     simp only[List.mem_cons,List.not_mem_nil,or_false]at h
     rcases h with rfl | rfl<;>omega
    ·exact Nat.le_trans Yk h
   have hgr:wr.heap[gS]? =wc.heap[gS]? :=by
    refine(HI.out.only.block gS (Nat.lt_of_lt_of_le HGS.out.2 OM.out.size) ?_).trans (OM.out.block gS HGS.out.2)
    have:=HG8.out;have:=HGS.out;have:=HCW.out
    simp only[List.mem_cons,List.not_mem_nil,or_false,not_or];omega
   obtain⟨q0,q1,q2,q3,q4⟩:=HSC.out i hlt wr hgr
   rw[hSi]at q0 q1 q2 q3 q4
   rw[Nat.mul_comm 5 i]at q0 q1 q2 q3 q4
   obtain⟨W2,hW2⟩: ∃W2,wr.alloc (.cells #[.int .i64 (S.k:Nat),.int .u8 (S.b.toNat:Nat),.int .i64 (S.l:Nat),.int .i64 (S.d:Nat),.int .i64 (S.r:Nat)] 158)=W2:=⟨_,rfl⟩
   have hrow2:W2.heap[wr.heap.size]? =some (.cells (bY [S]).toArray 158 (0,0)):=by rw[←hW2];exact heap_alloc_last _ _
   have hb2:Below wr.heap.size wr W2:=by rw[←hW2];exact(Below.refl _ _).alloc (Nat.le_refl _) _
   have hbw:Below WC.heap.size WC w8:=oN.out.trans (OM.out.mono oN.out.size)
   have adL:W2.heap[p]? =WC.heap[p]? :=by
    refine(hb2.block p (Nat.lt_of_lt_of_le QL.out (Nat.le_trans Yk hsw))).trans ((HI.out.only.block p (Nat.lt_of_lt_of_le QL.out Yk) ?_).trans (hbw.block p QL.out))
    have:=HG8.out;have:=QL.out;have:=oN.out.size;have:=ae4.out
    simp only[List.mem_cons,List.not_mem_nil,or_false,not_or];omega
   have hP2:iH W2 p k (PF C) had:=HPX.out.keep adL
   have hD2:Bytes W2 k.A k.D:=by
    have h1:Below w0.heap.size w0 w8:=HBX.out.trans (hbw.mono HBX.out.size)
    have h2:Below w0.heap.size w0 wr:=h1.trans (HI.out.only.below h1.size (fun j hj=>by
     have:=HG8.out;have:=ait.out;have:=HBX.out.size;have:=oN.out.size
     simp only[List.mem_cons,List.not_mem_nil,or_false]at hj
     rcases hj with rfl | rfl | rfl | rfl<;>omega))
    exact HC.out.bytes.below (h2.trans (hb2.mono h2.size))
   have Yl:Hid (∀W,Below W2.heap.size W2 W→Calls Tryz.prog 124 #[PF C,PF g,.slice k.A pl k.cD,yL (S.k:Nat) S.b (S.l:Nat) (S.d:Nat) (S.r:Nat)] W (Ig (s'.k≤2∧s'.r≤3∧s'.l≤273∧(s'.d:Int)≤4294967296∧st'<12∧eP r'∧(aj g).ok Z.2 (54*(b-(pl+M))+100)) (lN (.int .i64 0) (aj g) C L k.lc k.lp k.pb st' r' Z X W))):=Lib.hid (fun W hW=>by
    have hMW:MS (aj g) W C L k.lc k.lp k.pb st r x X:=(hMS.below hb2).below hW
    have hDW:Bytes W k.A (k.D.take pl):=(hD2.below hW).take pl
    have h:=aby hMW HC.out.lc HC.out.lp HC.out.pb HI.out.st HI.out.good (k:=54*(b-(pl+M))+100) k.A (k.D.take pl) k.cD hDW (by rw[hTl];have:=HC.out.cap;have:=HAB.out.2;omega) (by rw[hTl];have:=HC.out.small;have:=HAB.out.2;omega) (fun a' ha'=>by
     rw[HC.out.addr]at ha';injection ha' with ha';subst ha'
     have h1:=HC.out.blk;have h2:=ait.out;have h3:=HBX.out.size
     simp only[List.mem_cons,not_or]
     exact⟨by omega,by omega,fun hj=>by have:=ae7 _ hj;omega⟩) (S.k:Nat) S.b (S.l:Nat) (S.d:Nat) (S.r:Nat) (by rw[hTl];exact hfit) TF ((aj g).le HI.out.ok (by omega))
    rw[hTl]at h
    exact h)
   have Gp:=Lib.hid hX
   have HXG:=Lib.hid ae7
   have HXL:Hid (∀j∈X,j<wr.heap.size):=Lib.hid (fun j hj=>(aj g).lt hMS.io j hj)
   have amH:Hid (C<wr.heap.size∧L<wr.heap.size):=Lib.hid ⟨hMS.mod.EW,hMS.mod.BN⟩
   have ae8:Hid (∀W:World,W.heap[p]? =W2.heap[p]? →W.heap[wr.heap.size]? =W2.heap[wr.heap.size]? →W.cell? ⟨p,0,none⟩=some (.slice k.A k.D.length k.cD)∧W.cell? ⟨p,11,none⟩=some (PF C)∧W.cell? ⟨wr.heap.size,0,none⟩=some (.int .i64 (S.k:Nat))∧W.cell? ⟨wr.heap.size,1,none⟩=some (.int .u8 (S.b.toNat:Nat))∧W.cell? ⟨wr.heap.size,2,none⟩=some (.int .i64 (S.l:Nat))∧W.cell? ⟨wr.heap.size,3,none⟩=some (.int .i64 (S.d:Nat))∧W.cell? ⟨wr.heap.size,4,none⟩=some (.int .i64 (S.r:Nat))):=Lib.hid (fun W h1 h2=>by
    have hP:=hP2.keep h1
    have hr:=h2.trans hrow2
    exact⟨hP.data,hP.VB,by rw[cell_of_row W _ _ _ _ _ hr];rfl,by rw[cell_of_row W _ _ _ _ _ hr];rfl,by rw[cell_of_row W _ _ _ _ _ hr];rfl,by rw[cell_of_row W _ _ _ _ _ hr];rfl,by rw[cell_of_row W _ _ _ _ _ hr];rfl⟩)
   have BZ:Hid (∀w':World,jd (aj g) C L k.lc k.lp k.pb st' r' Z X W2.drew w'→w'.cell? ⟨p,0,none⟩=some (.slice k.A k.D.length k.cD)∧w'.cell? ⟨p,11,none⟩=some (PF C)∧w'.cell? ⟨wr.heap.size,0,none⟩=some (.int .i64 (S.k:Nat))∧w'.cell? ⟨wr.heap.size,1,none⟩=some (.int .u8 (S.b.toNat:Nat))∧w'.cell? ⟨wr.heap.size,2,none⟩=some (.int .i64 (S.l:Nat))∧w'.cell? ⟨wr.heap.size,3,none⟩=some (.int .i64 (S.d:Nat))∧w'.cell? ⟨wr.heap.size,4,none⟩=some (.int .i64 (S.r:Nat))):=Lib.hid (fun w' hw=>by
    obtain⟨X',_,hon,_⟩:=hw
    have hps:p<wr.heap.size:=Nat.lt_of_lt_of_le QL.out (Nat.le_trans Yk hsw)
    refine ae8.out w' (hon.block p (Nat.lt_of_lt_of_le hps hb2.size) ?_) (hon.block wr.heap.size (by show wr.heap.size<W2.heap.size;exact(Array.getElem?_eq_some_iff.1 hrow2).1) ?_)
    ·have:=ae4.out;have h3:=QL.out
     simp only[List.mem_cons,not_or]
     exact⟨this.1,this.2,fun hj=>by have:=HXG.out _ hj;omega⟩
    ·have:=amH.out
     simp only[List.mem_cons,not_or]
     exact⟨by omega,by omega,fun hj=>by have:=HXL.out _ hj;omega⟩)
   have HT:=Lib.hid (And.intro hlt (And.intro hto hM1))
   have HB2:=Lib.hid hb2
   have HW2:=Lib.hid hW2
   have hpd:(pl:Int)≤(k.D.length:Int):=by have:=HAB.out.2;omega
   have hpc:(pl:Int)≤(k.cD:Int):=by have:=HAB.out.2;have:=HC.out.cap;omega
   have hdc:(k.D.length:Int)≤(k.cD:Int):=by have:=HC.out.cap;omega
   obtain⟨p0,p11,b0,b1,b2,b3,b4⟩:=ae8.out W2 rfl rfl
   clear hS hst hto hstep hdrop hcons hSi hrest hTl hfit TF hr' hr2 hM hMS hX hsw Yk ae7 hgr hrow2 hb2 hbw adL hP2 hD2 hW2 hlt hM1 amD hi abY
   go_upto_region 14 with fail
   rw[HW2.out]
   have hdr:Below W2.heap.size W2 W2.drew:=⟨rfl,rfl,rfl,Nat.le_refl _,fun _ _=>rfl⟩
   have hc0:=And.intro p0 (And.intro p11 (And.intro b0 (And.intro b1 (And.intro b2 (And.intro b3 b4)))))
   clear p0 p11 b0 b1 b2 b3 b4 q0 q1 q2 q3 q4
   refine wp_region_held_drew (S:=fun w2=>w2.cell? ⟨p,0,none⟩=some (.slice k.A k.D.length k.cD)∧w2.cell? ⟨p,11,none⟩=some (PF C)∧w2.cell? ⟨wr.heap.size,0,none⟩=some (.int .i64 (S.k:Nat))∧w2.cell? ⟨wr.heap.size,1,none⟩=some (.int .u8 (S.b.toNat:Nat))∧w2.cell? ⟨wr.heap.size,2,none⟩=some (.int .i64 (S.l:Nat))∧w2.cell? ⟨wr.heap.size,3,none⟩=some (.int .i64 (S.d:Nat))∧w2.cell? ⟨wr.heap.size,4,none⟩=some (.int .i64 (S.r:Nat))) (by kernel_rfl) hc0 (fun hS=> ?_)
   refine tq 0 hS ?_
   refine tq 1 hS ?_
   refine tq 2 hS ?_
   refine tp 3 rfl (fun w hSw=>by obtain⟨q0,q11,q1,q2,q3,q4,q5⟩:=hSw;go_simp;all_goals(with_reducible rfl)) hS ?_
   refine tq 4 hS ?_
   refine tq 5 hS ?_
   refine tq 6 hS ?_
   refine tq 7 hS ?_
   refine tp 8 rfl (fun w hSw=>by obtain⟨q0,q11,q1,q2,q3,q4,q5⟩:=hSw;go_simp;all_goals(with_reducible rfl)) hS ?_
   refine tq 9 hS ?_
   refine tq 10 hS ?_
   refine tp 11 rfl (fun w hSw=>by obtain⟨q0,q11,q1,q2,q3,q4,q5⟩:=hSw;go_simp;all_goals(with_reducible rfl)) hS ?_
   refine tr 12 (fun K hK=> ?_)
   go_simp
   refine(Yl.out _ hdr).mono ?_
   rintro e x12 ⟨⟨rfl,adM⟩,hQ⟩
   have HWE:=Lib.hid adM
   have HQQ:=Lib.hid hQ
   clear adM hQ
   have g12:=BZ.out _ HWE.out
   go_wp2_with fail
   refine hK.out _ _ g12 (fun _=> ?_)
   clear hK K
   refine tq 13 g12 ?_
   refine wpAnyH_done (by kernel_rfl) ?_ _
   obtain⟨_,_,_,_,b2,_,_⟩:=BZ.out x12 HWE.out
   have HI2:Hid (TD k C L g [g,o] w8 x12 st' r' Z (54*(b-(pl+M))+100)):=Lib.hid (by
    have amK:Below wr.heap.size wr W2.drew:=HB2.out.trans (hdr.mono HB2.out.size)
    exact TD.put Gp.out HI.out.only amK HWE.out HQQ.out.2.2.2.2.1 HQQ.out.2.2.2.2.2.1 HQQ.out.2.2.2.2.2.2)
   have HT2:Hid (i+1≤LS.length∧pl+M≤b):=Lib.hid ⟨by have:=HT.out.1;omega,by have:=HT.out.2.1;omega⟩
   have e1:Hid ((pl:Int)+(M:Int)=((pl+M:Nat):Int)):=Lib.hid (by omega)
   have e2:Hid ((i:Int)+1=((i+1:Nat):Int)):=Lib.hid (by omega)
   clear hS g12 hdr hc0 ae8 BZ
   go_wp2_with fail
   go_roundw
   case rel=>exact⟨i+1,pl+M,st',r',Z,by rw[←e1.out],by rw[←e2.out],HI2,Lib.hid ⟨xu.out,HPA.out⟩,HT2.out.1,HT2.out.2⟩
   case measure=>have:=HT.out.1;simp[intOf];omega
end Go.Proofs.YtgfpocdiojifoaaGreatDoor
