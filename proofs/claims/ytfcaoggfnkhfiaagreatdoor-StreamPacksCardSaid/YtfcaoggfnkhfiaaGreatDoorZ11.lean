import Derived.Test.YtfcaoggfnkhfiaaGreatDoorZ10
import Derived.Lib.MinMax
import Derived.Deep.RegionHeld3
import Derived.OwnWalkIn
namespace Go.Proofs.YtfcaoggfnkhfiaaGreatDoor
set_option maxRecDepth 100000
set_option maxHeartbeats 8000000
open Go.RowKit Go.Proofs.Tryz
variable{had:Bool}{dict:Int}{Y:List Nat}{l:List Sy}{D:An}{B C L a b bD base c cF g mp n oD p st':Nat}{AF:As}{r r':R4}{s:Sy}{t:TypeId}{v:Value}{w w' w0:Lo}
structure PkC(w0:Lo)(k:ip)(AF:As)(cF mp B bD oD:Nat):Prop where
 ready:ry w0 k.F AF cF k.D (k.dict:Nat) k.nice mp B
 addr:k.A=some ⟨bD,oD,none⟩
 bytes:Bytes w0 k.A k.D
 aE:bD<w0.heap.size
 cap:k.D.length<=k.cD
 small:k.D.length<=100000
 dict:1<=k.dict
 nice:k.nice<=273
 lc:k.lc<=4
 lp:k.lp<=4
 pb:k.pb<=4
 JY:k.lc+k.lp<=4
def iN(s:gF):Nat×R4×(Nat->Nat):=s.getD Gv
def Q_(w:Lo)(p:Nat)(k:ip)(had:Bool)(Y:List Nat)(r:List UInt8×(Nat×R4×(Nat->Nat)))(e:Ending)(w':Lo):Prop:=
 ∃v Y',e= .returned (.tuple #[v,.int .i64 0])/\Own w.heap.size w' v r.1/\Pk w' p k (some r.2) had Y'/\aM (p::Y) w w'/\(∀i∈Y',i∈Y\/w.heap.size<=i)/\5<=r.1.length/\r.1.length+100<=140737488355328
theorem R_{k:ip}(hM:dp w C L k.lc k.lp k.pb 0 (1,1,1,1) (λ_=>1024))(hb:Below w.heap.size w w'):Rj w' k C L Gv:=
 ⟨hM.aU (hb.block _ hM.Hq) (hb.block _ hM.FX),ar,by unfold fp Gv;decide⟩
theorem JZ{lc lp pb:Nat}{st:Nat}{x:im}{s':Sy}{Z:im}(h:Md.sym (ao g) lc lp pb st r (D.take p) (s.k:Nat) s.b (s.l:Nat) (s.d:Nat) (s.r:Nat) x=(s',st',r',Z)):
  gO lc lp pb D (s::l) p (st,r,x)=gO lc lp pb D l (p+max s.l 1) (st',r',Z):=by
 have e:=(ai7 g lc lp pb st r (D.take p) (s.k:Nat) s.b (s.l:Nat) (s.d:Nat) (s.r:Nat) x).symm.trans h;show gO lc lp pb D l (p+max s.l 1) ((Md.sym (ao 0) lc lp pb st r (D.take p) (s.k:Nat) s.b (s.l:Nat) (s.d:Nat) (s.r:Nat) x).2)=_;rw[e]
structure Rv(k:ip)(C L g:Nat)(X0:List Nat)(w8 wr:Lo)(st:Nat)(r:R4)(x:im)(n:Nat):Prop where
 ms: ∃X,MS (ao g) wr C L k.lc k.lp k.pb st r x X/\ ∀i∈X,i∈X0\/w8.heap.size<=i
 only:aM (C::L::X0) w8 wr
 st:st<12
 ur:fp r
 ok:(ao g).ok x.2 n
theorem Rv.put{k:ip}{X0 X:List Nat}{w8 wr w1 w2:Lo}{Z:im}(hX: ∀i∈X,i∈X0\/w8.heap.size<=i)(ho:aM (C::L::X0) w8 wr)(hb:Below wr.heap.size wr w1)(hw:iY (ao g) C L k.lc k.lp k.pb st' r' Z X w1 w2)(h1:st'<12)(h2:fp r')(h3:(ao g).ok Z.2 n):
  Rv k C L g X0 w8 w2 st' r' Z n:=by
 obtain⟨X',hM,dm,ZV⟩:=hw;have kE:aM (C::L::X0) w8 w1:=ho.trans (aM.cJ hb) (λi hi=> .inl hi);refine⟨⟨X',hM,λi hi=> ?_⟩,kE.trans dm (λi hi=> ?_),h1,h2,h3⟩
 ·rcases ZV i hi with h|h;·exact hX i h
  ·exact .inr (a8 kE.size h)
 ·rcases List.mem_cons.1 hi with rfl|hi;·exact .inl ah
  ·rcases List.mem_cons.1 hi with rfl|hi;·exact .inl ah
   ·rcases hX i hi with h|h;·exact .inl fO
    ·exact .inr h
theorem S_{k:ip}{s:gF}(c:PkC w0 k AF cF mp B bD oD)(hb:Below w0.heap.size w0 w)(h:Pk w p k s had Y)(hp:w0.heap.size<=p)(hY: ∀i∈Y,w0.heap.size<=i)(a b:Nat)(Ln:a<b)(eX:b<=k.D.length):
  Calls prog 107 #[PF p,.int .i64 a,.int .i64 b] w (Q_ w p k had Y (iT k a b (iN s))):=by
 obtain⟨cv,hP,hC⟩:=h.ex;have HC:=ae c;have HB:=ae hb;have HP:=ae hP;have HCC:=ae hC;have HPY:=ae (ap hp hY);have sW:=ae (ap Ln eX);have LQ:Hid (∀W,aq w W->W.cell? ⟨p,1,none⟩=some (.int .i64 k.lc)/\W.cell? ⟨p,2,none⟩=some (.int .i64 k.lp)/\W.cell? ⟨p,3,none⟩=some (.int .i64 k.pb)):=ae (λW hW=>by
  have h1:=hP.below hW;exact⟨h1.lc,h1.lp,h1.pb⟩)
 have Rw:=ae (λW=>Es k.lc k.lp k.pb W c.lc c.lp c.pb c.JY);obtain⟨cp,rfl⟩: ∃q,cv= .pointer q:=by
  cases s with
  | none=>exact⟨_,hC.1⟩
  | some s=>obtain⟨C,L,e,_⟩:=hC;exact⟨_,e⟩
 have c11:=hP.Lm;have Ic:(a:Int)<b:=aa;have Jt:(k.D.length:Int)<=100000:=av c.small;have sH:(b:Int)<=k.D.length:=aa;clear c hb h hp hY Ln eX hP hC;go_enter func107,ntmps107;go_upto_if 22 with fail;go_cut []from 8 (λwx=> ∃C L,gE wx p k (PF C) had/\Rj wx k C L (iN s)/\aM (p::Y) w wx/\ ∀i∈[C,L],i∈Y\/w.heap.size<=i);case first=>
  cases s with
  | some s=>
   obtain⟨C,L,Rx,rfl,hc⟩:=HCC.out;injection Rx with Rx;subst Rx;go_wp2_with fail;go_meet;exact⟨C,L,HP.out,hc,aM.refl _ _,λi hi=> .inl hi⟩
  | none=>
   obtain⟨Rx,rfl⟩:=HCC.out;injection Rx with Rx;subst Rx;go_upto_region 2 with fail;have bu:aq w w.drew:=⟨rfl,rfl,rfl,aF _,λ_ _=>rfl⟩
   refine wp_region_held_drew (S:=λw'=>aq w w') ak bu (λhS=> ?_);refine ag 0 hS (h:=ag 1 hS (h:=ag 2 hS (h:=ag 3 hS (h:=cC 4 LQ.out hS (h:=ag 5 hS (h:=ag 6 hS (h:=ag 7 hS (h:=ag 8 hS (h:=cC 9 LQ.out hS (h:=ag 10 hS (h:=ag 11 hS (h:= ?_))))))))))));refine ag 12 hS (h:=ag 13 hS (h:=cC 14 LQ.out hS (h:= ?_)));refine aO 15 (λK hK=> ?_);go_simp;refine(Rw _).mono ?_;rintro e w1 ⟨C,L,rfl,ij,aI,Hx,VA⟩;have g15:=aQ bu aI;go_wp2_with fail;refine hK _ _ g15 (λ_=> ?_);clear hK K;refine ag 16 g15 (h:=ag 17 g15 (h:=ag 18 g15 (h:=ag 19 g15 (h:=ag 20 g15 (h:= ?_)))));refine wpAnyH_done ak ?_ _;have gL:=ae g15;have mT:=ae ij;have HCG:Hid (w.heap.size<=C/\w.heap.size<=L):=ae ⟨Hx,VA⟩;have xm:=HP.below g15;have f11:=xm.frozen 11;have k11:=xm.Lm;clear hS g15 ij Hx VA aI bu xm;go_wp2_with fail;go_meet;have Er:p<w.heap.size:=HP.lt;have EJ:=(HP.below gL.out).V4 (PF C);have Mv:aq w1 (w1.setCell ⟨p,11,none⟩ (PF C))\/True:= .inr trivial;refine⟨C,L,EJ,?_,?_,λi hi=> ?_⟩
   ·have hc:=R_ (k:=k) mT.out (aP _ _);refine hc.aU ?_ ?_;·exact af _ _ _ _ (by show C≠p;have:=HCG.1;omega)
    ·exact af _ _ _ _ (by show L≠p;have:=HCG.2;omega)
   ·exact(aM.cJ gL.out).setCell (.inl ah) _
   ·simp only[dc,fM,or_false]at hi;rcases hi with rfl|rfl;·exact .inr HCG.1
    ·exact .inr HCG.2
 case rest=>
 obtain⟨WC,hWC⟩: ∃W,W=wc:=⟨_,rfl⟩
 subst hWC;obtain⟨C,L,hPx,hCx,hox,akb⟩:=hcut;obtain⟨⟨yO,r1,P1⟩,kQ⟩: ∃q,iN s=q:=⟨_,rfl⟩
 rw[kQ]at hCx;have HPX:=ae hPx;have J0:=ae hCx;have HOX:=ae hox;have T_:=ae akb;have akc:aq w0 WC:=HB.trans (HOX.below HB.size (λi hi=>by
  rcases List.mem_cons.1 hi with rfl|hi;·exact HPY.1
  ·exact HPY.2 i hi))
 have uW:=ae akc;have Vn:Hid (w0.heap.size<=C/\w0.heap.size<=L):=ae (by
  constructor
  ·rcases T_.out C ah with h|h;·exact HPY.2 _ h
   ·exact a8 HB.size h
  ·rcases T_.out L ah with h|h;·exact HPY.2 _ h
   ·exact a8 HB.size h)
 have akd:p≠C/\p≠L:=by have h:=(show p7 WC k (PF C) [C,L] (some (yO,r1,P1))from⟨C,L,rfl,rfl,hCx⟩).apart hPx ar ar;simp only[dc,fM,or_false,not_or]at h;exact h
 have aep:=ae akd;have HCX:Hid (∀W,aq WC W->W.cell? ⟨p,0,none⟩=some (.slice k.A k.D.length k.cD)/\W.cell? ⟨p,10,none⟩=some (PF k.F)/\W.cell? ⟨p,11,none⟩=some (PF C)):=ae (λW hW=>by
  have h1:=HPX.below hW;exact⟨h1.data,h1.find,h1.Lm⟩)
 have ake:Hid (∀W,aq WC W->Calls prog 150 #[PF C] W (Ef r1.val W)):=ae (λW hW=>Jd (J0.mod.aU (hW.block _ J0.mod.Hq) (hW.block _ J0.mod.FX)));have⟨LS,Ml⟩:=ex (rA k a b r1);have⟨rS,hrS⟩:=ex ((bX k.D (k.dict:Nat) k.nice b (b-a) a r1).2);have Ry:Hid (∀W,aq WC W->Calls prog 149 #[PF k.F,.slice k.A k.D.length k.cD,.int .i64 a,.int .i64 b,r1.val] W (JE LS rS W)):=ae (λW hW=>by
  have bZ:aq w0 W:=aQ uW.out hW;have h:=JF k.F AF k.A cF k.cD k.D (k.dict:Nat) k.nice mp B a b r1 W (HC.ready.below (bZ)) (HC.bytes.below bZ) HC.cap (Nat.le_of_lt sW.1) sW.2;rw[hrS,show(bX k.D (k.dict:Nat) k.nice b (b-a) a r1).1=LS from Ml]at h;exact h)
 have ue:=ae Ml;have sD:=ae kQ;clear hPx hCx hox akb kQ akc akd Ml hrS c11;go_upto_region 6 with fail;go_cut [10,12]from 10 (λPo Ms wx=>Ms= .int .i64 0/\f8 WC.heap.size wx Po LS/\aq WC wx);case first=>
  have bu:aq WC WC.drew:=⟨rfl,rfl,rfl,aF _,λ_ _=>rfl⟩
  refine wp_region_held_drew (S:=λw'=>aq WC w') ak bu (λhS=> ?_);refine ag 0 hS (h:=ag 1 hS (h:=ag 2 hS (h:=cC 3 HCX.out hS (h:=ag 4 hS (h:=ag 5 hS (h:=ag 6 hS (h:=cC 7 HCX.out hS (h:=ag 8 hS (h:=ag 9 hS (h:=ag 10 hS (h:=ag 11 hS (h:= ?_))))))))))));refine ag 12 hS (h:=cC 13 HCX.out hS (h:= ?_));refine wpAnyH_ready (rs:=[14,20]) ak ah ?_;refine(AllReadyH.cons rfl (λK hK=> ?_) (AllReadyH.cons rfl (λK hK=> ?_) AllReadyH.nil))
  ·skip;go_simp;refine(ake _ bu).mono ?_;rintro e Aq ⟨rfl,vZ⟩;have g14:=aQ bu vZ;have LM:=ae vZ;clear vZ;go_wp2_with fail;refine hK _ _ g14 (λ_=> ?_);clear hK K;refine wpAnyH_ready (rs:=[15,20]) ak ah ?_;refine(AllReadyH.cons rfl (λK hK=> ?_) (AllReadyH.cons rfl (λK hK=> ?_) AllReadyH.nil));·skip;go_simp;refine(Ry Aq g14).mono ?_;rintro e xy ⟨v15,rfl,Bw,rE⟩;have g15:=aQ g14 rE;have gL:=ae g15;have YZ:=ae Bw;have U_:=ae rE;clear rE Bw;go_wp2_with fail;refine hK _ _ gL.out (λ_=> ?_);clear hK K;refine ag 16 gL.out (h:=ag 17 gL.out (h:=ag 18 gL.out (h:=ag 19 gL.out (h:= ?_))));refine aO 20 (λK hK=> ?_);go_simp;refine hK _ _ (gL.alloc gL.size _) (λ_=> ?_);clear hK K;refine ag 21 (gL.alloc gL.size _) (h:= ?_);refine aO 22 (λK hK=> ?_);go_simp;refine hK _ _ (gL.alloc gL.size _) (λ_=> ?_);clear hK K;refine ag 23 (gL.alloc gL.size _) (h:= ?_);refine wpAnyH_done ak ?_ _;go_wp2_with fail;go_meet;exact⟨rfl,LJ,FM⟩
   ·skip;go_simp;obtain⟨WA,V_⟩: ∃W,Aq.alloc (.cells #[.int .i64 0,.int .i64 0,.int .i64 0,.int .i64 0] 152)=W:=⟨_,rfl⟩
    rw[V_];have gA:aq WC WA:=(by rw[<-V_];have h:=((g14:aq WC Aq).alloc (by first|exact aF _|exact g14.size) (.cells #[.int .i64 0,.int .i64 0,.int .i64 0,.int .i64 0] 152));exact⟨h.os,h.tape,h.output,h.size,h.block⟩);have oQ:WA.heap[Aq.heap.size]? =some (.cells #[.int .i64 0,.int .i64 0,.int .i64 0,.int .i64 0] 152 (0,0)):=(by rw[<-V_];exact heap_alloc_new _ _);have HRA:=ae oQ;have qP:Hid (WC.heap.size<=Aq.heap.size/\Aq.heap.size<WA.heap.size):=ae ⟨g14.size,(bU oQ)⟩;clear V_ oQ;refine hK _ _ gA (λ_=> ?_);clear hK K;refine aO 15 (λK hK=> ?_);go_simp;refine(Ry WA gA).mono ?_;rintro e xy ⟨v15,rfl,Bw,rE⟩;have g15:=aQ gA rE;have gL:=ae g15;have YZ:=ae Bw;have U_:=ae rE;clear rE Bw;go_wp2_with fail;refine hK _ _ gL.out (λ_=> ?_);clear hK K;refine ag 16 gL.out (h:=ag 17 gL.out (h:=ag 18 gL.out (h:=ag 19 gL.out (h:=ag 21 gL.out (h:= ?_)))));refine aO 22 (λK hK=> ?_);go_simp;have kM:=(U_.block _ qP.2).trans HRA.out;have z0:xy.cell? ⟨Aq.heap.size,0,none⟩=some (.int .i64 0):=m8;have z1:xy.cell? ⟨Aq.heap.size,1,none⟩=some (.int .i64 0):=m8;have z2:xy.cell? ⟨Aq.heap.size,2,none⟩=some (.int .i64 0):=m8;have z3:xy.cell? ⟨Aq.heap.size,3,none⟩=some (.int .i64 0):=m8;have IY:xy.frozen? ⟨Aq.heap.size,0,none⟩=false:=aS xy _ 0 _ _ kM;have IZ:xy.frozen? ⟨Aq.heap.size,1,none⟩=false:=aS xy _ 1 _ _ kM;have UB:xy.frozen? ⟨Aq.heap.size,2,none⟩=false:=aS xy _ 2 _ _ kM;have UC:xy.frozen? ⟨Aq.heap.size,3,none⟩=false:=aS xy _ 3 _ _ kM;go_simp;refine hK _ _ ((((gL.setCell (p:=⟨Aq.heap.size,0,none⟩) qP.1 _).setCell (p:=⟨Aq.heap.size,1,none⟩) qP.1 _).setCell (p:=⟨Aq.heap.size,2,none⟩) qP.1 _).setCell (p:=⟨Aq.heap.size,3,none⟩) qP.1 _) (λ_=> ?_);clear hK K;refine ag 23 ((((gL.setCell (p:=⟨Aq.heap.size,0,none⟩) qP.1 _).setCell (p:=⟨Aq.heap.size,1,none⟩) qP.1 _).setCell (p:=⟨Aq.heap.size,2,none⟩) qP.1 _).setCell (p:=⟨Aq.heap.size,3,none⟩) qP.1 _) (h:= ?_);refine wpAnyH_done ak ?_ _;go_wp2_with fail;go_meet;exact⟨rfl,LJ,FM⟩
  ·skip;go_simp;obtain⟨WA,V_⟩: ∃W,(WC.alloc (.cells #[.int .i64 0,.int .i64 0,.int .i64 0,.int .i64 0] 152)).drew=W:=⟨_,rfl⟩
   rw[V_];have gA:aq WC WA:=(by rw[<-V_];have h:=((aP _ _:aq WC WC).alloc (by first|exact aF _|exact g14.size) (.cells #[.int .i64 0,.int .i64 0,.int .i64 0,.int .i64 0] 152));exact⟨h.os,h.tape,h.output,h.size,h.block⟩);have oQ:WA.heap[WC.heap.size]? =some (.cells #[.int .i64 0,.int .i64 0,.int .i64 0,.int .i64 0] 152 (0,0)):=(by rw[<-V_];exact heap_alloc_new _ _);have HRA:=ae oQ;have qP:Hid (WC.heap.size<=WC.heap.size/\WC.heap.size<WA.heap.size):=ae ⟨aF _,(bU oQ)⟩;clear V_ oQ;refine hK _ _ gA (λ_=> ?_);clear hK K;refine aO 14 (λK hK=> ?_);go_simp;refine(ake _ gA).mono ?_;rintro e Aq ⟨rfl,vZ⟩;have g14:=aQ gA vZ;have LM:=ae vZ;clear vZ;go_wp2_with fail;refine hK _ _ g14 (λ_=> ?_);clear hK K;refine aO 15 (λK hK=> ?_);go_simp;refine(Ry Aq g14).mono ?_;rintro e xy ⟨v15,rfl,Bw,rE⟩;have g15:=aQ g14 rE;have gL:=ae g15;have YZ:=ae Bw;have U_:=ae rE;clear rE Bw;go_wp2_with fail;refine hK _ _ gL.out (λ_=> ?_);clear hK K;refine ag 16 gL.out (h:=ag 17 gL.out (h:=ag 18 gL.out (h:=ag 19 gL.out (h:=ag 21 gL.out (h:= ?_)))));refine aO 22 (λK hK=> ?_);go_simp;have kM:=(U_.block _ (db qP.2 LM.size)).trans ((LM.block _ qP.2).trans HRA.out);have z0:xy.cell? ⟨WC.heap.size,0,none⟩=some (.int .i64 0):=m8;have z1:xy.cell? ⟨WC.heap.size,1,none⟩=some (.int .i64 0):=m8;have z2:xy.cell? ⟨WC.heap.size,2,none⟩=some (.int .i64 0):=m8;have z3:xy.cell? ⟨WC.heap.size,3,none⟩=some (.int .i64 0):=m8;have IY:xy.frozen? ⟨WC.heap.size,0,none⟩=false:=aS xy _ 0 _ _ kM;have IZ:xy.frozen? ⟨WC.heap.size,1,none⟩=false:=aS xy _ 1 _ _ kM;have UB:xy.frozen? ⟨WC.heap.size,2,none⟩=false:=aS xy _ 2 _ _ kM;have UC:xy.frozen? ⟨WC.heap.size,3,none⟩=false:=aS xy _ 3 _ _ kM;go_simp;refine hK _ _ ((((gL.setCell (p:=⟨WC.heap.size,0,none⟩) qP.1 _).setCell (p:=⟨WC.heap.size,1,none⟩) qP.1 _).setCell (p:=⟨WC.heap.size,2,none⟩) qP.1 _).setCell (p:=⟨WC.heap.size,3,none⟩) qP.1 _) (λ_=> ?_);clear hK K;refine ag 23 ((((gL.setCell (p:=⟨WC.heap.size,0,none⟩) qP.1 _).setCell (p:=⟨WC.heap.size,1,none⟩) qP.1 _).setCell (p:=⟨WC.heap.size,2,none⟩) qP.1 _).setCell (p:=⟨WC.heap.size,3,none⟩) qP.1 _) (h:= ?_);refine wpAnyH_done ak ?_ _;go_wp2_with fail;go_meet;exact⟨rfl,LJ,FM⟩
 case rest=>
 obtain⟨GC,hOS,DZ⟩:=hcut;subst GC;obtain⟨AL,cL,e10,hcL,hmL,cZ⟩:=hOS.form;subst e10;have aet:0<LS.length:=by rw[<-ue.out];unfold rA;rw[jG sW.1];simp
 obtain⟨gS,hAL,hgS,_,_,_,_,_⟩:=cZ 0 aet;subst hAL;have WB:WC.heap.size<=gS:=(hOS.lt gS rfl).1;have TD:Hid (∀n (hn:n<LS.length) (W:Lo),W.heap[gS]? =wc.heap[gS]? ->W.cell? ⟨gS,5*n,none⟩=some (.int .i64 (LS[n].k:Nat))/\W.cell? ⟨gS,5*n+1,none⟩=some (.int .u8 (LS[n].b.toNat:Nat))/\W.cell? ⟨gS,5*n+2,none⟩=some (.int .i64 (LS[n].l:Nat))/\W.cell? ⟨gS,5*n+3,none⟩=some (.int .i64 (LS[n].d:Nat))/\W.cell? ⟨gS,5*n+4,none⟩=some (.int .i64 (LS[n].r:Nat))):=ae (λn hn W hW=>by
  obtain⟨g',e',_,c0,c1,c2,c3,c4⟩:=cZ n hn;injection e' with e';injection e' with e' _ _;subst e';exact⟨(f5 (a:=⟨gS,_,none⟩) hW).trans c0,(f5 (a:=⟨gS,_,none⟩) hW).trans c1,(f5 (a:=⟨gS,_,none⟩) hW).trans c2,(f5 (a:=⟨gS,_,none⟩) hW).trans c3,(f5 (a:=⟨gS,_,none⟩) hW).trans c4⟩)
 have Zu:Hid (WC.heap.size<=gS/\gS<wc.heap.size):=ae ⟨WB,hgS⟩;have ard:(LS.length:Int)<=cL:=aa;have arf:(LS.length:Int)<=9223372036854775807:=aa;have rF:=ae DZ;have akg:C<WC.heap.size/\L<WC.heap.size:=⟨J0.mod.Hq,J0.mod.FX⟩
 have W_:=ae akg;have Hw:=ae (show p<WC.heap.size from HPX.lt);clear hOS hcL hmL cZ hgS WB DZ akg;go_upto_region 10 with(refine(ZP _).mono ?_;rintro e w8 ⟨g,o,cap,rfl,hE8,rG,J1,qA⟩;have HE8:=ae hE8;have qB:=ae rG;have TW:=ae (ap J1 qA);clear hE8 rG J1 qA)
 have HM8:Hid (MS (ao g) w8 C L k.lc k.lp k.pb yO r1 (P1,Ec) [g,o]):=ae (by
  have fE:=aQ rF.out qB.out;refine⟨J0.mod.aU (fE.block _ W_.1) (fE.block _ W_.2),⟨o,cap,rfl,HE8.out⟩,?_,?_⟩;·have:=TW.out;have:=W_.out;have:=rF.size;simp only[dc,fM,or_false,not_or];omega
  ·have:=TW.out;have:=W_.out;have:=rF.size;simp only[dc,fM,or_false,not_or];omega)
 have HI8:Hid (Rv k C L g [g,o] w8 w8 yO r1 (P1,Ec) (54*(b-a)+100)):=ae ⟨⟨_,HM8.out,λi hi=> .inl hi⟩,aM.refl _ _,J0.st,J0.ur,⟨Um,by have:=sW.out;have:=HC.small;show 1+0+2*_<=_;omega⟩⟩;go_wp2_with fail;go_loopw [14,76] (λpv iv wr=> ∃(i pl st:Nat) (r:R4) (x:im),pv= .int .i64 pl/\iv= .int .i64 (i:Nat)/\Hid (Rv k C L g [g,o] w8 wr st r x (54*(b-pl)+100))/\Hid (LS.drop i=(bX k.D (k.dict:Nat) k.nice b (b-pl) pl r).1/\gO k.lc k.lp k.pb k.D LS a (yO,r1,(P1,Ec))=gO k.lc k.lp k.pb k.D (LS.drop i) pl (st,r,x))/\i<=LS.length/\pl<=b) (λ_ iv _=>LS.length-(intOf iv).toNat);·exact⟨0,a,yO,r1,(P1,Ec),rfl,rfl,HI8,ae ⟨by rw[<-ue.out];rfl,rfl⟩,cI _,Nat.le_of_lt sW.1⟩
 ·
  obtain⟨i,pl,st,r,x,rfl,rfl,HI,HL,hi,aeu⟩:=hrel;by_cases aV:i<LS.length;case neg=>
   have Jr: ¬(i:Int)<LS.length:=aa;have WD:LS.drop i=[]:=pT aa;have TX:Hid (gO k.lc k.lp k.pb k.D LS a (yO,r1,(P1,Ec))=(st,r,x)):=ae (by rw[HL.2,WD];rfl);obtain⟨X,hM,hX⟩:=HI.ms;obtain⟨oE,aki,rfl,hE⟩:=hM.io;have bK:=HI.ok;have HKE:Hid (1+x.2.k+4<=140737488355328):=ae (by obtain⟨_,h4⟩:=bK;omega);have gx:=ae (QT g oE aki x.2 wr hE HKE.out);have Wj:=ae hM;clear aV WD hM hX hE bK hi;go_wp2_with fail;refine gx.mono ?_;rintro e w9 ⟨v9,rfl,Dt,Du⟩;go_wp2;go_ret2;have Ed:iT k a b (iN s)=(Rc.be (5+x.2.k) x.2.v,(st,r,x.1)):=(by rw[sD.out];unfold iT;rw[ue.out];show(Rc.be (5+(gO k.lc k.lp k.pb k.D LS a (yO,r1,(P1,Ec))).2.2.2.k) _,_)=_;rw[TX.out]);rw[Ed];have dm:aM [C,L] WC wr:=by
    have h1:aM [C,L] WC w8:=aM.cJ (aQ rF.out qB.out);refine h1.trans HI.only (λi hi=> ?_);rcases List.mem_cons.1 hi with rfl|hi;·exact .inl ah
    ·rcases List.mem_cons.1 hi with rfl|hi;·exact .inl ah
     ·right;have:=TW.out;have:=rF.size;simp only[dc,fM,or_false]at hi;rcases hi with rfl|rfl<;>omega
   have Bt:aM [C,L] WC w9:=dm.trans (aM.cJ Du) (λi hi=> .inl hi);have Ho:w9.heap[p]? =WC.heap[p]? :=Bt.block p Hw.out (by simp only[dc,fM,or_false,not_or];exact aep.out);refine⟨v9,[C,L],rfl,Dt.weaken ?_,⟨PF C,HPX.aU Ho,C,L,rfl,rfl,⟨(Wj.mod).aU (Du.block _ Wj.mod.Hq) (Du.block _ Wj.mod.FX),HI.st,HI.ur⟩⟩,?_,λi hi=>T_.out i hi,FJ,by rw[Rc.gI];obtain⟨_,h4⟩:=HI.ok;omega⟩;·exact a8 HOX.size dm.size
   ·refine HOX.trans Bt (λi hi=> ?_);rcases T_.out i hi with h|h;·exact .inl fO
    ·exact .inr h
  case pos=>
   have Jr:(i:Int)<LS.length:=aa;have GD:pl<b:=by
    by_cases h:pl<b;·exact h
    ·have h1:=HL.1;rw[pw h]at h1;have h2:(LS.drop i).length=0:=(by rw[h1];rfl);rw[fZ]at h2;omega
   have⟨S,hS⟩:=ex (gV k.D (k.dict:Nat) k.nice b pl r);have da:=(mD (D:=k.D) (dict:=(k.dict:Nat)) (nice:=k.nice) (r:=r) GD sW.2 HC.small (av HC.dict) HC.nice)
   have MV:=Gu (D:=k.D) (dict:=(k.dict:Nat)) (nice:=k.nice) (r:=r) GD;have rH:=jG (D:=k.D) (dict:=(k.dict:Nat)) (nice:=k.nice) (r:=r) GD;rw[hS]at da MV rH;have vd:LS.drop i=S::(bX k.D (k.dict:Nat) k.nice b (b-(pl+max S.l 1)) (pl+max S.l 1) (eD S r)).1:=(by rw[HL.1,rH]);have vc:=List.drop_eq_getElem_cons aV;have hSi:LS[i]=S:=zM;have ku:LS.drop (i+1)=(bX k.D (k.dict:Nat) k.nice b (b-(pl+max S.l 1)) (pl+max S.l 1) (eD S r)).1:=zM;have pd:(k.D.take pl).length=pl:=(by rw[eZ];have:=sW.2;omega);have bY:=da.fits;obtain⟨s',st',r',Z,Rz,Pm,_,_,_⟩:=Ru (g:=g) (lc:=k.lc) (lp:=k.lp) (pb:=k.pb) (a:=⟨k.D.take pl,st,r,x⟩) (k:=(S.k:Nat)) (b:=S.b) (l:=(S.l:Nat)) (d:=(S.d:Nat)) (q:=(S.r:Nat)) HI.ur (by show kt r ((k.D.take pl).length:Int) _ _ _ _=true;rw[pd];exact bY);have nR:r'=eD S r:=Pm.trans (lz S da.k r);have⟨M,hM⟩:=ex (max S.l 1);have hMi:max (S.l:Int) 1=(M:Int):=aa;rw[hM]at MV ku;have TX:Hid (gO k.lc k.lp k.pb k.D LS a (yO,r1,(P1,Ec))=gO k.lc k.lp k.pb k.D (LS.drop (i+1)) (pl+M) (st',r',Z)):=ae (by
    rw[HL.2,vc,hSi,<-hM];exact JZ Rz)
   have lV:Hid (LS.drop (i+1)=(bX k.D (k.dict:Nat) k.nice b (b-(pl+M)) (pl+M) r').1):=ae (by rw[ku,nR]);have ij:1<=M/\M<=100000:=(by have:=da.short;have:=HC.small;omega);have hMb:(M:Int)<=100000:=aa;have akk:(pl:Int)<=100000:=(by have:=HC.small;have:=sW.2;omega);have n9:(S.l:Int)<=273:=av da.short;obtain⟨X,hMS,hX⟩:=HI.ms;have hsw:w8.heap.size<=wr.heap.size:=HI.only.size;have GF:WC.heap.size<=w8.heap.size:=a8 rF.size qB.size;have aew: ∀j∈X,WC.heap.size<=j:=λj hj=>by
    rcases hX j hj with h|h;·have:=TW.out;have:=rF.size;simp only[dc,fM,or_false]at h;rcases h with rfl|rfl<;>omega
    ·exact a8 GF h
   have TY:wr.heap[gS]? =wc.heap[gS]? :=(by refine(HI.only.block gS (db Zu.2 qB.size) ?_).trans (qB.block gS Zu.2);have:=TW.out;have:=Zu.out;have:=W_.out;simp only[dc,fM,or_false,not_or];omega);obtain⟨q0,q1,q2,q3,q4⟩:=TD.out i aV wr TY;rw[hSi]at q0 q1 q2 q3 q4;rw[dR 5 i]at q0 q1 q2 q3 q4;have⟨W2,gH⟩:=ex (wr.alloc (.cells #[.int .i64 S.k,.int .u8 S.b.toNat,.int .i64 S.l,.int .i64 S.d,.int .i64 S.r] 183));have kp:W2.heap[wr.heap.size]? =some (.cells (cY [S]).toArray 183 (0,0)):=xv;have aK:aq wr W2:=tZ;have ja:aq WC w8:=aQ rF.out qB.out;have acm:W2.heap[p]? =WC.heap[p]? :=(by refine(aK.block p (db Hw.out (a8 GF hsw))).trans ((HI.only.block p (db Hw.out GF) ?_).trans (ja.block p Hw.out));have:=TW.out;have:=Hw.out;have:=rF.size;have:=aep.out;simp only[dc,fM,or_false,not_or];omega);have EJ:gE W2 p k (PF C) had:=HPX.aU acm;have hD2:Bytes W2 k.A k.D:=by
    have h1:aq w0 w8:=aQ uW.out ja;have h2:aq w0 wr:=h1.trans (HI.only.below h1.size (λj hj=>by
     have:=TW.out;have:=Vn.out;have:=uW.size;have:=rF.size;simp only[dc,fM,or_false]at hj;rcases hj with rfl|rfl|rfl|rfl<;>omega))
    exact HC.bytes.below (aQ h2 aK)
   have Cn:Hid (∀W,aq W2 W->Calls prog 152 #[PF C,PF g,.slice k.A pl k.cD,mq (S.k:Nat) S.b (S.l:Nat) (S.d:Nat) (S.r:Nat)] W (ph (s'.k<=2/\s'.r<=3/\s'.l<=273/\(s'.d:Int)<=4294967296/\st'<12/\fp r'/\(ao g).ok Z.2 (54*(b-(pl+M))+100)) (lK (.int .i64 0) (ao g) C L k.lc k.lp k.pb st' r' Z X W))):=ae (λW hW=>by
    have hMW:MS (ao g) W C L k.lc k.lp k.pb st r x X:=(hMS.below aK).below hW;have hDW:Bytes W k.A (k.D.take pl):=(hD2.below hW).take pl;have h:=o_ hMW HC.lc HC.lp HC.pb HI.st HI.ur (k:=54*(b-(pl+M))+100) k.A (k.D.take pl) k.cD hDW (by rw[pd];have:=HC.cap;have:=sW.2;omega) (by rw[pd];have:=HC.small;have:=sW.2;omega) (λa' ha'=>by
     rw[HC.addr]at ha';injection ha' with ha';subst ha'
     have h1:=HC.aE;have h2:=Vn.out;have h3:=uW.size;simp only[dc,not_or];exact⟨aa,aa,λhj=>av (aew _ hj)⟩) (S.k:Nat) S.b (S.l:Nat) (S.d:Nat) (S.r:Nat) (by rw[pd];exact bY) Rz ((ao g).le HI.ok aa)
    rw[pd]at h;exact h)
   have Em:=ae hX;have HXG:=ae aew;have HXL:Hid (∀j∈X,j<wr.heap.size):=ae (λj hj=>(ao g).lt hMS.io j hj);have ark:Hid (C<wr.heap.size/\L<wr.heap.size):=ae ⟨hMS.mod.Hq,hMS.mod.FX⟩;have aex:Hid (∀W:Lo,W.heap[p]? =W2.heap[p]? ->W.heap[wr.heap.size]? =W2.heap[wr.heap.size]? ->W.cell? ⟨p,0,none⟩=some (.slice k.A k.D.length k.cD)/\W.cell? ⟨p,11,none⟩=some (PF C)/\W.cell? ⟨wr.heap.size,0,none⟩=some (.int .i64 S.k)/\W.cell? ⟨wr.heap.size,1,none⟩=some (.int .u8 S.b.toNat)/\W.cell? ⟨wr.heap.size,2,none⟩=some (.int .i64 S.l)/\W.cell? ⟨wr.heap.size,3,none⟩=some (.int .i64 S.d)/\W.cell? ⟨wr.heap.size,4,none⟩=some (.int .i64 S.r)):=ae (λW h1 h2=>by
    have hP:=EJ.aU h1;have hr:=h2.trans kp;exact⟨hP.data,hP.Lm,ve,ve,ve,ve,ve⟩)
   have F8:Hid (∀w':Lo,iY (ao g) C L k.lc k.lp k.pb st' r' Z X W2.drew w'->w'.cell? ⟨p,0,none⟩=some (.slice k.A k.D.length k.cD)/\w'.cell? ⟨p,11,none⟩=some (PF C)/\w'.cell? ⟨wr.heap.size,0,none⟩=some (.int .i64 S.k)/\w'.cell? ⟨wr.heap.size,1,none⟩=some (.int .u8 S.b.toNat)/\w'.cell? ⟨wr.heap.size,2,none⟩=some (.int .i64 S.l)/\w'.cell? ⟨wr.heap.size,3,none⟩=some (.int .i64 S.d)/\w'.cell? ⟨wr.heap.size,4,none⟩=some (.int .i64 S.r)):=ae (λw' hw=>by
    obtain⟨X',_,dm,_⟩:=hw;have Er:p<wr.heap.size:=db Hw.out (a8 GF hsw);refine aex w' (dm.block p (db Er aK.size) ?_) (dm.block wr.heap.size (by show wr.heap.size<W2.heap.size;exact(bU kp)) ?_);·have:=aep.out;have h3:=Hw.out;simp only[dc,not_or];exact⟨this.1,this.2,λhj=>av (HXG _ hj)⟩
    ·have:=ark.out;simp only[dc,not_or];exact⟨aa,aa,λhj=>av (HXL _ hj)⟩)
   have HT:=ae (ap aV (ap MV ij));have dG:=ae aK;have rf:=ae gH;have VY:(pl:Int)<=k.D.length:=av sW.2;have hpc:(pl:Int)<=k.cD:=(by have:=sW.2;have:=HC.cap;omega);have hdc:(k.D.length:Int)<=k.cD:=av HC.cap;obtain⟨p0,p11,b0,b1,b2,b3,b4⟩:=aex.out W2 rfl rfl;clear hS da MV rH vd vc hSi ku pd bY Rz Pm nR hM hMS hX hsw GF aew TY kp aK ja acm EJ hD2 gH aV ij aeu hi GD;go_upto_region 14 with fail;rw[rf.out];have bu:aq W2 W2.drew:=⟨rfl,rfl,rfl,aF _,λ_ _=>rfl⟩
   have xz:=ap p0 (ap p11 (ap b0 (ap b1 (ap b2 (ap b3 b4)))));clear p0 p11 b0 b1 b2 b3 b4 q0 q1 q2 q3 q4;refine wp_region_held_drew (S:=λw2=>w2.cell? ⟨p,0,none⟩=some (.slice k.A k.D.length k.cD)/\w2.cell? ⟨p,11,none⟩=some (PF C)/\w2.cell? ⟨wr.heap.size,0,none⟩=some (.int .i64 S.k)/\w2.cell? ⟨wr.heap.size,1,none⟩=some (.int .u8 S.b.toNat)/\w2.cell? ⟨wr.heap.size,2,none⟩=some (.int .i64 S.l)/\w2.cell? ⟨wr.heap.size,3,none⟩=some (.int .i64 S.d)/\w2.cell? ⟨wr.heap.size,4,none⟩=some (.int .i64 S.r)) ak xz (λhS=> ?_);refine ag 0 hS (h:=ag 1 hS (h:=ag 2 hS (h:=bN 3 hS (h:=ag 4 hS (h:=ag 5 hS (h:=ag 6 hS (h:=ag 7 hS (h:=bN 8 hS (h:=ag 9 hS (h:=ag 10 hS (h:=bN 11 hS (h:= ?_))))))))))));refine aO 12 (λK hK=> ?_);go_simp;refine(Cn _ bu).mono ?_;rintro e X_ ⟨⟨rfl,J2⟩,hQ⟩;have HWE:=ae J2;have HQQ:=ae hQ;clear J2 hQ;have g12:=F8.out _ HWE.out;go_wp2_with fail;refine hK _ _ g12 (λ_=> ?_);clear hK K;refine ag 13 g12 (h:= ?_);refine wpAnyH_done ak ?_ _;obtain⟨_,_,_,_,b2,_,_⟩:=F8.out X_ HWE.out;have HI2:Hid (Rv k C L g [g,o] w8 X_ st' r' Z (54*(b-(pl+M))+100)):=ae (by
    have arl:aq wr W2.drew:=aQ dG.out bu;exact Rv.put Em.out HI.only arl HWE.out HQQ.2.2.2.2.1 HQQ.2.2.2.2.2.1 HQQ.2.2.2.2.2.2)
   have nK:Hid (i+1<=LS.length/\pl+M<=b):=ae ⟨av HT.1,av HT.2.1⟩;have e1:Hid ((pl:Int)+(M:Int)=((pl+M:Nat):Int)):=ae aa;have e2:Hid ((i:Int)+1=((i+1:Nat):Int)):=ae aa;clear hS g12 bu xz aex F8;go_wp2_with fail;go_roundw;case rel=>exact⟨i+1,pl+M,st',r',Z,by rw[<-e1.out],by rw[<-e2.out],HI2,ae ⟨lV.out,TX.out⟩,nK.1,nK.2⟩
   case measure=>have:=HT.1;simp[intOf];omega
def we(k:ip):UInt8:=UInt8.ofNat (k.lc+9*(k.lp+5*k.pb))
def fW(k:ip)(a b:Nat)(s:gF)(had:Bool)(r:An):List UInt8:=
 (([vQ a had s]++po (b-a-1))++po (r.length-1))++(if 192<=vQ a had s then [we k]else [])++r
def a7(k:ip)(a b:Nat)(s:gF)(had:Bool):List UInt8×gF×Bool:=
 let r:=iT k a b (iN s)
 if b-a+3<=(fW k a b s had r.1).length\/65536<r.1.length then(fv k.D a b,none,had)else(fW k a b s had r.1,some r.2,true)
def RC(w:Lo)(p:Nat)(k:ip)(Y:List Nat)(r:List UInt8×gF×Bool)(e:Ending)(w':Lo):Prop:=
 ∃v Y',e= .returned (.tuple #[v,.int .i64 0])/\Own w.heap.size w' v r.1/\Pk w' p k r.2.1 r.2.2 Y'/\aM (p::Y) w w'/\ ∀i∈Y',i∈Y\/w.heap.size<=i
theorem Own.oB{l:An}(h:Own base w v l)(hb: ∀g,v.ownBlock=some g->w'.heap[g]? =w.heap[g]?):Own base w' v l:=by
 rcases h with⟨h1,h2|⟨g,cap,cur,h2,h3,h4,h5⟩⟩
 ·exact⟨h1,.inl h2⟩
 ·exact⟨h1,.inr ⟨g,cap,cur,h2,h3,(hb g (by rw[h2];rfl)).trans h4,h5⟩⟩
theorem RD{k:ip}{s:gF}(c:PkC w0 k AF cF mp B bD oD)(hb:Below w0.heap.size w0 w)(h:Pk w p k s had Y)(hp:w0.heap.size<=p)(hY: ∀i∈Y,w0.heap.size<=i)(a b:Nat)(Ln:a<b)(eX:b<=k.D.length):
  Calls prog 72 #[PF p,.int .i64 a,.int .i64 b] w (RC w p k Y (a7 k a b s had)):=by
 have HCT:=ae (JH h a);have Wn:=ae (S_ c hb h hp hY a b Ln eX);obtain⟨⟨R,s2⟩,hR⟩: ∃r,iT k a b (iN s)=r:=⟨_,rfl⟩
 have⟨x,hx⟩:=ex (vQ a had s);obtain⟨T1,uY⟩: ∃T,po (b-a-1)=T:=⟨_,rfl⟩
 obtain⟨T2,ua⟩: ∃T,po (R.length-1)=T:=⟨_,rfl⟩
 have⟨P,hP⟩:=ex ((if 192<=x then [we k]else []));have⟨O,hO⟩:=ex (((([x]++T1)++T2)++P)++R);have⟨RES,aey⟩:=ex (a7 k a b s had);rw[hx]at HCT;rw[hR]at Wn;have L3:fW k a b s had R=O:=by unfold fW;rw[hx,uY,ua,hP,hO]
 have qq:Hid (RES=if b-a+3<=O.length\/65536<R.length then(fv k.D a b,none,had)else(O,some s2,true)):=ae (by rw[<-aey];unfold a7;rw[hR];show(if b-a+3<=(fW k a b s had R).length\/_ then _ else _)=_;rw[L3]);rw[aey];have xV:=ae (λW=>pp (b-a-1) (av c.small) W);have aez:Hid (5<=R.length->R.length+100<=140737488355328-> ∀W,Calls prog 108 #[.int .i64 R.length] W (nU W T2)):=ae (λh1 h2 W=>by
  have h:=pp (R.length-1) aa W;rw[show R.length-1+1=R.length by omega,ua]at h;exact h)
 rw[show((b-a-1+1:Nat):Int)=(b:Int)-(a:Int) by omega,uY]at xV;have Qu:Hid (T1.length=2):=ae (by rw[<-uY];rfl);have nK:Hid (T2.length=2):=ae (by rw[<-ua];rfl);have My:Hid (P.length<=1):=ae (by rw[<-hP];split<;>simp);have HP:=ae hP;have⟨q,hq⟩:=ex (decide (192<=(x.toNat:Int)));have HQ:Hid (q=true↔192<=x):=ae (by
  rw[<-hq,AJ,UInt8.le_iff_toNat_le];show _↔192<=x.toNat;omega)
 have HO:=ae hO;have HC:=ae c;have HB:=ae hb;have HPY:=ae (ap hp hY);have sW:=ae (ap Ln eX);have zm:=ae h.lt;have Ic:(a:Int)<b:=aa;have Jt:(k.D.length:Int)<=100000:=av c.small;have sH:(b:Int)<=k.D.length:=aa;clear c hb h hp hY Ln eX hR hx L3 aey uY ua hP hO;go_enter func72,ntmps72;go_wp2_with fail;refine HCT.mono ?_;rintro e w1 ⟨rfl,rfl⟩;go_wp2_with fail;refine Wn.mono ?_;rintro e w2 ⟨v2,Y2,rfl,dz,EJ,dv,vT,hR5,hRm⟩;simp only at dz EJ hR5 hRm;obtain⟨AR,cR,rfl,_,_,hBR⟩:=dz.read;have⟨W3,jE⟩:=ex (w2.alloc (.cells #[B8 x] 5));have dU:Own w2.heap.size W3 (.slice (some ⟨w2.heap.size,0,none⟩) 1 1) [x]:=by rw[<-jE];exact Own.lit w2 [x] (aF _) ah
 have bm:aq w2 W3:=by rw[<-jE];exact az
 have gY:=ae hBR;have TZ:=ae EJ;have pf:=ae dv;have TL:=ae vT;have T0:=ae (ap hR5 hRm);have zz:=ae jE;have vI:=ae dU;have ft:=ae bm;have hRi:(R.length:Int)<=140737488355328:=aa;clear dz EJ dv vT hR5 hRm hBR jE dU bm HCT Wn;go_wp2_with fail;rw[show w2.alloc (Obj.cells #[B8 x] 5)=W3 from zz.out];refine(xV _).mono ?_;rintro e w4 ⟨v4,rfl,bM,bc⟩;obtain⟨A4,c4,rfl,_,_,lx⟩:=bM.read;have fJ:=ae (aQ ft.out bc);have WE:=ae (vI.below bc);have aeC:=ae lx;clear bM bc lx;go_upto_region 6 with(at_builtin;refine aj ?_ (.tmp 26) (.tmp 30) ?_ w2.heap.size w4 (.slice (some ⟨w2.heap.size,0,none⟩) 1 1) [x] ?_ WE.out A4 T1 c4 ?_ aeC.out zN fJ.size ?_;rfl;rfl;rfl;rfl;intro v5 w5 gU ig;have Bq:=ae gU;have pX:=ae (am fJ.out ig fJ.size (λg e=>(WE.ay g e).1));clear gU ig)
 go_wp2_with fail;refine(aez T0.1 T0.2 _).mono ?_;rintro e w6 ⟨v6,rfl,lf,oq⟩;obtain⟨A6,c6,rfl,_,_,zG⟩:=lf.read;have ul:=ae (aQ pX.out oq);have WF:=ae (Bq.below oq);have aeD:=ae zG;clear lf oq zG;go_upto_region 7 with(at_builtin;refine aj ?_ (.tmp 32) (.tmp 35) ?_ w2.heap.size w6 v5 ([x]++T1) ?_ WF.out A6 T2 c6 ?_ aeD.out OW ul.size ?_;rfl;rfl;rfl;rfl;intro v7 w7 te At;have T3:=ae te;have Dj:=ae (am ul.out At ul.size (λg e=>(WF.ay g e).1));clear te At)
 go_upto_if 38 with fail;go_cut [11]from 39 (λs11 wx=>Own w2.heap.size wx s11 ((([x]++T1)++T2)++P)/\aq w2 wx);case first=>
  cases q with
  | true=>
   have hx:=HQ.1 rfl;have xm:P=[we k]:=(by rw[<-HP.out,ax hx]);obtain⟨cv,WG,_⟩:=(TZ.below Dj.out).ex;obtain⟨o4,o5,o6,o7,o8,o9⟩:=WG.opts;have o1:=WG.lc;have o2:=WG.lp;have o3:=WG.pb;have HPR:=ae (QU k.lc k.lp k.pb k.nice k.chunk k.block k.check k.chain k.dict HC.lc HC.lp HC.pb w7);clear hx WG;go_wp2_with fail;refine HPR.mono ?_;rintro e w8 ⟨rfl,rG⟩;have⟨y,hy⟩:=ex (UInt8.ofNat (k.lc+9*(k.lp+5*k.pb)));have EJ:P=[y]:=(by rw[xm,<-hy];rfl);rw[hy];have⟨W9,Y_⟩:=ex (w8.alloc (.cells #[B8 y] 5));have HW9:=ae Y_;have HX9:Hid (Bytes W9 (some ⟨w8.heap.size,0,none⟩) [y]):=ae (by rw[<-Y_];exact Bytes.one w8 y);have Ng:aq w7 W9:=(by rw[<-Y_];exact rG.alloc rG.size _);have wg:=ae (aQ Dj.out Ng);have WI:=ae (T3.below Ng);have WJ:=ae EJ;clear o1 o2 o3 o4 o5 o6 o7 o8 o9 xm EJ hy Y_ rG Ng;go_wp2_with (at_builtin;rw[HW9.out];refine aj ?_ (.tmp 39) (.tmp 45) ?_ w2.heap.size W9 v7 (([x]++T1)++T2) ?_ WI.out (some ⟨w8.heap.size,0,none⟩) [y] 1 ?_ HX9.out OX wg.size ?_;rfl;rfl;rfl;rfl;intro v10 RF pD Co;have Nh:=ae pD;have rF:=ae (am wg.out Co wg.size (λg e=>(WI.ay g e).1));clear pD Co)
   go_meet;exact⟨by rw[WJ.out];exact Nh.out,rF.out⟩
  | false=>
   have hx: ¬192<=x:=λh=>Bool.noConfusion (HQ.2 h);have xm:P=[]:=(by rw[<-HP.out,au hx]);have Cg:=ae xm;clear hx xm;go_wp2_with fail;go_meet;exact⟨by rw[Cg.out,iV];exact T3.out,Dj.out⟩
 case rest=>
 obtain⟨qA,rG⟩:=hcut;have HO8:=ae qA;have qB:=ae rG;clear qA rG;go_upto_region 10 with(at_builtin;refine aj ?_ (.tmp 47) (.tmp 48) ?_ w2.heap.size wc u11 ((([x]++T1)++T2)++P) ?_ HO8.out AR R cR ?_ (gY.below qB.out) (by have:=T0.2;have:=My.out;rw[aG,aG,aG,Qu.out,nK.out];show 1+2+2+P.length+R.length<=140737488355328;omega) qB.size ?_;rfl;rfl;rfl;rfl;intro v9 w9 Dt J3;rw[HO.out]at Dt;have HO9:=ae Dt;have wg:=ae (am qB.out J3 qB.size (λg e=>(HO8.ay g e).1));clear Dt J3)
 obtain⟨A9,c9,hv9,_,Lq,_⟩:=HO9.read;have WK:=TZ.below wg.out;have t8:p<w2.heap.size:=db zm.out pf.size;have Z_:aq w0 w9:=by
  have h2:aq w0 w2:=HB.trans (pf.below HB.size (λi hi=>by
   rcases List.mem_cons.1 hi with rfl|hi;·exact HPY.1
   ·exact HPY.2 i hi))
  exact aQ h2 wg.out
 have akr:=ae (Rk WK HC.addr (HC.bytes.below Z_) (by have:=HC.aE;have:=HPY.1;omega) HC.cap HC.small a b sW.1 sW.2);have hOi:(O.length:Int)<=9223372036854775807:=by have h:=T0.2;have h2:=My.out;rw[<-HO.out,aG,aG,aG,aG,Qu.out,nK.out];show((1+2+2+P.length+R.length:Nat):Int)<=_;omega
 by_cases h1:b-a+3<=O.length;·have jm:Hid (b-a+3<=O.length\/65536<R.length):=ae (.inl h1);have Z8:(b:Int)-(a:Int)+3<=(O.length:Int):=aa;subst hv9;clear h1 WK t8 Z_ Lq;·skip;go_wp2_with fail;refine akr.mono ?_;rintro e RF ⟨v10,rfl,pD,WL,J4⟩;have Nh:=ae pD;have aeE:=ae WL;have WM:=ae J4;clear pD WL J4;go_wp2;go_ret2;have xB:RES=(fv k.D a b,none,had):=(by rw[qq.out];exact ax jm.out);rw[xB];refine⟨v10,[],rfl,Nh.weaken (a8 pf.size wg.size),aeE.out,?_,λi hi=>by cases hi⟩;exact(pf.trans (aM.cJ wg.out) (λi hi=> .inl hi)).trans WM.out (λi hi=> .inl OY)
 ·have Z8: ¬(b:Int)-(a:Int)+3<=(O.length:Int):=by omega
  by_cases h2:65536<R.length;·have jm:Hid (b-a+3<=O.length\/65536<R.length):=ae (.inr h2);have h2i:65536<(R.length:Int):=aa;subst hv9;clear h1 h2 WK t8 Z_ Lq;go_wp2_with fail;refine akr.mono ?_;rintro e RF ⟨v10,rfl,pD,WL,J4⟩;have Nh:=ae pD;have aeE:=ae WL;have WM:=ae J4;clear pD WL J4;go_wp2;go_ret2;have xB:RES=(fv k.D a b,none,had):=(by rw[qq.out];exact ax jm.out);rw[xB];refine⟨v10,[],rfl,Nh.weaken (a8 pf.size wg.size),aeE.out,?_,λi hi=>by cases hi⟩;exact(pf.trans (aM.cJ wg.out) (λi hi=> .inl hi)).trans WM.out (λi hi=> .inl OY)
  ·have jm:Hid (¬(b-a+3<=O.length\/65536<R.length)):=ae (λh=>h.elim h1 h2);have h2i: ¬65536<(R.length:Int):=aa;obtain⟨cv,hPw,hCw⟩:=WK.ex;have c12:=hPw.ajH;have f12:=hPw.frozen 12;have Hw:=ae hPw;have W_:=ae hCw;have tx:=ae t8;have HV9:=ae hv9;subst hv9;clear h1 h2 WK t8 Z_ Lq hPw hCw;go_wp2;go_ret2;have xB:RES=(O,some s2,true):=(by rw[qq.out];exact au jm.out);rw[xB];have hpO:=(show Pk w9 p k (some s2) had Y2 from⟨cv,Hw.out,W_.out⟩).own HO9.out;refine⟨_,Y2,rfl,((HO9.oB (λg hg=>af _ _ _ _ (by show g≠p;intro e;subst e;exact hpO _ hg ah))).weaken pf.size),⟨cv,Hw.aec true,?_⟩,?_,TL.out⟩;·refine W_.aU λi hi=>af _ _ _ _ ?_;show i≠p;intro e;subst e;exact W_.apart Hw.out ar ar hi
   ·exact(pf.trans (aM.cJ wg.out) (λi hi=> .inl hi)).setCell (.inl ah) _
section
open Go Go.RowKit
variable{F:Fence}{n:Nat}{P:Program}
def aks(F:Fence)(n:Nat)(P:Program)(g:Nat)(lb:Array Value)(b1 b2:Nat)(L:List (Nat×Nat))(w:Lo):Prop:=
 ∀(l:Nat) (J:List (Nat×Nat)->World->Prop) (W:Lo),(∀s W,J s W->W.heap[b1]? =w.heap[b1]? /\W.heap[b2]? =w.heap[b2]?)->
  (∀pre x t W1,L=pre++x::t->J pre W1->YieldAt F (n-1) P l #[.int .i64 (x.1:Nat),.int .i64 (x.2:Nat)] W1 λe W'=>e= .returned (.bool true)/\J (pre++[x]) W')->
  J [] W->
  CallsIn F n P g (#[.func (.yield l) #[] #[]]++lb) W λe W'=>(∃v,e= .returned v)/\J L W'
def aaa(I:List (Nat×Nat)->World->Prop)(xs:List (Nat×Nat))(W:Lo):Exit->Act->World->Prop
 | .normal,_,W'=>KeepsOthers W W'/\I xs W'
 | _,_,_=>False
theorem GG{g:Operand}{ps:Array Tmp}{assign body:Code}{Q:Exit->Act->World->Prop}{a:Act}{w:Lo}
  (kM:F.round=none) (h1:1<=n) {gf:Nat} {lb:Array Value} (hg:a.eval g= .func (.func gf) #[] lb) (hFg:F.fn gf) (eg: ∀args w,(callFunc gf args).run P w= .ok (.enter gf args) w)
  {L:List (Nat×Nat)} {b1 b2:Nat} {w0:Lo} (DT:aks F (n-1) P gf lb b1 b2 L w0) (Er:ps.size=2)
  (I:List (Nat×Nat)->World->Prop)
  (hIa: ∀s W o,I s W->I s (W.alloc o)) (MH: ∀s W l o o',I s W->w.heap.size<=l->W.heap[l]? =some o->o.isCells=false->I s (W.putObj l o')) (hIb: ∀s W,I s W->W.heap[b1]? =w0.heap[b1]? /\W.heap[b2]? =w0.heap[b2]?) (h0:I [] w) (a₁:Nat×Nat->Act)
  (pq: ∀(l:Nat) (x:Nat×Nat) (W:Lo) (K:Act->World->Prop),K (a₁ x) W->
   assign.wpIn (F.inRound l) (n-1-1) P (Exit.then K (λ_ _ _=>False)) {tmps:=(ps.zip #[.int .i64 x.1,.int .i64 x.2]).foldl (λt (p,v)=>t.setIfInBounds p v) a.tmps,defers:=[]} W)
  (BO: ∀(l:Nat) (pre:List (Nat×Nat)) (x:Nat×Nat) (t:List (Nat×Nat)) (W:Lo),L=pre++x::t->I pre W->body.wpIn (F.inRound l) (n-1-1) P (aaa I (pre++[x]) W) (a₁ x) W)
  (tC: ∀(D:Nat) (W:Lo),w.heap.size<=D->I L W->W.heap[D]? =some (.deferred (some []))->Q .normal {a with defers:={target:= .collected D,args:= #[]}::a.defers} W):
  (Code.rangeFunc g ps assign body).wpIn F n P Q a w:=by
 refine wpIn_rangeFunc λfn Ew=> ?_;rw[kM];obtain⟨kH,iW⟩: ∃rec:LoopState->Loop,rec=λst=>{state:=st,pending:=none,fn,tmps:=a.tmps,params:=ps,assign,body,defers:=w.heap.size}:=⟨_,rfl⟩
 have⟨W1,ek⟩:=ex ((w.alloc (.deferred (some []))).alloc (.loop (kH .ready)));have VA:W1.heap[w.heap.size+1]? =some (.loop (kH .ready)):=by rw[<-ek];have:=World.alloc_heap_new (w.alloc (.deferred (some []))) (.loop (kH .ready));rwa [pV]at this
 have hK1:W1.heap[w.heap.size]? =some (.deferred (some [])):=by rw[<-ek];exact(ee _ _ _ ah).trans (World.alloc_heap_new w _)
 have hI1:I [] W1:=FD
 refine⟨w.heap.size+1,[{target:= .collected w.heap.size,args:= #[]}],W1,{target:= .fn (.func gf) lb,args:= #[.func (.yield (w.heap.size+1)) #[] #[]]},W1,gf,
  #[.func (.yield (w.heap.size + 1)) #[] #[]] ++ lb, W1, ?_, ?_, ?_, ?_, λ_ => h1, ?_⟩
 ·rw[<-ek,iW];exact run_enterLoop_outer _ _ _ _ _
 ·simp only[resolve,hg];simp[go_sem]
 ·intro f' VB;simp[Target.leads]at VB;subst VB;exact hFg
 ·simp[invoke,go_sem,eg]
 ·refine(DT (w.heap.size+1)
   (λpre W=>I pre W/\W.heap[w.heap.size+1]? =some (.loop (kH .ready))/\W.heap[w.heap.size]? =some (.deferred (some [])))
   W1 (λs W hs=>hIb s W hs.1) ?_ ⟨hI1,VA,hK1⟩).mono ?_
  ·rintro pre x t W ly ⟨hi,hl,hk⟩;have aV:w.heap.size+1<W.heap.size:=(bU hl)
   have hy:=run_yield (P:=P) (args:= #[.int .i64 x.1,.int .i64 x.2]) hl (by rw[iW];simp[Er]);rw[iW]at hy;refine⟨fn,_,assign,body,hy,roundIn_of_wpIn Ew (pq _ x W _ ⟨_,run_beginRound hl (by rw[iW]),?_⟩)⟩;have zu:(W.putObj (w.heap.size+1) (.loop {kH .ready with state:= .busy})).heap[w.heap.size+1]? =some (.loop {kH .ready with state:= .busy}):=World.putObj_heap_same aV;have qp:(W.putObj (w.heap.size+1) (.loop {kH .ready with state:= .busy})).heap[w.heap.size]? =some (.deferred (some [])):=(World.putObj_heap_other aa).trans hk;refine wpIn_mono (BO _ pre x t _ ly (MH _ _ _ _ _ hi aa hl rfl)) ?_;rintro e a3 W3 hp;cases e with
   | normal=>
    obtain⟨oR,Vs⟩:=hp;have tJ:=oR.same _ _ zu rfl;have RG:=run_endRound (P:=P) none tJ;rw[iW]at RG tJ;refine⟨_,_,RG,rfl,MH _ _ _ _ _ Vs aa tJ rfl,?_,(World.putObj_heap_other aa).trans (oR.same _ _ qp rfl)⟩;rw[iW];exact World.putObj_heap_same (bU tJ)
   | ret=>exact hp.elim
   | exit id=>exact hp.elim
   | goto t=>exact hp.elim
   | panic ch=>exact hp.elim
   | outgrown=>exact hp.elim
  ·rintro e W2 ⟨⟨v,rfl⟩,hi,hl,hk⟩;exact⟨none,_,LD,tC _ _ (aF _) (MH _ _ _ _ _ hi aa hl rfl) ((World.putObj_heap_other aa).trans hk)⟩
end
section
open Go.RowKit Go.Shelf
attribute [local go_sem] Oper.semAt_some
def partsOf(n c:Nat):Nat->Nat->List (Nat×Nat)
 | 0,_=>[]
 | f+1,a=>if a<n then(a,min (a+c) n)::partsOf n c f (a+c)else []
theorem wl(n c:Nat)(hc:1<=c): ∀(f g a:Nat),n-a<=f->n-a<=g->partsOf n c f a=partsOf n c g a
 | 0,0,a,_,_=>rfl
 | 0,g+1,a,h,_=>by unfold partsOf;rw[au aa]
 | f+1,0,a,_,h=>by unfold partsOf;rw[au aa]
 | f+1,g+1,a,h1,h2=>by
  unfold partsOf;by_cases hp:a<n;·rw[ax hp,ax hp,wl n c hc f g _ aa aa]
  ·rw[au hp,au hp]
def d9(n c a:Nat):List (Nat×Nat):=partsOf n c (n-a) a
theorem jI{n c a:Nat}(hc:1<=c)(h:a<n):d9 n c a=(a,min (a+c) n)::d9 n c (a+c):=by
 unfold d9;obtain⟨f,hf⟩: ∃f,n-a=f+1:=⟨n-a-1,aa⟩
 rw[hf];conv=>lhs;unfold partsOf
 rw[ax h,wl n c hc f (n-(a+c)) _ aa aa]
theorem fe{n c a:Nat}(h: ¬a<n):d9 n c a=[]:=by unfold d9;rw[show n-a=0 by omega];rfl
theorem RH(F:Fence)(m:Nat)(Ew:F.fn 105)(kM:F.round=none)(hm:1<=m)(n c b1 b2:Nat)(hc:1<=c)(Ib:c<=65536)(hn:n<=4611686018427387904)(w:Lo)(ks:br b1 w (.int .i64 n))(fK:br b2 w (.int .i64 c)):
  aks F m prog 105 #[PF b1,PF b2] b1 b2 (d9 n c 0) w:=by
 obtain⟨f1,f2,f4,f3⟩:=F;obtain rfl:f3=none:=kM;intro l J W Zk hY h0;have HC:Hid (∀s W,J s W->W.cell? ⟨b1,0,none⟩=some (.int .i64 n)/\W.cell? ⟨b2,0,none⟩=some (.int .i64 c)):=ae (λs W h=>by
  obtain⟨k1,k2⟩:=Zk s W h;exact⟨(ks.aU k1).cell,(fK.aU k2).cell⟩)
 have HY:=ae hY;have LN:=ae h0;have qV:(n:Int)<=4611686018427387904:=aa;have oj:(c:Int)<=65536:=aa;have HCC:=ae (ap hc hn);obtain⟨c1,c2⟩:=HC.out _ _ h0;clear ks fK Zk hY h0 hc;refine callsIn_of_wp func105 rfl Ew ?_ rfl;simp only[ntmps105,List.size_toArray,el,List.length_nil,Nat.reduceAdd,Nat.reduceSub,Array.replicate_succ,Array.replicate_zero,List.push_toArray,List.append_toArray,fL,List.cons_append]
 gi_wp2
 gi_loopw [4] (λv wr=> ∃(pre:List (Nat×Nat)) (a:Nat),v= .int .i64 a/\Hid (d9 n c 0=pre++d9 n c a)/\a<=n+65536/\J pre wr) (λv _=>n+65536-(intOf v).toNat)
 ·exact⟨[],0,rfl,ae rfl,cI _,LN.out⟩
 ·
  obtain⟨pre,a,rfl,HL,ha,zD⟩:=hrel;clear c1 c2;obtain⟨c1,c2⟩:=HC.out _ _ zD;have HJS:=ae zD;have Ic:(a:Int)<=4611686018427453440:=aa;by_cases han:a<n
  ·have e1:(a:Int)<n:=(by omega);have h1c:=HCC.1;have jm:=jI h1c han;have⟨M,hM⟩:=ex (min (a+c) n);rw[hM]at jm;have hMi:min ((a:Int)+(c:Int)) (n:Int)=M:=aa;obtain⟨fn,tmps,assign,body,hy,hR⟩:=HY.out pre (a,M) (d9 n c (a+c)) wr (by rw[HL.out,jm]) zD;have PJ:Hid (d9 n c 0=(pre++[(a,M)])++d9 n c (a+c)):=ae (by rw[HL.out,jm];simp);have e2:Hid (((a:Int)+(c:Int))=((a+c:Nat):Int)):=ae aa;have WN:a+c<=n+65536/\a<a+c:=aa;clear hM jm zD h1c;have ub:IntKind.i64.wrap ((a:Int)+(c:Int))=(a:Int)+(c:Int):=em _ aa
   gi_wp2
   refine hR.mono ?_;rintro e W3 ⟨rfl,Hy⟩;obtain⟨c1,c2⟩:=HC.out _ _ Hy;have HJ3:=ae Hy;clear Hy
   gi_wp2
   go_roundw;case rel=>exact⟨pre++[(a,M)],a+c,by rw[<-e2.out],PJ,WN.1,HJ3.out⟩
   case measure=>simp[intOf];omega
  ·have e1: ¬(a:Int)<n:=(by omega);have HE:Hid (pre=d9 n c 0):=ae (by rw[HL.out,fe han,iV]);clear han zD
   gi_wp2
   go_end0;exact⟨⟨_,rfl⟩,by rw[<-HE.out];exact HJS.out⟩
def RI(n c:Nat)(w:Lo)(e:Ending)(w':Lo):Prop:=e= .returned (.func (.func 105) #[] #[PF w.heap.size,PF (w.heap.size+1)])/\(w.alloc (.cells #[.int .i64 n] 3)).alloc (.cells #[.int .i64 c] 3)=w'
theorem RJ(n c:Nat)(w:Lo):Calls prog 71 #[.int .i64 n,.int .i64 c] w (RI n c w):=by go_enter func71,ntmps71;go_wp2;go_ret;exact⟨rfl,rfl⟩
end
theorem Cp(hc:1<=c): ∀(f a:Nat),n-a<=f-> ∀x∈d9 n c a,x.1<x.2/\x.2<=n
 | 0,a,h,x,hx=>by rw[fe aa]at hx;cases hx
 | f+1,a,h,x,hx=>by
  by_cases ha:a<n
  ·rw[jI hc ha]at hx;rcases List.mem_cons.1 hx with rfl|hx;·show a<min (a+c) n/\min (a+c) n<=n;omega
   ·exact Cp hc f (a+c) aa x hx
  ·rw[fe ha]at hx;cases hx
theorem pE{n c:Nat}(hc:1<=c): ∀(f a:Nat),n-a<=f->(d9 n c a).length<=n-a
 | 0,a,h=>by rw[fe aa];exact cI _
 | f+1,a,h=>by
  by_cases ha:a<n;·rw[jI hc ha];have:=pE (n:=n) hc f (a+c) aa;simp only[el];omega
  ·rw[fe ha];exact cI _
theorem yP{n c:Nat}(hc:1<=c): ∀(f a:Nat),n-a<=f->(d9 n c a).length*c<=(n-a)+(c-1)
 | 0,a,h=>by rw[fe aa];simp
 | f+1,a,h=>by
  by_cases ha:a<n
  ·rw[jI hc ha];by_cases hb:a+c<n;·have:=yP (n:=n) hc f (a+c) aa;simp only[el,Nat.add_mul,Nat.one_mul];omega
   ·rw[fe hb];simp only[el,List.length_nil,Nat.zero_add,Nat.one_mul];omega
  ·rw[fe ha];simp
theorem rI(Ln:a<b)(hb:b<=D.length):(fv D a b).length=b-a+3:=by unfold fv;rw[aG,el,eZ,fZ];have:(po (b-a-1)).length=2:=rfl;omega
theorem nA{k:ip}{s:gF}(Ln:a<b)(hb:b<=k.D.length):(a7 k a b s had).1.length<=b-a+3:=by
 have e:a7 k a b s had=if b-a+3<=(fW k a b s had (iT k a b (iN s)).1).length\/65536<(iT k a b (iN s)).1.length then(fv k.D a b,none,had)else(fW k a b s had (iT k a b (iN s)).1,some (iT k a b (iN s)).2,true):=rfl;rw[e];split;·show(fv k.D a b).length<=_;rw[rI Ln hb];exact aF _
 ·rename_i h;show(fW k a b s had (iT k a b (iN s)).1).length<=_;rw[not_or]at h;omega
def cV(k:ip):List (Nat×Nat)->gF×Bool->List UInt8×gF×Bool
 | [],z=>([],z)
 | x::l,z=>((a7 k x.1 x.2 z.1 z.2).1++(cV k l (a7 k x.1 x.2 z.1 z.2).2).1,(cV k l (a7 k x.1 x.2 z.1 z.2).2).2)
theorem yQ(k:ip)(x:Nat×Nat): ∀(l:List (Nat×Nat)) (z:gF×Bool),cV k (l++[x]) z=((cV k l z).1++(a7 k x.1 x.2 (cV k l z).2.1 (cV k l z).2.2).1,(a7 k x.1 x.2 (cV k l z).2.1 (cV k l z).2.2).2)
 | [],z=>by show((a7 k x.1 x.2 z.1 z.2).1++[],(a7 k x.1 x.2 z.1 z.2).2)=([]++(a7 k x.1 x.2 z.1 z.2).1,_);rw[iV,fL];rfl
 | y::l,z=>by have h:=yQ k x l (a7 k y.1 y.2 z.1 z.2).2;show((a7 k y.1 y.2 z.1 z.2).1++(cV k (l++[x]) (a7 k y.1 y.2 z.1 z.2).2).1,(cV k (l++[x]) (a7 k y.1 y.2 z.1 z.2).2).2)=_;rw[h,<-eY];rfl
theorem pF{k:ip}(hc:1<=c)(hn:n=k.D.length): ∀(f a:Nat) (z:gF×Bool),n-a<=f->(cV k (d9 n c a) z).1.length<=(n-a)+3*(d9 n c a).length
 | 0,a,z,h=>by rw[fe aa];exact cI _
 | f+1,a,z,h=>by
  by_cases ha:a<n;·rw[jI hc ha];have h1:=pF hc hn f (a+c) (a7 k a (min (a+c) n) z.1 z.2).2 aa;have h2:=nA (k:=k) (a:=a) (b:=min (a+c) n) (s:=z.1) (had:=z.2) aa aa;show((a7 k a (min (a+c) n) z.1 z.2).1++(cV k (d9 n c (a+c)) (a7 k a (min (a+c) n) z.1 z.2).2).1).length<=_;rw[aG,el];omega
  ·rw[fe ha];exact cI _
theorem Cq{k:ip}: ∀(l:List (Nat×Nat)) (z:gF×Bool),(∀x∈l,x.1<x.2/\x.2<=k.D.length)->(cV k l z).1.length<=l.length*(k.D.length+3)
 | [],_,_=>cI _
 | x::l,z,h=>by have h1:=Cq l (a7 k x.1 x.2 z.1 z.2).2 (λy hy=>h y (by simp[hy]));obtain⟨h3,h4⟩:=h x ah;have h2:=nA (k:=k) (a:=x.1) (b:=x.2) (s:=z.1) (had:=z.2) h3 h4;show((a7 k x.1 x.2 z.1 z.2).1++(cV k l (a7 k x.1 x.2 z.1 z.2).2).1).length<=_;rw[aG,el,Nat.add_mul,Nat.one_mul];omega
def mH(k:ip):List UInt8:=(cV k (d9 k.D.length k.chunk.toNat 0) (none,false)).1++[0]
theorem kv{F:Fence}{ops:Array Oper}{rest:List Oper}{o:Oper}{a:Act}{Q:Exit->Act->World->Prop}(oV:o.guard=none)(s x:Operand)
  (ho:o.op= .call {callee:= .builtin .append,args:= #[s,x],argTypes:= #[22,22]})
  (base:Nat) (w:Lo) (v:Value) (xs:An) (hs:a.eval s=v) (aL:Own base w v xs) (A:As) (l:An) (c:Nat) (hx:a.eval x= .slice A l.length c) (hB:Bytes w A l)
  (dF:xs.length+l.length<=140737488355328) (aX:base<=w.heap.size)
  (h: ∀v' w',Own base w' v' (xs++l)->w.grownBy w' v.ownBlock->wpListIn F n prog ops Q rest (a.put o.dst v') w'):wpListIn F n prog ops Q (o::rest) a w:=by
 refine wpListIn_plain oV λK hK=> ?_;obtain⟨v',w',hr,h2,h3⟩:=fR base o.type w v xs aL A l c hB dF aX;unfold Oper.wpIn;refine⟨?_,?_⟩;·simp[Oper.about,ho,resolve,Target.leads,Sem.run_pure]
 ·rw[Oper.semAt_plain F _ _ (by rw[ho];intro c VS;cases VS)];simp[execOp,ho,resolve,invoke,builtin,hs,hx,hr,Result.andThen];exact hK _ _ (h v' w' h2 h3)
section
open Go.RowKit Go.Shelf
attribute [local go_sem] Oper.semAt_some
theorem EO{w W:Lo}{vs:List Value}{t0 t1 t2:TypeId}{v1 v2:Value}(h:((w.alloc (.cells vs.toArray t0)).alloc (.cells #[v1] t1)).alloc (.cells #[v2] t2)=W):
  W.heap[w.heap.size]? =some (.cells vs.toArray t0 (0,0))/\W.heap[w.heap.size+1]? =some (.cells #[v1] t1 (0,0))/\W.heap[w.heap.size+1+1]? =some (.cells #[v2] t2 (0,0))/\Below w.heap.size w W/\W.heap.size=w.heap.size+1+1+1:=by
 subst h;have up: ∀{b:Nat} {W:Lo} {o':Obj} (o:Obj),W.heap[b]? =some o'->(W.alloc o).heap[b]? =some o':=λo h=>(ee _ _ _ (bU h)).trans h;have Zp: ∀(W:Lo) (o:Obj) (b:Nat),b=W.heap.size->(W.alloc o).heap[b]? =some o:=λW o b e=>FG;refine⟨up _ (up _ (Zp _ _ _ rfl)),up _ (Zp _ _ _ ah),Zp _ _ _ ah,?_,ah⟩;refine m7 ?_ aH _;refine m7 ?_ ah _;exact az
structure PkO(k:ip)(o:Value):Prop where
 val:o=BK (k.lc:Nat) (k.lp:Nat) (k.pb:Nat) k.nice k.chunk k.block k.check k.chain k.dict
 lc:k.lc<=4
 lp:k.lp<=4
 pb:k.pb<=4
 JY:k.lc+k.lp<=4
 nice:2<=k.nice/\k.nice<=273
 chunk:1<=k.chunk/\k.chunk<=65536
 dict:4096<=k.dict/\k.dict<=67108864
end
section
open Go.RowKit Go.Shelf
attribute [local go_sem] Oper.semAt_some
theorem J5(k:ip)(F:Nat): ∀(l:List (Nat×Nat)) (z:gF×Bool),cV {k with F:=F} l z=cV k l z
 | [],_=>rfl
 | x::l,z=>by have h:=J5 k F l (a7 k x.1 x.2 z.1 z.2).2;show((a7 k x.1 x.2 z.1 z.2).1++(cV {k with F:=F} l (a7 k x.1 x.2 z.1 z.2).2).1,(cV {k with F:=F} l (a7 k x.1 x.2 z.1 z.2).2).2)=_;rw[h];rfl
def Cr(w:Lo)(l:An)(e:Ending)(w':Lo):Prop:= ∃v,e= .returned (.tuple #[v,.int .i64 0])/\Own w.heap.size w' v l/\Below w.heap.size w w'
theorem WO{k:ip}{o:Value}(h:PkO k o):lO (k.lc:Nat) (k.lp:Nat) (k.pb:Nat) k.nice k.chunk k.dict=true:=by have h1:=h.lc;have h2:=h.lp;have h3:=h.pb;have h4:=h.JY;have h5:=h.nice;have h6:=h.chunk;have h7:=h.dict;unfold lO ro;rw[iz aa,iz ⟨h5,h6,h7⟩];rfl
theorem Pk.isCells{w:Lo}{p:Nat}{k:ip}{s:gF}{had:Bool}{Y:List Nat}(h:Pk w p k s had Y): ∀i∈p::Y,∃cs t x,w.heap[i]? =some (.cells cs t x):=by
 obtain⟨cv,h1,h2⟩:=h.ex;intro i hi;rcases List.mem_cons.1 hi with rfl|hi;·exact⟨_,_,_,h1⟩
 ·cases s with
  | none=>obtain⟨_,rfl⟩:=h2;cases hi
  | some s=>
   obtain⟨C,L,_,rfl,hc⟩:=h2;simp only[dc,fM,or_false]at hi;rcases hi with rfl|rfl;·obtain⟨T,hT,_⟩:=hc.mod.box;exact⟨_,_,_,hT⟩
   ·obtain⟨T,hT,_⟩:=hc.mod.lits;exact⟨_,_,_,hT⟩
theorem Own.isCells{base:Nat}{W:Lo}{v:Value}{l:An}(h:Own base W v l){j:Nat}{o:Obj}(hj:v.ownBlock=some j)(ho:W.heap[j]? =some o):o.isCells=true:=by
 rcases h with⟨_,⟨rfl,_⟩|⟨g',bW,cur,rfl,_,h4,_⟩⟩
 ·cases hj
 ·have e:g'=j:=by simpa [Value.ownBlock]using hj
  subst e;rw[ho]at h4;injection h4 with h4;subst h4;rfl
theorem xW{X:List Nat}{a b:Lo}(h:aM X a b)(hX: ∀i∈X,∃cs t x,a.heap[i]? =some (.cells cs t x)):KeepsOthers a b:=by
 refine⟨h.size,λj o hj ho=> ?_⟩;have aV:j<a.heap.size:=(bU hj)
 refine(h.block j aV (λhi=> ?_)).trans hj;obtain⟨cs,t,x,hc⟩:=hX j hi;rw[hj]at hc;injection hc with hc;subst hc;cases ho
theorem Pk.off{w:Lo}{p:Nat}{k:ip}{s:gF}{had:Bool}{Y:List Nat}(h:Pk w p k s had Y){j:Nat}{cs:Array Value}{t:TypeId}{x:Nat×Nat}(hj:w.heap[j]? =some (.cells cs t x))(h0:t≠103)(h1:t≠171)(h2:t≠317):j ∉ p::Y:=by
 obtain⟨cv,hP,hC⟩:=h.ex;intro hi;rcases List.mem_cons.1 hi with rfl|hi;·unfold gE at hP;rw[hj]at hP;injection hP with hP;injection hP with _ e _;exact h0 e
 ·exact hC.apart hj h1 h2 hi
theorem Own.ne{base:Nat}{W:Lo}{v:Value}{l:An}(h:Own base W v l){j:Nat}{cs:Array Value}{t:TypeId}{x:Nat×Nat}(hj:W.heap[j]? =some (.cells cs t x))(ht:t≠5):v.ownBlock≠some j:=by
 intro he;rcases h with⟨_,⟨rfl,_⟩|⟨g',bW,cur,rfl,_,h4,_⟩⟩
 ·cases he
 ·have e:g'=j:=by simpa [Value.ownBlock]using he
  subst e;rw[h4]at hj;injection hj with hj;injection hj with _ e2 _;exact ht e2.symm
structure yR(w2 W4:Lo)(q bP bO b1 b2:Nat)(k:ip)(pre:List (Nat×Nat))(W:Lo):Prop where
 ex: ∃s had Y v,Pk W q k s had Y/\(∀i∈Y,w2.heap.size<=i)/\W.heap[bO]? =some (.cells #[v] 22 (0,0))/\Own w2.heap.size W v (cV k pre (none,false)).1/\(cV k pre (none,false)).2=(s,had)
 box:W.heap[bP]? =some (.cells #[PF q] 100 (0,0))
 n1:W.heap[b1]? =W4.heap[b1]?
 n2:W.heap[b2]? =W4.heap[b2]?
 below:Below w2.heap.size w2 W
 lt:b1<W.heap.size/\b2<W.heap.size
theorem yR.alloc{w2 W4:Lo}{q bP bO b1 b2:Nat}{k:ip}(pre:List (Nat×Nat))(W:Lo)(o:Obj)(h:yR w2 W4 q bP bO b1 b2 k pre W):yR w2 W4 q bP bO b1 b2 k pre (W.alloc o):=by obtain⟨s,had,Y,v,h1,h2,h3,h4,h5⟩:=h.ex;have hb:aq W (W.alloc o):=az;have up: ∀{b:Nat} {o':Obj},W.heap[b]? =some o'->(W.alloc o).heap[b]? =some o':=λh=>(ee _ _ _ (bU h)).trans h;exact⟨⟨s,had,Y,v,h1.below hb,h2,up h3,h4.alloc _,h5⟩,up h.box,(ee _ _ _ h.lt.1).trans h.n1,(ee _ _ _ h.lt.2).trans h.n2,h.below.alloc h.below.size _,by have:=h.lt;simp;omega⟩
theorem yR.put{w2 W4:Lo}{q bP bO b1 b2:Nat}{k:ip}(hw:w2.heap.size<=W4.heap.size)(GC:b1<W4.heap.size/\b2<W4.heap.size)(pre:List (Nat×Nat))(W:Lo)(l:Nat)(o o':Obj)(h:yR w2 W4 q bP bO b1 b2 k pre W)(hl:W4.heap.size<=l)(yr:W.heap[l]? =some o)(hoc:o.isCells=false):yR w2 W4 q bP bO b1 b2 k pre (W.putObj l o'):=by
 obtain⟨s,had,Y,v,h1,h2,h3,h4,h5⟩:=h.ex;have ne: ∀{i:Nat},(∃cs t x,W.heap[i]? =some (.cells cs t x))->i≠l:=fun⟨cs,t,x,hc⟩ e=>by subst e;rw[yr]at hc;injection hc with hc;subst hc;cases hoc
 have up: ∀{i:Nat},i≠l->(W.putObj l o').heap[i]? =W.heap[i]? :=λe=>World.putObj_heap_other e;refine⟨⟨s,had,Y,v,h1.aU (λi hi=>up (ne (h1.isCells i hi))),h2,(up (ne ⟨_,_,_,h3⟩)).trans h3,h4.oB (λg hg=>up ?_),h5⟩,(up (ne ⟨_,_,_,h.box⟩)).trans h.box,(up aa).trans h.n1,(up aa).trans h.n2,?_,by simpa [World.putObj]using h.lt⟩;·intro e;subst e;have:=h4.isCells hg yr;rw[hoc]at this;cases this
 ·exact h.below.grown (grownBy_putObj' W l o') h.below.size (λk e=>t6)
theorem RK(k:ip)(o:Value)(w:Lo)(ho:PkO k o)(hB:Bytes w k.A k.D)(hA: ∀a,k.A=some a->a.block<w.heap.size)(hc:k.D.length<=k.cD)(hl:k.D.length<=100000):
  Calls prog 35 #[.slice k.A k.D.length k.cD,o] w (Cr w (mH k)):=by
 have Ni:=WO ho;rw[ho.val];obtain⟨A,D,cD,lc,lp,pb,nice,chunk,block,check,chain,dict,F⟩:=k;simp only at Ni hB hA hc hl ⊢;have⟨k,hk⟩:=ex ((⟨A,D,cD,lc,lp,pb,nice,chunk,block,check,chain,dict,F⟩:ip):ip);have HO:Hid (lc<=4/\lp<=4/\pb<=4/\lc+lp<=4/\(2<=nice/\nice<=273)/\(1<=chunk/\chunk<=65536)/\4096<=dict/\dict<=67108864):=ae ⟨ho.lc,ho.lp,ho.pb,ho.JY,ho.nice,ho.chunk,ho.dict⟩;rw[hk];have⟨W,hW⟩:=ex (((w.alloc (.cells #[.int .i64 lc,.int .i64 lp,.int .i64 pb,.int .i64 nice,.int .i64 chunk,.int .i64 block,.int .i64 check,chain,.int .u32 dict] 26)).alloc (.cells #[.slice none 0 0] 22)).alloc (.cells #[.int .i64 0] 36));obtain⟨r0,r1,r2,hb,hs⟩:=EO (vs:=eL lc lp pb nice chunk block check chain dict) hW;have HF:=ae (Jf lc lp pb nice chunk block check chain dict W);rw[Ni]at HF;have xl:Hid (∀W',Below W.heap.size W W'->W'.cell? ⟨w.heap.size,0,none⟩=some (.int .i64 lc)/\W'.cell? ⟨w.heap.size,1,none⟩=some (.int .i64 lp)/\W'.cell? ⟨w.heap.size,2,none⟩=some (.int .i64 pb)/\W'.cell? ⟨w.heap.size,3,none⟩=some (.int .i64 nice)/\W'.cell? ⟨w.heap.size,4,none⟩=some (.int .i64 chunk)/\W'.cell? ⟨w.heap.size,5,none⟩=some (.int .i64 block)/\W'.cell? ⟨w.heap.size,6,none⟩=some (.int .i64 check)/\W'.cell? ⟨w.heap.size,7,none⟩=some chain/\W'.cell? ⟨w.heap.size,8,none⟩=some (.int .u32 dict)):=ae (λW' yE=>by
  have r:=(yE.block _ (bU r0)).trans r0;refine⟨?_,?_,?_,?_,?_,?_,?_,?_,?_⟩<;>(rw[aC W' _ _ _ _ _ r];rfl))
 obtain⟨c0,c1,c2,c3,c4,c5,c6,c7,c8⟩:=xl.out W (aP _ _);have HR:Hid (W.heap[w.heap.size+1]? =some (.cells #[.slice none 0 0] 22 (0,0))/\W.heap[w.heap.size+1+1]? =some (.cells #[.int .i64 0] 36 (0,0))):=ae ⟨r1,r2⟩;have Rw:=ae (fun(W':Lo) (yE:Below w.heap.size w W')=>F_ A D cD (dict:Nat) nice W' (hB.below yE) hc hl (av HO.out) (av HO.out) (av HO.out));have HW:=ae hW;have HB:=ae hb;have HK:=ae hk;have gx:=ae (ap hB (ap hA (ap hc hl)));have Jt:(dict:Int)<=67108864:=av HO.out;have n9:(D.length:Int)<=100000:=aa;clear hW hb hs r0 r1 r2 Ni ho hk hB hA hc hl;refine(callsIn_wide (n:=6)).1 ?_;refine callsIn_of_wp_marks func35 rfl trivial ?_ rfl;simp only[ntmps35,List.size_toArray,el,List.length_nil,Nat.reduceAdd,Nat.reduceSub,Array.replicate_succ,Array.replicate_zero,List.push_toArray,List.append_toArray,fL,List.cons_append]
 gi_wp2_with fail
 rw[HW.out];refine⟨trivial,(callsIn_wide.2 HF.out).mono ?_⟩;rintro e w1 ⟨rfl,aI⟩;obtain⟨c0,c1,c2,c3,c4,c5,c6,c7,c8⟩:=xl.out w1 aI;have bF:=ae (aQ HB.out aI);have akv:=ae aI;clear aI
 gi_wp2_with fail
 refine⟨trivial,(callsIn_wide.2 (Rw w1 bF.out)).mono ?_⟩;rintro e w2 ⟨F2,AF,cF,mp,B,rfl,hRd,aK⟩;clear c0 c1 c2 c3 c4 c5 c6 c7 c8;obtain⟨c0,c1,c2,c3,c4,c5,c6,c7,c8⟩:=xl.out w2 (aQ akv.out aK);have dG:=ae (aQ bF.out aK);have aeF:=ae (aQ akv.out aK);have F':=ae hRd;clear aK hRd;have RL:=ae (λW=>RJ D.length chunk.toNat W);rw[show(chunk.toNat:Int)=chunk by have:=HO.out;omega]at RL;have⟨W3,jE⟩:=ex (((w2.alloc (.cells #[.slice A D.length cD,.int .i64 lc,.int .i64 lp,.int .i64 pb,.int .i64 nice,.int .i64 chunk,.int .i64 block,.int .i64 check,chain,.int .u32 dict,PF F2,.pointer none,.bool false] 103)).alloc (.cells #[.pointer (some ⟨w2.heap.size,0,none⟩)] 100)).alloc (.cells #[.slice none 0 0] 22));have⟨k2,qp⟩:=ex ((⟨A,D,cD,lc,lp,pb,nice,chunk,block,check,chain,dict,F2⟩:ip):ip);obtain⟨q0,q1,q2,bm,Hv⟩:=EO (vs:=ab8 ⟨A,D,cD,lc,lp,pb,nice,chunk,block,check,chain,dict,F2⟩ (.pointer none) false) jE;rw[qp]at q0;obtain⟨_,_,_,_,d4,_,_,_,_⟩:=xl.out W3 (aQ aeF.out bm);rw[<-jE]at d4;have zz:=ae jE;have ft:=ae bm;have HQ:Hid (gE W3 w2.heap.size k2 (.pointer none) false/\W3.heap[w2.heap.size+1]? =some (.cells #[PF w2.heap.size] 100 (0,0))/\W3.heap[w2.heap.size+1+1]? =some (.cells #[.slice none 0 0] 22 (0,0))/\W3.heap.size=w2.heap.size+1+1+1):=ae ⟨q0,q1,q2,Hv⟩;have HK2:=ae qp;clear jE bm q0 q1 q2 Hv qp
 gi_wp2_with fail
 rw[zz.out];refine⟨trivial,(callsIn_wide.2 (RL W3)).mono ?_⟩;rintro e W4 ⟨rfl,lP⟩;clear d4 c0 c1 c2 c3 c4 c5 c6 c7 c8;have⟨q,hq⟩:=ex (w2.heap.size);obtain⟨bP,hbP⟩: ∃b,q+1=b:=⟨_,rfl⟩
 obtain⟨bO,hbO⟩: ∃b,bP+1=b:=⟨_,rfl⟩
 obtain⟨b1,aI⟩: ∃b,W3.heap.size=b:=⟨_,rfl⟩
 obtain⟨b2,aK⟩: ∃b,b1+1=b:=⟨_,rfl⟩
 rw[aI,aK,hq,hbP,hbO]
 gi_wp2_with fail
 have ks:W4.heap[b1]? =some (.cells #[.int .i64 D.length] 3 (0,0)):=by rw[<-lP,<-aI];exact(ee _ _ _ ah).trans (bz W3 _)
 have fK:W4.heap[b2]? =some (.cells #[.int .i64 chunk.toNat] 3 (0,0)):=by rw[<-lP,<-aK,<-aI];have h:=bz (W3.alloc (.cells #[.int .i64 D.length] 3)) (.cells #[.int .i64 chunk.toNat] 3);rw[pV]at h;exact h
 have zH:Below W3.heap.size W3 W4:=by rw[<-lP];exact(az).alloc ah _
 have HX:=ae (ap ks fK);have akw:=ae zH;have ug:Hid (w2.heap.size=q/\q+1=bP/\bP+1=bO/\W3.heap.size=b1/\b1+1=b2):=ae ⟨hq,hbP,hbO,aI,aK⟩;have il:Hid (b1<W4.heap.size/\b2<W4.heap.size/\q<b1/\bP<b1/\bO<b1/\w2.heap.size<=W4.heap.size):=ae (by
  have e1:=(bU ks)
  have e2:=(bU fK)
  have e3:=HQ.2.2.2;have e4:=ft.size;have e5:=zH.size;omega)
 have H0:Hid (yR w2 W4 q bP bO b1 b2 k2 [] W4):=ae (by
  obtain⟨g0,g1,g2,_⟩:=HQ.out;rw[hq]at g0 g1 g2;rw[hbP]at g1 g2;rw[hbO]at g2;have up: ∀{i:Nat} {o':Obj},W3.heap[i]? =some o'->W4.heap[i]? =some o':=λh=>(zH.block _ (bU h)).trans h;exact⟨⟨none,false,[],_,⟨_,up g0,rfl,rfl⟩,(λi hi=>by cases hi),up g2,Own.nil _ _,rfl⟩,up g1,rfl,rfl,aQ ft.out zH,⟨il.1,il.2.1⟩⟩)
 have HPC:Hid (∀(x:Nat×Nat),x.1<x.2->x.2<=D.length-> ∃bD oD,PkC w2 k2 AF cF mp B bD oD/\k2.D=D):=ae (λx h1 h2=>by
  have hBw:Bytes w2 A D:=gx.1.below dG.out;obtain⟨bD,oD,hA,hbD,_⟩:=hBw.addr aa;refine⟨bD,oD,?_,by rw[<-HK2.out]⟩;rw[<-HK2.out];have ho:=HO.out;exact⟨F'.out,hA,hBw,hbD,gx.2.2.1,gx.2.2.2,by show 1<=dict;omega,ho.2.2.2.2.1.2,ho.1,ho.2.1,ho.2.2.1,ho.2.2.2.1⟩)
 have HPM:Hid (∀pre x t,d9 D.length chunk.toNat 0=pre++x::t->(x.1<x.2/\x.2<=D.length)/\(cV k2 pre (none,false)).1.length+(x.2-x.1+3)<=140737488355328):=ae (λpre x t h=>by
  have dE:1<=chunk.toNat:=av HO.out;have hm:=Cp (n:=D.length) dE (D.length-0) 0 (aF _);rw[h]at hm;have hx:=hm x ah;have hlen:=pE (n:=D.length) dE (D.length-0) 0 (aF _);rw[h,aG]at hlen;have hp:=Cq (k:=k2) pre (none,false) (λy hy=>by rw[<-HK2.out];exact hm y (by simp[hy]));rw[show k2.D.length=D.length by rw[<-HK2.out]]at hp;have hl:=gx.2.2.2;have hle:pre.length*(D.length+3)<=100000*100003:=Nat.mul_le_mul aa aa;exact⟨hx,aa⟩)
 have zE:Hid (∀W',Below w2.heap.size w2 W'->W'.heap[w.heap.size+1]? =some (.cells #[.slice none 0 0] 22 (0,0))/\W'.heap[w.heap.size+1+1]? =some (.cells #[.int .i64 0] 36 (0,0))):=ae (λW' yE=>by
  have fE:=aQ aeF.out yE;exact⟨(fE.block _ (bU HR.1)).trans HR.1,(fE.block _ (bU HR.2)).trans HR.2⟩)
 have aeb:Hid (w.heap.size+1+1<w2.heap.size):=ae (db (bU HR.2) aeF.size);clear ks fK zH lP hq hbP hbO aI aK
 refine GG rfl ar (gf:=105) (lb:= #[PF b1,PF b2]) rfl trivial (enters_of func105 ak rfl)
  (RH Fence.wide 5 trivial rfl ar D.length chunk.toNat b1 b2 (av HO.out) (av HO.out) (av gx.2.2.2) W4 ⟨_,HX.1⟩ ⟨_,HX.2⟩) rfl
  (yR w2 W4 q bP bO b1 b2 k2) (λs W o h=>h.alloc s W o) (λs W l o o' h=>h.put il.2.2.2.2.2 ⟨il.1,il.2.1⟩ s W l o o') (λs W h=>⟨h.n1,h.n2⟩) H0.out
  (λx=>{tmps:= #[.slice A D.length cD,BK (lc:Nat) (lp:Nat) (pb:Nat) nice chunk block check chain dict,undef,.pointer (some ⟨w.heap.size,0,none⟩),.pointer (some ⟨w.heap.size+1,0,none⟩),.pointer (some ⟨w.heap.size+1+1,0,none⟩),PF F2,.int .i64 0,.pointer (some ⟨bP,0,none⟩),.pointer (some ⟨bO,0,none⟩),.int .i64 (x.1:Nat),.int .i64 (x.2:Nat),undef,undef,BK (lc:Nat) (lp:Nat) (pb:Nat) nice chunk block check chain dict,.bool true,.bool false,.tuple #[PF F2,.int .i64 0],.slice A D.length cD,.pointer (some ⟨w.heap.size,8,none⟩),.int .u32 dict,.int .i64 dict,.pointer (some ⟨w.heap.size,3,none⟩),.int .i64 nice,.tuple #[PF F2,.int .i64 0],PF F2,.int .i64 0,.int .i64 0,.bool false,undef,.slice A D.length cD,BK (lc:Nat) (lp:Nat) (pb:Nat) nice chunk block check chain dict,PF F2,.agg #[.slice A D.length cD,.int .i64 lc,.int .i64 lp,.int .i64 pb,.int .i64 nice,.int .i64 chunk,.int .i64 block,.int .i64 check,chain,.int .u32 dict,PF F2,.pointer none,.bool false],.pointer (some ⟨q,0,none⟩),.slice A D.length cD,.int .i64 D.length,.pointer (some ⟨w.heap.size,4,none⟩),.int .i64 chunk,.func (.func 105) #[] #[PF b1,PF b2],.int .i64 (x.1:Nat),.int .i64 (x.2:Nat),undef,undef,undef,undef,undef,undef,undef,undef,undef,undef,undef,undef,undef,undef,undef,undef],defers:=[]}) ?assign ?body ?done
 case assign=>
  intro l x W K hK
  gi_wp2
  exact hK
 case body=>
  rintro l pre x t W ly hI;obtain⟨s,had,Y,v,WG,hYg,ki,aL,da⟩:=hI.ex;obtain⟨⟨GC,h2n⟩,hlen⟩:=HPM.out pre x t ly;obtain⟨bD,oD,hC,hkD⟩:=HPC.out x GC h2n;have hq:w2.heap.size=q:=ug.1;have xL:=ae (RD hC hI.below WG (Nat.le_of_eq hq) hYg x.1 x.2 GC (by rw[hkD];exact h2n));have cP:W.cell? ⟨bP,0,none⟩=some (PF q):=by rw[aC W _ _ _ _ _ hI.box];rfl
  have lj:=nA (k:=k2) (a:=x.1) (b:=x.2) (s:=s) (had:=had) GC (by rw[hkD];exact h2n);have⟨L,hL⟩:=ex ((cV k2 pre (none,false)).1);rw[hL]at aL hlen;have T4:cV k2 (pre++[x]) (none,false)=(L++(a7 k2 x.1 x.2 s had).1,(a7 k2 x.1 x.2 s had).2):=by rw[yQ,hL,da]
  obtain⟨⟨R,s3,aeG⟩,hR⟩: ∃r,a7 k2 x.1 x.2 s had=r:=⟨_,rfl⟩
  rw[hR]at T4 xL lj;have⟨LR,hLR⟩:=ex (L++R);have akA:cV k2 (pre++[x]) (none,false)=(LR,s3,aeG):=by rw[T4,<-hLR]
  have HLR:=ae hLR;have HSN:=ae akA;have vk:Hid (L.length+R.length<=140737488355328):=ae (by have:R.length<=x.2-x.1+3:=lj;omega);have HPK:=ae WG;have HYG:=ae hYg;have H7:=ae ki;have HOW:=ae aL;have HI:=ae hI;clear WG hYg ki aL da hlen hC lj hL T4 akA hLR hR hq hI GC h2n hkD
  gi_wp2_with fail
  refine⟨trivial,(CallsIn.inRound _ (callsIn_wide.2 xL.out)).mono ?_⟩;rintro e w3 ⟨v3,Y3,rfl,dU,hP3,dB,Dq⟩;simp only at dU hP3;obtain⟨A3,c3,rfl,_,_,iP⟩:=dU.read;have nO:=HPK.off H7.out ar ar ar;have nP:=HPK.off HI.box ar ar ar;have aeI:=(dB.block bO (bU H7.out) nO).trans H7.out;have akB:=(dB.block bP (bU HI.box) nP).trans HI.box;have n1:=HPK.off (HI.n1.trans HX.1) ar ar ar;have n2:=HPK.off (HI.n2.trans HX.2) ar ar ar;have h31:=(dB.block b1 HI.lt.1 n1).trans HI.n1;have L6:=(dB.block b2 HI.lt.2 n2).trans HI.n2;have bJ:Own w2.heap.size w3 v L:=HOW.oB (λg hg=>dB.block g (HOW.ay g hg).2 (HPK.own HOW.out g hg));have bm:Below w2.heap.size w2 w3:=HI.below.trans (dB.below HI.below.size (λi hi=>by
   rcases List.mem_cons.1 hi with rfl|hi;·exact Nat.le_of_eq ug.1
   ·exact HYG i hi))
  have cO3:w3.cell? ⟨bO,0,none⟩=some v:=by rw[aC w3 _ _ _ _ _ aeI];rfl
  have vI:=ae bJ;have aeJ:=ae bm;have V6:=ae iP;have Hz:=ae hP3;have ael:=ae dB;have EN:=ae Dq;have wm:=ae (ap aeI (ap akB (ap h31 L6)));clear dU hP3 dB Dq iP nO nP aeI akB n1 n2 h31 L6 bJ bm cP
  gi_wp2_with (gi_at_builtin;refine kv ?_ (.tmp 52) (.tmp 53) ?_ w2.heap.size w3 v L ?_ vI.out A3 R c3 ?_ V6.out vk.out aeJ.size ?_;rfl;rfl;rfl;rfl;intro v4 w4 bM dq;rw[HLR.out]at bM;obtain⟨A4,c4,rfl,_,_,_⟩:=bM.read;have vA:=ae bM;have C':=ae dq;have aab:=(dq.block bO (bU wm.1) (λe=>vI.ne wm.1 ar e.symm)).trans wm.1;have cO4:w4.cell? ⟨bO,0,none⟩=some v:=(by rw[aC w4 _ _ _ _ _ aab];rfl);have fO4:=aS w4 bO 0 _ _ aab;have aeK:=ae aab;clear bM dq aab)
  have dq:=C'.out;have fj:=fun{j:Nat} {cs:Array Value} {t:TypeId} {y:Nat×Nat} (hj:w3.heap[j]? =some (.cells cs t y)) (ht:t≠5)=>(dq.block j (bU hj) (λe=>vI.ne hj ht e.symm))
  have arq:=(fj wm.2.1 ar).trans wm.2.1;have h41:=(fj (wm.2.2.1.trans HX.1) ar).trans wm.2.2.1;have h42:=(fj (wm.2.2.2.trans HX.2) ar).trans wm.2.2.2;have hP4:Pk w4 q k2 s3 aeG Y3:=Hz.aU (λi hi=>dq.block i (by
   rcases List.mem_cons.1 hi with rfl|hi;·exact Hz.lt
   ·exact Hz.ltY i hi) (λe=>Hz.own vI.out i e.symm hi))
  have bc:Below w2.heap.size w2 w4:=am aeJ.out dq aeJ.size (λg e=>(vI.ay g e).1);have oth: ∀i,i≠bO->(w4.setCell ⟨bO,0,none⟩ (.slice A4 LR.length c4)).heap[i]? =w4.heap[i]? :=λi hi=>af _ _ _ _ hi;have hbe:=ug.out;have dF:=il.out;have nO4:=hP4.off aeK.out ar ar ar;refine⟨((xW ael.out HPK.isCells).trans (KeepsOthers.of_grownBy dq (λj o hj ho=>vI.isCells hj ho))).trans (KeepsOthers.setCell _ _ _),⟨⟨s3,aeG,Y3,.slice A4 LR.length c4,hP4.aU (λi hi=>oth i (λe=>by subst e;exact nO4 hi)),λi hi=> ?_,?_,?_,?_⟩,(oth bP aa).trans arq,(oth b1 aa).trans h41,(oth b2 aa).trans h42,bc.setCell (by show w2.heap.size<=bO;omega) _,?_⟩⟩
  ·rcases EN.out i hi with h|h;·exact HYG i h
   ·exact a8 HI.below.size h
  ·exact heap_set aeK.out 0 _
  ·rw[HSN.out];exact vA.oB (λg hg=>oth g (λe=>by subst e;exact vA.ne aeK.out ar hg))
  ·rw[HSN.out]
  ·have e1:=(Array.getElem?_eq_some_iff.1 (h41.trans HX.1)).1;have e2:=(Array.getElem?_eq_some_iff.1 (h42.trans HX.2)).1;simpa [World.setCell]using ap e1 e2
 case done=>
  rintro DD W hD hI hK;obtain⟨s,had,Y,v,WG,hYg,ki,aL,da⟩:=hI.ex;have⟨L,hL⟩:=ex ((cV k2 (d9 D.length chunk.toNat 0) (none,false)).1);rw[hL]at aL;have⟨LR,hLR⟩:=ex (L++[0]);have HPB:Hid (mH k=LR):=ae (by
   rw[<-HK.out,<-hLR,<-hL,<-HK2.out];exact aR (λz:List UInt8×gF×Bool=>z.1++[0]) (J5 ⟨A,D,cD,lc,lp,pb,nice,chunk,block,check,chain,dict,F⟩ F2 _ _).symm)
  have vk:Hid (L.length+1<=140737488355328):=ae (by
   have dE:1<=chunk.toNat:=av HO.out;have h1:=pF (k:=k2) (n:=D.length) dE (by rw[<-HK2.out]) (D.length-0) 0 (none,false) (aF _);have h2:=pE (n:=D.length) dE (D.length-0) 0 (aF _);have h3:=gx.2.2.2;rw[hL]at h1;omega)
  have HLR:=ae hLR;have cO:W.cell? ⟨bO,0,none⟩=some v:=by rw[aC W _ _ _ _ _ ki];rfl
  have⟨W5,J6⟩:=ex (W.alloc (.cells #[.int .u8 0] 5));have eS:Below W.heap.size W W5:=by rw[<-J6];exact az
  have HX5:Hid (Bytes W5 (some ⟨W.heap.size,0,none⟩) [0]):=ae (by rw[<-J6];exact Bytes.one W 0);have Bq:Hid (Own w2.heap.size W5 v L):=ae (by rw[<-J6];exact aL.alloc _);have pX:Hid (Below w2.heap.size w2 W5):=ae (aQ hI.below eS);have HK5:Hid (W5.heap[DD]? =some (.deferred (some []))):=ae ((eS.block _ (bU hK)).trans hK);have HW5:=ae J6;have Pw:=ae hD;have n12:w.heap.size+1≠w.heap.size+1+1:=aa;clear WG hYg ki aL da hL hLR J6 eS hI hK hD
  gi_wp2_with (gi_at_builtin;rw[HW5.out];refine kv ?_ (.tmp 55) (.tmp 56) ?_ w2.heap.size W5 v L ?_ Bq.out (some ⟨W.heap.size,0,none⟩) [0] 1 ?_ HX5.out vk.out pX.size ?_;rfl;rfl;rfl;rfl;intro v6 w6 lf ot;rw[HLR.out]at lf;obtain⟨A6,c6,rfl,_,_,_⟩:=lf.read;have Pn:=ae lf;have ul:=ae (am pX.out ot pX.size (λg e=>(Bq.ay g e).1));have HK6:Hid (w6.heap[DD]? =some (.deferred (some []))):=ae ((ot.block DD (bU HK5.out) (λe=>by have:=Bq.isCells e.symm HK5.out;cases this)).trans HK5.out);obtain⟨s1,s2⟩:=zE.out w6 ul.out;have k1:w6.cell? ⟨w.heap.size+1,0,none⟩=some (.slice none 0 0):=(by rw[aC w6 _ _ _ _ _ s1];rfl);have k2:w6.cell? ⟨w.heap.size+1+1,0,none⟩=some (.int .i64 0):=(by rw[aC w6 _ _ _ _ _ s2];rfl);have f1:=aS w6 _ 0 _ _ s1;have f2:=aS w6 _ 0 _ _ s2;have aeL:=ae (ap s1 s2);clear lf ot s1 s2)
  have dF:=aeb.out;have l4:w.heap.size+1+1<w6.heap.size:=(bU aeL.2)
  have⟨W8,RM⟩:=ex ((w6.setCell ⟨w.heap.size+1,0,none⟩ (.slice A6 LR.length c6)).setCell ⟨w.heap.size+1+1,0,none⟩ (.int .i64 0));have hK8:W8.heap[DD]? =some (.deferred (some [])):=by rw[<-RM];have h4:=Pw.out;have h5:=il.out;exact(af _ _ _ _ (by show DD≠w.heap.size+1+1;omega)).trans ((af _ _ _ _ (by show DD≠w.heap.size+1;omega)).trans HK6.out)
  have g1:W8.heap[w.heap.size+1]? =some (.cells #[.slice A6 LR.length c6] 22 (0,0)):=by rw[<-RM];exact(af _ _ _ _ (by show w.heap.size+1≠w.heap.size+1+1;omega)).trans (heap_set aeL.1 0 _)
  have g2:W8.heap[w.heap.size+1+1]? =some (.cells #[.int .i64 0] 36 (0,0)):=by rw[<-RM];exact heap_set ((af _ _ _ _ (by show w.heap.size+1+1≠w.heap.size+1;omega)).trans aeL.2) 0 _
  have rG:Below w.heap.size w W8:=by rw[<-RM];exact((aQ dG.out ul.out).setCell pa _).setCell FN _
  have qA:Own w.heap.size W8 (.slice A6 LR.length c6) LR:=by refine(Pn.oB (λg hg=> ?_)).weaken dG.size;have Dk:=(Pn.ay g hg).1;rw[<-RM];exact(af _ _ _ _ (by show g≠w.heap.size+1+1;omega)).trans (af _ _ _ _ (by show g≠w.heap.size+1;omega))
  rw[RM];have ne4:w.heap.size+1≠DD/\w.heap.size+1+1≠DD:=by have h4:=Pw.out;have h5:=il.out;omega
  have kk1:(W8.putObj DD (.deferred none)).cell? ⟨w.heap.size+1,0,none⟩=some (.slice A6 LR.length c6):=by rw[aC _ _ _ _ _ _ ((World.putObj_heap_other ne4.1).trans g1)];rfl
  have kk2:(W8.putObj DD (.deferred none)).cell? ⟨w.heap.size+1+1,0,none⟩=some (.int .i64 0):=by rw[aC _ _ _ _ _ _ ((World.putObj_heap_other ne4.2).trans g2)];rfl
  have Dt:Own w.heap.size (W8.putObj DD (.deferred none)) (.slice A6 LR.length c6) LR:=qA.oB (λg hg=>World.putObj_heap_other (λe=>by
   subst e;have:=qA.isCells hg hK8;cases this))
  have Du:Below w.heap.size w (W8.putObj DD (.deferred none)):=rG.grown (grownBy_putObj' W8 DD (.deferred none)) rG.size (λk e=>by cases e;have h4:=Pw.out;have h5:=il.out;have h6:=aeb.out;omega);rw[HPB.out];refine⟨ah,.inl ⟨_,_,rfl,run_takeDeferred (b:=DD) (ds:=[]) hK8,?_⟩⟩;exact⟨_,(by simp[results,results35,go_sem,kk1,kk2]),_,rfl,Dt,Du⟩
end

theorem SW(lc lp pb nice chunk block check:Int)(chain:Value)(dict:Nat)(w:Lo):
  Calls prog 50 #[BK lc lp pb nice chunk block check chain dict] w (mC (lO lc lp pb nice chunk dict) w):=by
 have⟨R,hR⟩:=ex (lO lc lp pb nice chunk dict);rw[hR];have⟨W,hW⟩:=ex (w.alloc (.cells #[.int .i64 lc,.int .i64 lp,.int .i64 pb,.int .i64 nice,.int .i64 chunk,.int .i64 block,.int .i64 check,chain,.int .u32 dict] 26));obtain⟨aY,bZ⟩:=dI (vs:=eL lc lp pb nice chunk block check chain dict) hW;have c0:W.cell? ⟨w.heap.size,0,none⟩=some (.int .i64 lc):=oZ;have c1:W.cell? ⟨w.heap.size,1,none⟩=some (.int .i64 lp):=oZ;have c2:W.cell? ⟨w.heap.size,2,none⟩=some (.int .i64 pb):=oZ;have c3:W.cell? ⟨w.heap.size,3,none⟩=some (.int .i64 nice):=oZ;have c4:W.cell? ⟨w.heap.size,4,none⟩=some (.int .i64 chunk):=oZ;have c8:W.cell? ⟨w.heap.size,8,none⟩=some (.int .u32 dict):=oZ;have HW:=ae hW;have cW:=ae bZ;have HM:=ae (aaS lc lp pb W);clear aY hW bZ;cases hp:ro lc lp pb with
 | false=>
  rw[hp]at HM;have Vr:Hid (R=false):=ae (by rw[<-hR];unfold lO;rw[hp];rfl);clear hp hR;go_enter func50,ntmps50;go_upto_region 1 with fail;rw[HW.out];go_wp2_with fail;refine HM.mono ?_;rintro e w1 ⟨rfl,rfl⟩;go_wp2;go_ret;exact⟨by rw[Vr.out];rfl,cW.out⟩
 | true=>
  rw[hp]at HM;have hRv:R=decide ((2<=nice/\nice<=273)/\(1<=chunk/\chunk<=65536)/\4096<=dict/\dict<=67108864):=by rw[<-hR];unfold lO;rw[hp];rfl
  clear hp hR;rcases(by omega: ¬2<=nice\/(2<=nice/\ ¬nice<=273)\/((2<=nice/\nice<=273)/\ ¬1<=chunk)\/((2<=nice/\nice<=273)/\1<=chunk/\ ¬chunk<=65536)\/((2<=nice/\nice<=273)/\(1<=chunk/\chunk<=65536)/\ ¬4096<=(dict:Int))\/((2<=nice/\nice<=273)/\(1<=chunk/\chunk<=65536)/\4096<=(dict:Int)/\ ¬(dict:Int)<=67108864)\/((2<=nice/\nice<=273)/\(1<=chunk/\chunk<=65536)/\4096<=(dict:Int)/\(dict:Int)<=67108864))with g1|⟨g1,g2⟩|⟨⟨g1,g2⟩,g3⟩|⟨⟨g1,g2⟩,g3,g4⟩|⟨⟨g1,g2⟩,⟨g3,g4⟩,g5⟩|⟨⟨g1,g2⟩,⟨g3,g4⟩,g5,g6⟩|⟨⟨g1,g2⟩,⟨g3,g4⟩,g5,g6⟩
  all_goals
   have Vr:=ae (show R=false\/R=true from by cases R<;>simp);have HRd:Hid (R=decide ((2<=nice/\nice<=273)/\(1<=chunk/\chunk<=65536)/\4096<=dict/\dict<=67108864)):=ae hRv;clear hRv Vr;go_enter func50,ntmps50;go_upto_region 1 with fail;rw[HW.out];go_wp2_with fail;refine HM.mono ?_;rintro e w1 ⟨rfl,rfl⟩;go_wp2;go_ret
   first
    | exact⟨by rw[show R=false from by rw[HRd.out];exact du aa];rfl,cW.out⟩
    | exact⟨by rw[show R=decide ((dict:Int)<=67108864)from by rw[HRd.out];exact decide_eq_decide.2 aa];rfl,cW.out⟩
    | exact⟨by rw[show R=true from by rw[HRd.out];exact iz aa];rfl,cW.out⟩
theorem KA(n:Nat)(hn:n<=281474976710656)(w:Lo):Calls prog 85 #[.int .i64 n] w (nU w (po n)):=by
 have qV:(n:Int)<=281474976710656:=aa;have hq:(n:Int).tdiv 256=(n:Int)/256:=Int.tdiv_eq_ediv_of_nonneg aa;have HO:=ae (fun(v1 v2:Value) (e1:v1=B8 (UInt8.ofNat (n/256))) (e2:v2=B8 (UInt8.ofNat n))=>show Own w.heap.size (w.alloc (.cells #[v1,v2] 5)) (.slice (some ⟨w.heap.size,0,none⟩) 2 2) (po n) by
  subst e1 e2;exact Own.lit w (po n) (aF _) (by unfold po;simp))
 go_enter func85,ntmps85;go_wp2;go_ret;refine⟨_,rfl,HO.out _ _ ?_ ?_,az⟩;·simp only[B8,fN];congr 1
 ·simp only[B8,fN];congr 1
def jl(g:Nat->Nat):Nat->Nat×Nat->Nat×Nat
 | 0,z=>z
 | n+1,z=>jl g n (if z.1<=g n then(g n,n)else z)
theorem D7(g:Nat->Nat):jl g 4 (0,0)=aW g 4:=by
 simp only[jl,aW]
 grind
def oneOf(D:An)(p:Nat)(rep m:Nat×Nat)(first:Nat):Sy:=
 if 1<rep.1/\m.1<=rep.1+1 then⟨2,0,rep.1,0,rep.2⟩
 else if 2<m.1\/(m.1=2/\m.2<129)then⟨1,0,m.1,m.2,0⟩
 else if 0<first then⟨2,0,1,0,0⟩
 else⟨0,D.getD p 0,0,0,0⟩
theorem OC{nice:Int}{tt:Nat}(hp:p<D.length):
  oneOf D p (fh D dict (p:Int) ((tt:Int)-(p:Int)) r.1 r.2.1 r.2.2.1 r.2.2.2) (iQ D dict nice p ((tt:Int)-(p:Int))) (d7 D dict (p:Int) r.1 ((tt:Int)-(p:Int)))=gV D dict nice tt p r:=by
 have hb:nx D dict nice (p:Int) ((tt:Int)-(p:Int))=iQ D dict nice p ((tt:Int)-(p:Int)):=by unfold nx;rw[ax ⟨aa,aa⟩,Int.toNat_natCast]
 have h2:(iQ D dict nice p ((tt:Int)-(p:Int))).1=0\/2<=(iQ D dict nice p ((tt:Int)-(p:Int))).1:=by
  unfold iQ;split;·exact .inl rfl
  ·right;omega
 unfold gV jp oneOf;rw[hb];generalize iQ D dict nice p ((tt:Int)-(p:Int))=m at*;generalize fh D dict (p:Int) ((tt:Int)-(p:Int)) r.1 r.2.1 r.2.2.1 r.2.2.2=rp;generalize d7 D dict (p:Int) r.1 ((tt:Int)-(p:Int))=f;simp only;by_cases c1:2<=rp.1/\m.1<=rp.1+1;·rw[ax c1,ax aa]
 ·rw[au c1,au aa];by_cases c2:3<=m.1\/(0<m.1/\m.2<=128);·rw[ax c2,ax aa]
  ·rw[au c2,au aa];by_cases c3:1<=f;·rw[ax c3,ax aa]
   ·rw[au c3,au aa]
def Fr(w:Lo)(g:Nat)(r:R4):Prop:=g<w.heap.size/\w.cell? ⟨g,0,none⟩=some (.int .i64 r.1)/\w.cell? ⟨g,1,none⟩=some (.int .i64 r.2.1)/\w.cell? ⟨g,2,none⟩=some (.int .i64 r.2.2.1)/\w.cell? ⟨g,3,none⟩=some (.int .i64 r.2.2.2)
theorem Fr.below(h:Fr w g r)(hb:Below w.heap.size w w'):Fr w' g r:=
 ⟨db h.1 hb.size,(hb.cell (p:=⟨g,0,none⟩) h.1).trans h.2.1,(hb.cell (p:=⟨g,1,none⟩) h.1).trans h.2.2.1,(hb.cell (p:=⟨g,2,none⟩) h.1).trans h.2.2.2.1,(hb.cell (p:=⟨g,3,none⟩) h.1).trans h.2.2.2.2⟩
theorem Fr.at_(h:Fr w g r){i:Nat}(hi:i<4):w.cell? ⟨g,i,none⟩=some (.int .i64 (r4 r.1 r.2.1 r.2.2.1 r.2.2.2 i)):=by
 rcases(by omega:i=0\/i=1\/i=2\/i=3)with rfl|rfl|rfl|rfl;·exact h.2.1
 ·exact h.2.2.1
 ·exact h.2.2.2.1
 ·exact h.2.2.2.2
theorem abb(A:As)(D:An)(c:Nat)(dict nice:Int)(p tt:Nat)(r:R4)(gR cap:Nat)(w:Lo)(hB:Bytes w A D)(hc:D.length<=c)(hl:D.length<=100000)(hp:p<tt)(ht:tt<=D.length)(hr:Fr w gR r)(IU:4<=cap):
  Calls prog 160 #[.slice A D.length c,.int .i64 p,.int .i64 tt,.int .i64 dict,.int .i64 nice,.slice (some ⟨gR,0,none⟩) 4 cap] w (un (gV D dict nice tt p r) w):=by
 rw[<-OC (D:=D) (dict:=dict) (nice:=nice) (tt:=tt) (p:=p) (r:=r) aa];have⟨X,hX⟩:=ex ((tt:Int)-(p:Int):Int);rw[hX];have⟨W,hW⟩:=ex (w.alloc (.cells #[.int .i64 0,.int .u8 0,.int .i64 0,.int .i64 0,.int .i64 0] 183));have aY:W.heap[w.heap.size]? =some (.cells #[.int .i64 0,.int .u8 0,.int .i64 0,.int .i64 0,.int .i64 0] 183 (0,0)):=by rw[<-hW];exact heap_alloc_new _ _
 have bZ:aq w W:=by rw[<-hW];exact az
 have hrW:=hr.below bZ;have EH:=ae (fun(i:Nat) (hi:i<4)=>hrW.at_ hi);obtain⟨g,hg⟩: ∃g:Nat->Nat,(λi=>d7 D dict (p:Int) (r4 r.1 r.2.1 r.2.2.1 r.2.2.2 i) X)=g:=⟨_,rfl⟩
 have sA:Hid (∀(i:Nat) (m:Nat) (q:Int),q=r4 r.1 r.2.1 r.2.2.1 r.2.2.2 i->Calls prog 202 #[.slice A D.length c,.int .i64 dict,.int .i64 p,.int .i64 q,.int .i64 X] (W.drewN m) λe w'=>e= .returned (.int .i64 (g i:Nat))/\ ∃n,w'=(W.drewN m).drewN n):=ae (λi m q hq=>by
  rw[hq,<-hg];exact Ts A D c dict (p:Nat) _ X (W.drewN m) ((hB.below bZ).drewN m) hc hl)
 have ug:=ae (fun(m:Nat)=>Tr A D c dict nice p X (W.drewN m) ((hB.below bZ).drewN m) hc hl aa);have Dy:fh D dict (p:Int) X r.1 r.2.1 r.2.2.1 r.2.2.2=jl g 4 (0,0):=by rw[D7,<-hg];rfl
 rw[Dy];have zy:d7 D dict (p:Int) r.1 X=g 0:=by rw[<-hg];rfl
 rw[zy];obtain⟨⟨M1,M2⟩,hM⟩: ∃z,iQ D dict nice p X=z:=⟨_,rfl⟩
 rw[hM];simp only[hM]at ug;have⟨Z,hZ⟩:=ex (jl g 4 (0,0));rw[hZ];have hgs: ∀i,g i<=273:=λi=>by rw[<-hg];exact EC _ _ _ _ _
 have hMs:(M1:Int)<=100000/\(M2:Int)<=100000:=by
  have h:=kD (λk=>bG D p (p-k) (tj D p (min nice X))) (min (p:Int) dict).toNat;unfold iQ at hM;split at hM;·injection hM with h1 h2;omega
  ·rw[hM]at h;rcases h.at_ with⟨h1,h2⟩|⟨h1,h2,h3,h4⟩
   ·omega
   ·have h5:=jZ D p (p-M2) (tj D p (min nice X));have h6:tj D p (min nice X)=(min (min nice X) ((D.length:Int)-(p:Int))).toNat:=rfl;have h7:bG D p (p-M2) (tj D p (min nice X))=M1:=h3;constructor<;>omega
 obtain⟨aBN,aBO⟩:=hMs;have HG:=ae hgs;have HZ:=ae hZ;have HW:=ae hW;have cW:=ae bZ;have qi:=ae aY;have aws:4<=(cap:Int):=aa;obtain⟨b,off,rfl,IB,cZ⟩:=hB.addr aa;have Ae:W.cell? ⟨b,off+p,none⟩=some (.int .u8 ((D.getD p 0).toNat:Nat)):=by have h:=(bZ.cell (p:=⟨b,off+p,none⟩) IB).trans (cZ p aa);rw[dQ aa];exact h
 have⟨ch,Hl⟩:=ex (D.getD p 0);have mS:oneOf D p Z (M1,M2) (g 0)=(if 1<Z.1/\M1<=Z.1+1 then⟨2,0,Z.1,0,Z.2⟩else if 2<M1\/(M1=2/\M2<129)then⟨1,0,M1,M2,0⟩else if 0<g 0 then⟨2,0,1,0,0⟩else⟨0,ch,0,0,0⟩):=by unfold oneOf;rw[Hl]
 rw[Hl]at Ae;have⟨S,hS⟩:=ex (oneOf D p Z (M1,M2) (g 0));rw[hS];have HS:=ae (hS.symm.trans mS);have ud:(p:Int)<D.length:=aa;have VY:(p:Int)<=100000:=aa;have hpc:(p:Int)<c:=aa;have htd:(tt:Int)<=100000:=aa;have HPC:=ae Ae;have hXi:IntKind.i64.wrap ((tt:Int)-(p:Int))=X:=by rw[<-hX];exact em _ aa
 have Pi:(tt:Int)-(p:Int)=X:=hX;clear hW bZ hrW hr hB hg hM hZ hgs aY hc hl hp ht IU cZ Dy zy mS hS Hl hX Ae IB;go_enter func160,ntmps160;go_upto_region 1 with fail;rw[HW.out];go_wp2_with fail;go_loopw [14,15,16] (λs14 s15 s16 wr=> ∃(n:Nat) (z1 z2:Nat) (q:Int) (m:Nat),s14= .int .i64 z2/\s15= .int .i64 z1/\s16= .int .i64 q/\Hid (q=(n:Int)-1)/\n<=4/\z1<=273/\z2<=3/\Hid (Z=jl g n (z1,z2))/\wr=W.drewN m) (λ_ _ s16 _=>(intOf s16+1).toNat);·exact⟨4,0,0,3,0,rfl,rfl,rfl,ae rfl,aF _,ar,ar,ae HZ.symm,rfl⟩
 ·
  obtain⟨n,z1,z2,q,m,rfl,rfl,rfl,HQ,hn,kC,me,HL,rfl⟩:=hrel;have aBP:(z1:Int)<=273:=aa;have aBQ:(z2:Int)<=3:=aa;cases n with
  | zero=>
   have hq:q= -1:=(by rw[HQ.out];rfl);subst hq;have HZ2:Hid (Z=(z1,z2)):=ae HL.out;have c0:=EH.out 0 ar;have EY:=ae (λm'=>sA.out 0 m' _ rfl);have⟨r0,Lh⟩:=ex (r4 r.1 r.2.1 r.2.2.1 r.2.2.2 0);rw[Lh]at c0 EY;have⟨f0,hf0⟩:=ex (g 0);rw[hf0]at EY;have aBS:(f0:Int)<=273:=(by rw[<-hf0];have:=HG.out 0;omega);have iy:Hid (S=(if 1<z1/\M1<=z1+1 then⟨2,0,z1,0,z2⟩else if 2<M1\/(M1=2/\M2<129)then⟨1,0,M1,M2,0⟩else if 0<f0 then⟨2,0,1,0,0⟩else⟨0,ch,0,0,0⟩)):=ae (by rw[HS.out,HZ2.out,hf0]);have k0:W.cell? ⟨w.heap.size,0,none⟩=some (.int .i64 0):=vg;have k1:W.cell? ⟨w.heap.size,1,none⟩=some (.int .u8 0):=vg;have k2:W.cell? ⟨w.heap.size,2,none⟩=some (.int .i64 0):=vg;have k3:W.cell? ⟨w.heap.size,3,none⟩=some (.int .i64 0):=vg;have k4:W.cell? ⟨w.heap.size,4,none⟩=some (.int .i64 0):=vg;have fz0:=aS W _ 0 _ _ qi.out;have fz1:=aS W _ 1 _ _ qi.out;have fz2:=aS W _ 2 _ _ qi.out;have fz3:=aS W _ 3 _ _ qi.out;have fz4:=aS W _ 4 _ _ qi.out;have Ae:=HPC.out;have j5:Hid (∀(m5:Nat) (a0 a1 a2 a3 a4:Value),aq w ((((((W.drewN m5).setCell ⟨w.heap.size,0,none⟩ a0).setCell ⟨w.heap.size,1,none⟩ a1).setCell ⟨w.heap.size,2,none⟩ a2).setCell ⟨w.heap.size,3,none⟩ a3).setCell ⟨w.heap.size,4,none⟩ a4)):=ae (λm5 a0 a1 a2 a3 a4=>by
    have h:=below_drewN cW.out m5;exact((((h.setCell (p:=⟨w.heap.size,0,none⟩) (aF _) _).setCell (p:=⟨w.heap.size,1,none⟩) (aF _) _).setCell (p:=⟨w.heap.size,2,none⟩) (aF _) _).setCell (p:=⟨w.heap.size,3,none⟩) (aF _) _).setCell (p:=⟨w.heap.size,4,none⟩) (aF _) _)
   clear Lh hf0 hn kC me;have afO:(1<z1/\M1<=z1+1)\/(¬(1<z1/\M1<=z1+1)/\(2<M1\/(M1=2/\M2<129)))\/(¬(1<z1/\M1<=z1+1)/\ ¬(2<M1\/(M1=2/\M2<129))/\0<f0)\/(¬(1<z1/\M1<=z1+1)/\ ¬(2<M1\/(M1=2/\M2<129))/\ ¬0<f0):=aa;go_wp2_with fail;refine(EY m).mono ?_;rintro e wa ⟨rfl,ma,rfl⟩;go_wp2_with fail;refine(ug _).mono ?_;rintro e wb ⟨rfl,mb,rfl⟩;have⟨m5,yY⟩:=ex (m+ma+mb);simp only[World.drewN_drewN,yY];clear afO;have hA:(1<(z1:Int)/\(M1:Int)<=(z1:Int)+1)\/ ¬1<(z1:Int)\/(1<(z1:Int)/\ ¬(M1:Int)<=(z1:Int)+1):=aa;have hB:2<(M1:Int)\/(¬2<(M1:Int)/\(M1:Int)=2/\(M2:Int)<129)\/(¬2<(M1:Int)/\(M1:Int)=2/\ ¬(M2:Int)<129)\/(¬2<(M1:Int)/\(M1:Int)≠2):=aa;have hC:0<(f0:Int)\/ ¬0<(f0:Int):=aa;rcases hA with⟨a1,a2⟩|a1|⟨a1,a2⟩
   ·clear hB hC;have hSv:Hid (S=⟨2,0,z1,0,z2⟩):=ae (by rw[iy.out];exact ax aa);clear iy;go_wp2_with fail;refine bA (v:=mq 2 0 (z1:Nat) 0 (z2:Nat)) ng rfl ⟨nh,j5.out m5 _ _ _ _ _⟩
   ·rcases hB with b1|⟨b1,b2,b3⟩|⟨b1,b2,b3⟩|⟨b1,b2⟩
    ·clear hC;have hSv:Hid (S=⟨1,0,M1,M2,0⟩):=ae (by rw[iy.out];rw[au aa];exact ax aa);clear iy;go_wp2_with fail;refine bA (v:=mq 1 0 (M1:Nat) (M2:Nat) 0) ng rfl ⟨nh,j5.out m5 _ _ _ _ _⟩
    ·have e2:((M1:Int)==2)=true:=(by rw[beq_iff_eq];exact b2);have dG:=ae b2;clear hC b2;have hSv:Hid (S=⟨1,0,M1,M2,0⟩):=ae (by rw[iy.out];have b2:=dG.out;rw[au aa];exact ax aa);clear iy;go_wp2_with fail;refine bA (v:=mq 1 0 (M1:Nat) (M2:Nat) 0) ng rfl ⟨nh,j5.out m5 _ _ _ _ _⟩
    ·have e2:((M1:Int)==2)=true:=(by rw[beq_iff_eq];exact b2);have dG:=ae b2;clear b2;rcases hC with c1|c1;·skip;have hSv:Hid (S=⟨2,0,1,0,0⟩):=ae (by rw[iy.out];have b2:=dG.out;rw[au aa,au aa];exact ax aa);clear iy;go_wp2_with fail;refine bA (v:=mq 2 0 1 0 0) ng rfl ⟨nh,j5.out m5 _ _ _ _ _⟩
     ·skip;have hSv:Hid (S=⟨0,ch,0,0,0⟩):=ae (by rw[iy.out];have b2:=dG.out;rw[au aa,au aa];exact au aa);clear iy;go_wp2_with fail;refine bA (v:=mq 0 ch 0 0 0) ng rfl ⟨nh,j5.out m5 _ _ _ _ _⟩
    ·have e2:((M1:Int)==2)=false:=(by rw[gQ];exact b2);have dG:=ae b2;clear b2;rcases hC with c1|c1;·skip;have hSv:Hid (S=⟨2,0,1,0,0⟩):=ae (by rw[iy.out];have b2:=dG.out;rw[au aa,au aa];exact ax aa);clear iy;go_wp2_with fail;refine bA (v:=mq 2 0 1 0 0) ng rfl ⟨nh,j5.out m5 _ _ _ _ _⟩
     ·skip;have hSv:Hid (S=⟨0,ch,0,0,0⟩):=ae (by rw[iy.out];have b2:=dG.out;rw[au aa,au aa];exact au aa);clear iy;go_wp2_with fail;refine bA (v:=mq 0 ch 0 0 0) ng rfl ⟨nh,j5.out m5 _ _ _ _ _⟩
   ·have b1:2<(M1:Int):=(by omega);clear hB hC;have hSv:Hid (S=⟨1,0,M1,M2,0⟩):=ae (by rw[iy.out];rw[au aa];exact ax aa);clear iy;go_wp2_with fail;refine bA (v:=mq 1 0 (M1:Nat) (M2:Nat) 0) ng rfl ⟨nh,j5.out m5 _ _ _ _ _⟩
  | succ n=>
   obtain⟨i,rfl⟩: ∃i:Nat,q=(i:Int):=⟨n,by rw[HQ.out];omega⟩
   have TE:i=n:=av HQ.out;subst TE;have Vs:(i:Int)<=3:=aa;have ci:=EH.out i aa;have⟨ri,hri⟩:=ex (r4 r.1 r.2.1 r.2.2.1 r.2.2.2 i);have zF:=ae (λm'=>sA.out i m' ri hri.symm);rw[hri]at ci;have⟨gi,hgi⟩:=ex (g i);rw[hgi]at zF;have kg:gi<=273:=(by rw[<-hgi];exact HG i);have aBT:(gi:Int)<=273:=aa;have ue:Hid (Z=jl g i (if z1<=gi then(gi,i)else(z1,z2))):=ae (by rw[HL.out];show jl g i (if z1<=g i then(g i,i)else(z1,z2))=_;rw[hgi]);have xg:=ae (ap hn (ap kC (ap me kg)));clear hri hgi hn kC me kg;go_wp2_with fail;refine(zF m).mono ?_;rintro e wa ⟨rfl,ma,rfl⟩;rw[World.drewN_drewN];by_cases Dk:z1<=gi
   ·have as8:(z1:Int)<=gi:=(by omega);have Zg:Hid (Z=jl g i (gi,i)):=ae (by rw[ue.out,ax Dk]);clear Dk;go_wp2_with fail;go_roundw;case rel=>exact⟨i,gi,i,(i:Int)-1,_,rfl,rfl,rfl,ae rfl,av xg.out,xg.2.2.2,av xg.out,Zg,rfl⟩
    case measure=>simp[intOf]
   ·have as8: ¬(z1:Int)<=gi:=(by omega);have Zg:Hid (Z=jl g i (z1,z2)):=ae (by rw[ue.out,au Dk]);clear Dk;go_wp2_with fail;go_roundw;case rel=>exact⟨i,z1,z2,(i:Int)-1,_,rfl,rfl,rfl,ae rfl,av xg.out,xg.2.1,xg.2.2.1,Zg,rfl⟩
    case measure=>simp[intOf]
theorem KV(C base:Nat)(lc lp pb st:Int)(r:R4)(P:List Nat)(vR vP:Value)(s:Sy)(w:Lo)(hC:dj w C base lc lp pb st r P vR vP)(aX:base<=w.heap.size)(h0:0<=st)(h1:st<=11)(hk:s.k<=2)(hr:s.r<=3):
  Calls prog 161 #[PF C,s.val] w (vJ C base lc lp pb (aT st (s.k:Nat) (s.l:Nat)) (eD s r) P vP w):=by
 rw[<-lz s hk r];obtain⟨k,b,l,d,q⟩:=s;simp only at hk hr;rcases(by omega:k=0\/k=1\/k=2)with rfl|rfl|rfl;·exact Jj C base lc lp pb st r P vR vP b _ _ _ w hC h0 h1
 ·exact DR C base lc lp pb st r P vR vP b _ _ _ w hC aX
 ·exact Jl C base lc lp pb st r P vR vP b _ _ q w hC aX hr
theorem tW{st k l:Int}(h0:0<=st)(h1:st<=11):0<=aT st k l/\aT st k l<=11:=by
 unfold aT;split
 ·split;·omega
  ·split<;>omega
 ·split;·split<;>omega
  ·split;·omega
   ·split<;>omega
theorem Dc(h:V1 D dict p r s):(s.k=0->s.l=0)/\(s.k≠0->1<=s.l):=by
 refine⟨λe=> ?_,λe=> ?_⟩;·have hp:=h.plain;unfold Gg at hp;rw[ax aa]at hp;have e:=aR (λv:Value=>match v with|.agg a=>a[2]?|_=>none) hp;have e2:some (Value.int .i64 0)=some (Value.int .i64 (s.l:Int)):=e;injection e2 with e2;injection e2 with _ e2;omega
 ·have hf:=h.fits;unfold kt at hf;by_cases k1:(s.k:Int)=1;·rw[ax k1]at hf;have:=of_decide_eq_true hf;omega
  ·rw[au k1]at hf;by_cases k2:(s.k:Int)=2;·rw[ax k2]at hf;have:=of_decide_eq_true hf;omega
   ·rw[au k2]at hf;have:=of_decide_eq_true hf;omega
theorem aZ.afP{l:List Value}(h:aZ t base w v l)(hg:v.ownBlock=some g): ∃cs x,w.heap[g]? =some (.cells cs t x):=by
 rcases h with⟨_,⟨rfl,_⟩|⟨g',bW,cur,rfl,_,h4,_⟩⟩
 ·cases hg
 ·have e:g'=g:=by simpa [Value.ownBlock]using hg
  subst e;exact⟨_,_,h4⟩
theorem f8.ne{W:Lo}(h:f8 base W v l){j:Nat}{cs:Array Value}{x:Nat×Nat}(hj:W.heap[j]? =some (.cells cs t x))(ht:t≠183):v.ownBlock≠some j:=by
 intro he;rcases h with⟨_,⟨rfl,_⟩|⟨g',bW,cur,rfl,_,h4,_⟩⟩
 ·cases he
 ·have e:g'=j:=by simpa [Value.ownBlock]using he
  subst e;rw[h4]at hj;injection hj with hj;injection hj with _ e2 _;exact ht e2.symm
def Fs(L:List Sy)(w:Lo)(e:Ending)(w':Lo):Prop:= ∃v C,e= .returned (.tuple #[v,PF C])/\f8 w.heap.size w' v L/\Below w.heap.size w w'
structure RsI(w wr:Lo)(base:Nat)(r:R4)(st:Int)(vR v:Value)(L:List Sy):Prop where
 Lm:dj wr w.heap.size base 0 0 0 st r [] vR (.slice none 0 0)
 Ec:0<=st
 yO:st<=11
 below:Below w.heap.size w wr
 own:f8 (w.heap.size+1) wr v L
theorem Tt(A:As)(D:An)(c:Nat)(dict nice:Int)(a tt:Nat)(r:R4)(vR:Value)(base:Nat)(w:Lo)(hB:Bytes w A D)(hc:D.length<=c)(hl:D.length<=100000)(cZ:a<=tt)(ht:tt<=D.length)(hd:1<=dict)(hn:nice<=273)(hR:aZ 3 base w vR (Zh r))(aX:base<=w.heap.size):
  Calls prog 123 #[.slice A D.length c,.int .i64 a,.int .i64 tt,.int .i64 dict,.int .i64 nice,vR] w (Fs (bX D dict nice tt (tt-a) a r).1 w):=by
 have⟨LS,Ml⟩:=ex ((bX D dict nice tt (tt-a) a r).1);rw[Ml];obtain⟨gR,cR,eR,_,_⟩:=hR.bT (show 0<4 by decide);rw[show(Zh r).length=4 from rfl]at eR;subst eR;have⟨W,hW⟩:=ex (w.alloc (.cells #[.int .i64 0,.int .i64 0,.int .i64 0,.int .i64 0,.slice (some ⟨gR,0,none⟩) 4 cR,.slice none 0 0] 175));have bZ:aq w W:=by rw[<-hW];exact az
 have hI:RsI w W base r 0 (.slice (some ⟨gR,0,none⟩) 4 cR) (.slice none 0 0) []:=⟨⟨by rw[<-hW];exact heap_alloc_new _ _,hR.below bZ,aZ.nil _ _ _⟩,ar,ar,bZ,f8.nil _ _⟩
 have ue:=ae Ml;have HW:=ae hW;have HI:=ae hI;have gx:=ae (ap hB (ap hc hl));have HD:=ae (ap cZ (ap ht (ap hd hn)));have DK:=ae aX;have Jt:(D.length:Int)<=100000:=aa;have hti:(tt:Int)<=D.length:=aa;clear Ml hW bZ hI hB hc hl cZ ht hd hn hR aX;go_enter func123,ntmps123;go_upto_region 2 with fail;rw[HW.out];go_wp2_with fail;go_loopw [15,16] (λs15 s16 wr=> ∃(pl:Nat) (st:Int) (r':R4) (L:List Sy) (v xh:Value),s15=v/\s16= .int .i64 pl/\Hid (RsI w wr base r' st xh v L)/\Hid (LS=L++(bX D dict nice tt (tt-pl) pl r').1)/\pl<=tt/\L.length<=pl) (λ_ s16 _=>tt-(intOf s16).toNat);·exact⟨a,0,r,[],_,_,rfl,rfl,HI,ae (by rw[fL];exact ue.symm),HD.1,cI _⟩
 ·
  obtain⟨pl,st,r',L,v,xh,rfl,rfl,HR,HL,xe,hLl⟩:=hrel;have aBU:(pl:Int)<=100000:=av HD.out;by_cases aV:pl<tt;case neg=>have Jr: ¬(pl:Int)<tt:=aa;have HE:Hid (LS=L):=ae (by rw[HL.out,pw aV,iV]);clear aV;go_wp2;go_ret2;rw[HE.out];exact⟨_,_,rfl,HR.own.weaken (Nat.le_succ _),HR.below⟩
  case pos=>
   have Jr:(pl:Int)<tt:=aa;have⟨S,hS⟩:=ex (gV D dict nice tt pl r');have da:=mD (D:=D) (dict:=dict) (nice:=nice) (r:=r') aV HD.2.1 gx.2.2 HD.2.2.1 HD.2.2.2;have MV:=Gu (D:=D) (dict:=dict) (nice:=nice) (r:=r') aV;have rH:=jG (D:=D) (dict:=dict) (nice:=nice) (r:=r') aV;rw[hS]at da MV rH;obtain⟨c3,c4,c5,cf,g',bW,eV,jM,_,d0,d1,d2,d3,_,tB⟩:=HR.Lm.cells;subst eV;have S':=ae (abb A D c dict nice pl tt r' g' bW wr (gx.1.below HR.below) gx.2.1 gx.2.2 aV HD.2.1 ⟨tB,d0,d1,d2,d3⟩ jM);rw[hS]at S';obtain⟨sl1,sl2⟩:=Dc da;have qp:S.k<=2:=da.k;have p_:S.r<=3:=da.q;have n9:(S.l:Int)<=273:=av da.short;have Zg:Hid (LS=(L++[S])++(bX D dict nice tt (tt-(pl+max S.l 1)) (pl+max S.l 1) (eD S r')).1):=ae (by rw[HL.out,rH];simp);have HT:=ae (ap aV (ap MV (ap sl1 (ap sl2 (ap qp p_)))));have vk:=ae hLl;clear hS da MV rH aV d0 d1 d2 d3 tB sl1 sl2 qp p_ jM c3 c5 cf hLl;go_wp2_with fail;refine S'.mono ?_;rintro e w1 ⟨rfl,aI⟩;have bF:=ae aI;have⟨W2,gH⟩:=ex (w1.alloc (.cells #[.int .i64 S.k,.int .u8 S.b.toNat,.int .i64 S.l,.int .i64 S.d,.int .i64 S.r] 183));have kp:W2.heap[w1.heap.size]? =some (.cells (cY [S]).toArray 183 (0,0)):=xv;have aK:aq wr W2:=(by rw[<-gH];exact aI.alloc aI.size _);have rf:=ae gH;have JA:=ae kp;have dG:=ae aK;have ata:=ae (KV w.heap.size base 0 0 0 st r' [] _ _ S W2 (HR.Lm.below aK) (a8 DK.out (a8 HR.below.size aK.size)) HR.Ec HR.yO HT.2.2.2.2.1 HT.2.2.2.2.2);have y0:W2.cell? ⟨w1.heap.size,0,none⟩=some (.int .i64 S.k):=mo;have y1:W2.cell? ⟨w1.heap.size,1,none⟩=some (.int .u8 S.b.toNat):=mo;have y2:W2.cell? ⟨w1.heap.size,2,none⟩=some (.int .i64 S.l):=mo;have y3:W2.cell? ⟨w1.heap.size,3,none⟩=some (.int .i64 S.d):=mo;have y4:W2.cell? ⟨w1.heap.size,4,none⟩=some (.int .i64 S.r):=mo;clear gH kp aK aI c4;go_upto_region 6 with fail;rw[rf.out];go_wp2_with fail;refine ata.mono ?_;rintro e w3 ⟨vR3,rfl,zA,kg⟩;have Jc:=ae zA;have al2:w1.heap.size<W2.heap.size:=(bU JA.out)
   have ub:wr.heap.size<=w1.heap.size:=bF.size;have hCw:w.heap.size<wr.heap.size:=(bU HR.Lm.box)
   have kr:w3.heap[w1.heap.size]? =some (.cells (cY [S]).toArray 183 (0,0)):=(kg.block w1.heap.size al2 (λe=>xu)).trans JA.out;have bJ:f8 (w.heap.size+1) w3 u15 L:=(HR.own.below dG.out).aU (λg hg=>kg.block g (db (HR.own.lt g hg).2 dG.size) (λe=>by injection e with e;have:=(HR.own.lt g hg).1;omega));have bm:aq w w3:=(by have h2:=aQ HR.below dG.out;exact h2.grown kg h2.size (λk e=>by cases e;exact aF _));have⟨W4,lP⟩:=ex (w3.alloc (.cells #[.int .i64 S.k,.int .u8 S.b.toNat,.int .i64 S.l,.int .i64 S.d,.int .i64 S.r] 183));have qO:W4.heap[w3.heap.size]? =some (.cells (cY [S]).toArray 183 (0,0)):=(by rw[<-lP];exact bz _ _);have zH:aq w3 W4:=(by rw[<-lP];exact az);have z0:w3.cell? ⟨w1.heap.size,0,none⟩=some (.int .i64 S.k):=vh;have z1:w3.cell? ⟨w1.heap.size,1,none⟩=some (.int .u8 S.b.toNat):=vh;have z2:w3.cell? ⟨w1.heap.size,2,none⟩=some (.int .i64 S.l):=vh;have z3:w3.cell? ⟨w1.heap.size,3,none⟩=some (.int .i64 S.d):=vh;have z4:w3.cell? ⟨w1.heap.size,4,none⟩=some (.int .i64 S.r):=vh;have Mj:=ae lP;have PK:=ae qO;have YH:Hid (W4.heap[w1.heap.size]? =some (.cells (cY [S]).toArray 183 (0,0))):=ae ((zH.block _ (bU kr)).trans kr);have OB:=ae (bJ.below zH);have fJ:=ae (aQ bm zH);have Tu:=ae (zA.below zH);have HLM:Hid (L.length<=1000000):=ae (by have:=vk.out;have:=HD.2.1;have:=gx.2.2;omega);have Ie:Hid (w.heap.size+1<=W4.heap.size/\w.heap.size<W4.heap.size):=ae (by have:=zH.size;have:=(bU kr);omega);clear lP qO zH kr bJ bm zA kg y0 y1 y2 y3 y4 al2 ub hCw;go_upto_region 8 with(at_builtin;rw[Mj.out];refine oc rfl (.tmp 38) (.tmp 40) rfl (w.heap.size+1) W4 u15 L rfl OB.out w3.heap.size 1 S rfl PK.out HLM.out Ie.1 ?_;intro v5 w5 gU ig;have Bq:=ae gU;have HG5:=ae ig;have vb:=(ig.block w1.heap.size (bU YH.out) (λe=>by have h1:=(HR.own.lt w1.heap.size e.symm).2;have h2:=bF.size;omega)).trans YH.out;have u0:w5.cell? ⟨w1.heap.size,0,none⟩=some (.int .i64 S.k):=LG;have u2:w5.cell? ⟨w1.heap.size,2,none⟩=some (.int .i64 S.l):=LG;clear gU ig vb)
   have T0:Hid (RsI w w5 base (eD S r') (aT st (S.k:Nat) (S.l:Nat)) vR3 v5 (L++[S])):=ae (by
    have hg:=HG5.out;have hso:=tW (k:=(S.k:Nat)) (l:=(S.l:Nat)) HR.Ec HR.yO;refine⟨⟨(hg.block w.heap.size Ie.2 (λe=>by have:=(OB.lt w.heap.size e.symm).1;omega)).trans Tu.box,Tu.gX.grown hg (λg h1 h2=> ?_),aZ.nil _ _ _⟩,hso.1,hso.2,am fJ.out hg fJ.size (λg e=>a8 (Nat.le_succ _) (OB.lt g e).1),Bq.out⟩;obtain⟨cs,x,hc⟩:=Tu.gX.afP h1;exact OB.ne hc ar h2)
   by_cases hk:S.k=0;·have xO:((S.k:Int)==0)=true:=(by rw[beq_iff_eq];omega);have HE:Hid (pl+max S.l 1=pl+1/\S.l=0):=ae (av (HT.2.2.1 hk));clear hk;go_wp2_with fail;exact⟨⟨pl+max S.l 1,_,_,L++[S],v5,vR3,rfl,zY,T0,Zg,HT.2.1,O4⟩,by have:=HE.out;have:=HT.1;simp[intOf];omega⟩
   ·have xO:((S.k:Int)==0)=false:=(by rw[gQ];omega);have HE:Hid (pl+max S.l 1=pl+S.l/\1<=S.l):=ae (av (HT.2.2.2.1 hk));clear hk;go_wp2_with fail;exact⟨⟨pl+max S.l 1,_,_,L++[S],v5,vR3,rfl,zY,T0,Zg,HT.2.1,O4⟩,by have:=HE.out;have:=HT.1;simp[intOf];omega⟩
theorem zi(h:fp r){k d q:Nat}(hd:d<=4294967296)(Dl:k=1->1<=d):fp (dM r (k:Nat) (d:Nat) (q:Nat)):=by
 obtain⟨⟨a1,a2,a3,a4⟩,b1,b2,b3,b4⟩:=h;unfold dM;split;·exact⟨⟨a1,a2,a3,a4⟩,b1,b2,b3,b4⟩
 ·split;·exact⟨⟨by have:=Dl aa;show(1:Int)<=(d:Int);omega,a1,a2,a3⟩,by show(d:Int)<=4294967296;omega,b1,b2,b3⟩
  ·split;·exact⟨⟨a1,a2,a3,a4⟩,b1,b2,b3,b4⟩
   ·split;·exact⟨⟨a2,a1,a3,a4⟩,b2,b1,b3,b4⟩
    ·split;·exact⟨⟨a3,a1,a2,a4⟩,b3,b1,b2,b4⟩
     ·exact⟨⟨a4,a1,a2,a3⟩,b4,b1,b2,b3⟩
end Go.Proofs.YtfcaoggfnkhfiaaGreatDoor
