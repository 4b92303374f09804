import Derived.Test.YtfcaoggfnkhfiaaGreatDoorZ11
import Derived.Deep.RegionHeld3
namespace Go.Proofs.YtfcaoggfnkhfiaaGreatDoor
set_option maxRecDepth 100000
set_option maxHeartbeats 8000000
open Go.RowKit Go.Proofs.Tryz
variable{bh told:Bool}{lc lp pb st:Int}{Y:List Nat}{L:An}{C N a base c h:Nat}{P:Nat->Nat}{z:Nat×R4×(Nat->Nat)}{r:R4}{v:Value}{w w' w2 wr:Lo}
structure D9(w:Lo)(C base N:Nat)(lc lp pb st:Int)(r:R4)(P:Nat->Nat)(Y:List Nat):Prop where
 ex: ∃(Pl:List Nat) (vR:Value) (gR gP fF:Nat),dj w C base lc lp pb st r Pl vR (.slice (some ⟨gP,0,none⟩) N fF)/\vR.ownBlock=some gR/\Pl.length=N/\(∀i,i<N->Pl[i]? =some (P i))/\Y=[C,gR,gP]
 fair: ∀i,1<=P i/\P i<=2047
theorem D9.below(h:D9 w C base N lc lp pb st r P Y)(hb:Below w.heap.size w w'):D9 w' C base N lc lp pb st r P Y:=by obtain⟨Pl,vR,gR,gP,fF,h1,h2⟩:=h.ex;exact⟨⟨Pl,vR,gR,gP,fF,h1.below hb,h2⟩,h.fair⟩
theorem D9.lt{w:Lo}{C base N:Nat}{lc lp pb st:Int}{r:R4}{P:Nat->Nat}{Y:List Nat}(h:D9 w C base N lc lp pb st r P Y): ∀i∈Y,i<w.heap.size:=by
 obtain⟨Pl,vR,gR,gP,fF,h1,h2,h3,h4,rfl⟩:=h.ex;intro i hi;simp only[dc,fM,or_false]at hi;rcases hi with rfl|rfl|rfl;·exact(bU h1.box)
 ·exact(h1.gX.lt _ h2).2
 ·exact(h1.ps.lt _ rfl).2
theorem D9.re{o cap:Nat}{s:Rc.St}(hC:D9 w C base N lc lp pb st r P Y)(hE:jd w h o cap s):RE w C base h N lc lp pb st r (P,s) (Y++[h,o]):=by obtain⟨Pl,vR,gR,gP,fF,h1,h2,h3,h4,rfl⟩:=hC.ex;exact⟨⟨Pl,vR,gR,gP,fF,o,cap,h1,h2,hE,h3,h4,rfl⟩,hC.fair⟩
theorem RE.co{x:(Nat->Nat)×Rc.St}(hM:RE w C base h N lc lp pb st r x Y): ∃Y0 o cap,D9 w C base N lc lp pb st r x.1 Y0/\jd w h o cap x.2/\Y=Y0++[h,o]:=by obtain⟨Pl,vR,gR,gP,fF,o,cap,h1,h2,h3,h4,h5,rfl⟩:=hM.ex;exact⟨[C,gR,gP],o,cap,⟨⟨Pl,vR,gR,gP,fF,h1,h2,h4,h5,rfl⟩,hM.fair⟩,h3,rfl⟩
structure TrI(k:ip)(C base h N:Nat)(Y0:List Nat)(w8 wr:Lo)(st:Nat)(r:R4)(x:im)(n:Nat):Prop where
 re: ∃Y,RE wr C base h N (k.lc:Nat) (k.lp:Nat) (k.pb:Nat) (st:Nat) r x Y/\ ∀i∈Y,i∈Y0\/w8.heap.size<=i
 only:aM Y0 w8 wr
 st:st<12
 ur:fp r
 ok:(ao 0).ok x.2 n
def OE(w:Lo)(k:ip)(C base N:Nat)(Y:List Nat)(res:List UInt8×(Nat×R4×(Nat->Nat)))(e:Ending)(w':Lo):Prop:=
 ∃v Y',e= .returned v/\Own w.heap.size w' v res.1/\D9 w' C base N (k.lc:Nat) (k.lp:Nat) (k.pb:Nat) (res.2.1:Nat) res.2.2.1 res.2.2.2 Y'/\res.2.1<12/\fp res.2.2.1/\aM Y w w'/\(∀i∈Y',i∈Y\/w.heap.size<=i)/\5<=res.1.length/\res.1.length+100<=140737488355328
theorem OG(k:ip)(C base N:Nat)(yO:Nat)(r1:R4)(P1:Nat->Nat)(Y:List Nat)(a b:Nat)(w:Lo)(hB:Bytes w k.A k.D)(hbY: ∀q,k.A=some q->q.block ∉ Y/\q.block<w.heap.size)(hc:k.D.length<=k.cD)(hl:k.D.length<=100000)(hd:1<=k.dict/\k.dict<=67108864)(hn:k.nice<=273)(lj:k.lc<=4)(Dn:k.lp<=4)(DG:k.pb<=4)
  (hC:D9 w C base N (k.lc:Nat) (k.lp:Nat) (k.pb:Nat) (yO:Nat) r1 P1 Y) (da:yO<12) (oV:fp r1) (hN:N=2180+768*2^(k.lc+k.lp)) (uV:N<=1000000) (aX:base<=w.heap.size) (Ln:a<b) (eX:b<=k.D.length):
  Calls prog 84 #[.slice k.A k.D.length k.cD,.int .i64 a,.int .i64 b,BK (k.lc:Nat) (k.lp:Nat) (k.pb:Nat) k.nice k.chunk k.block k.check k.chain k.dict,PF C] w (OE w k C base N Y (iT k a b (yO,r1,P1))):=by
 have⟨W,hW⟩:=ex (w.alloc (.cells #[.int .i64 k.lc,.int .i64 k.lp,.int .i64 k.pb,.int .i64 k.nice,.int .i64 k.chunk,.int .i64 k.block,.int .i64 k.check,k.chain,.int .u32 k.dict] 26));obtain⟨aY,bZ⟩:=dI (vs:=eL (k.lc:Nat) (k.lp:Nat) (k.pb:Nat) k.nice k.chunk k.block k.check k.chain k.dict) hW;have hCW:=hC.below bZ;obtain⟨Pl,vR,gR,gP,fF,Hx,sJ,_⟩:=hC.ex;have afQ:=Hx.below bZ;have xl:Hid (∀w',aq W w'->w'.cell? ⟨w.heap.size,8,none⟩=some (.int .u32 k.dict)/\w'.cell? ⟨w.heap.size,3,none⟩=some (.int .i64 k.nice)/\w'.cell? ⟨C,4,none⟩=some vR):=ae (λw' hb=>by
  have hr:=(hb.block _ (bU aY)).trans aY;exact⟨by rw[aC w' _ _ _ _ _ hr];rfl,by rw[aC w' _ _ _ _ _ hr];rfl,(afQ.below hb).cells.2.1⟩)
 have Ry:Hid (∀w',aq W w'->Calls prog 123 #[.slice k.A k.D.length k.cD,.int .i64 a,.int .i64 b,.int .i64 k.dict,.int .i64 k.nice,vR] w' (Fs (bX k.D (k.dict:Nat) k.nice b (b-a) a r1).1 w')):=ae (λw' hb=>by
  have yE:=aQ bZ hb;exact Tt k.A k.D k.cD (k.dict:Nat) k.nice a b r1 vR base w' (hB.below yE) hc hl (Nat.le_of_lt Ln) eX aa hn (afQ.below hb).gX (a8 aX yE.size))
 have⟨LS,Ml⟩:=ex (rA k a b r1);rw[show(bX k.D (k.dict:Nat) k.nice b (b-a) a r1).1=LS from Ml]at Ry;have ue:=ae Ml;have HW:=ae hW;have cW:=ae bZ;have HC:=ae hCW;have HYL:=ae hC.lt;have gx:=ae (ap hB (ap hbY (ap hc hl)));have HP:=ae (ap lj (ap Dn (ap DG (ap hN (ap uV aX)))));have HD:=ae (ap Ln (ap eX (ap hd hn)));have HS:=ae (ap da oV);have Jt:(k.dict:Int)<=67108864:=aa;have aBW:IntKind.i64.wrap (k.dict:Int)=k.dict:=em _ aa;have Kg:(k.D.length:Int)<=100000:=aa;clear aY hW bZ hCW hC Hx afQ sJ Ml hB hbY hc hl hd hn lj Dn DG da oV hN uV aX Ln eX;go_enter func84,ntmps84;go_upto_region 1 with fail;rw[HW.out];have bu:aq W W.drew:=⟨rfl,rfl,rfl,aF _,λ_ _=>rfl⟩
 refine wp_region_held_drew (S:=λw'=>aq W w') ak bu (λhS=> ?_);refine ag 0 hS (h:=ag 1 hS (h:=ag 2 hS (h:=ag 3 hS (h:=cC 4 xl.out hS (h:=ag 5 hS (h:=ag 6 hS (h:=cC 7 xl.out hS (h:=ag 8 hS (h:=ag 9 hS (h:=ag 10 hS (h:=cC 11 xl.out hS (h:= ?_))))))))))));refine aO 12 (λK hK=> ?_);go_simp;refine(Ry _ bu).mono ?_;rintro e X_ ⟨v12,C12,rfl,Bw,Sp⟩;have g12:=aQ bu Sp;have OH:=ae g12;have YZ:=ae (Bw.weaken bu.size);clear Sp Bw;go_wp2_with fail;refine hK _ _ g12 (λ_=> ?_);clear hK K;refine ag 13 g12 (h:=ag 14 g12 (h:=ag 15 g12 (h:=ag 16 g12 (h:=ag 17 g12 (h:= ?_)))));refine wpAnyH_done ak ?_ _;obtain⟨AL,cL,e10,hcL,hmL,cZ⟩:=YZ.form;subst e10;have aet:0<LS.length:=by rw[<-ue.out];unfold rA;rw[jG HD.1];simp
 obtain⟨gS,hAL,hgS,_,_,_,_,_⟩:=cZ 0 aet;subst hAL;have WB:W.heap.size<=gS:=(YZ.lt gS rfl).1;have TD:Hid (∀n (hn:n<LS.length) (w':Lo),w'.heap[gS]? =X_.heap[gS]? ->w'.cell? ⟨gS,5*n,none⟩=some (.int .i64 (LS[n].k:Nat))/\w'.cell? ⟨gS,5*n+1,none⟩=some (.int .u8 (LS[n].b.toNat:Nat))/\w'.cell? ⟨gS,5*n+2,none⟩=some (.int .i64 (LS[n].l:Nat))/\w'.cell? ⟨gS,5*n+3,none⟩=some (.int .i64 (LS[n].d:Nat))/\w'.cell? ⟨gS,5*n+4,none⟩=some (.int .i64 (LS[n].r:Nat))):=ae (λn hn w' hW=>by
  obtain⟨g',e',_,c0,c1,c2,c3,c4⟩:=cZ n hn;injection e' with e';injection e' with e' _ _;subst e';exact⟨(f5 (a:=⟨gS,_,none⟩) hW).trans c0,(f5 (a:=⟨gS,_,none⟩) hW).trans c1,(f5 (a:=⟨gS,_,none⟩) hW).trans c2,(f5 (a:=⟨gS,_,none⟩) hW).trans c3,(f5 (a:=⟨gS,_,none⟩) hW).trans c4⟩)
 have Zu:Hid (W.heap.size<=gS/\gS<X_.heap.size):=ae ⟨WB,hgS⟩;have ard:(LS.length:Int)<=cL:=aa;have arf:(LS.length:Int)<=9223372036854775807:=aa;clear hS g12 bu hcL hmL cZ hgS WB;go_upto_region 4 with(refine(Wh _).mono ?_;rintro e w8 ⟨h,oE,aki,rfl,hE8,rG,hh8,qA⟩;have HE8:=ae hE8;have qB:=ae rG;have TW:=ae (ap hh8 qA);clear hE8 rG hh8 qA)
 have HI8:Hid (TrI k C base h N (Y++[h,oE]) w8 w8 yO r1 (P1,Ec) (82*(b-a)+100)):=ae ⟨⟨_,(HC.below (aQ OH.out qB.out)).re HE8.out,λi hi=> .inl hi⟩,aM.refl _ _,HS.1,HS.2,⟨Um,by have:=HD.out;have:=gx.2.2.2;show 1+0+2*_<=_;omega⟩⟩;go_wp2_with fail;go_loopw [14,15] (λpv iv wr=> ∃(i pl st:Nat) (r:R4) (x:im),pv= .int .i64 pl/\iv= .int .i64 (i:Nat)/\Hid (TrI k C base h N (Y++[h,oE]) w8 wr st r x (82*(b-pl)+100))/\Hid (LS.drop i=(bX k.D (k.dict:Nat) k.nice b (b-pl) pl r).1/\gO k.lc k.lp k.pb k.D LS a (yO,r1,(P1,Ec))=gO k.lc k.lp k.pb k.D (LS.drop i) pl (st,r,x))/\i<=LS.length/\pl<=b) (λ_ iv _=>LS.length-(intOf iv).toNat);·exact⟨0,a,yO,r1,(P1,Ec),rfl,rfl,HI8,ae ⟨by rw[<-ue.out];rfl,rfl⟩,cI _,Nat.le_of_lt HD.1⟩
 ·
  obtain⟨i,pl,st,r,x,rfl,rfl,HI,HL,hi,aeu⟩:=hrel;by_cases aV:i<LS.length;case neg=>
   have Jr: ¬(i:Int)<LS.length:=aa;have WD:LS.drop i=[]:=pT aa;have TX:Hid (gO k.lc k.lp k.pb k.D LS a (yO,r1,(P1,Ec))=(st,r,x)):=ae (by rw[HL.2,WD];rfl);obtain⟨Y1,hRE,Dr⟩:=HI.re;obtain⟨Y2,oF,atd,hco,hRA,rfl⟩:=hRE.co;have HKE:Hid (x.2.v<256^(4+x.2.k)/\4+x.2.k+1<=140737488355328/\105+x.2.k<=140737488355328):=ae (by
    obtain⟨⟨⟨h1,h2⟩,h3⟩,h4⟩:=HI.ok;refine⟨?_,aa,aa⟩;have:x.2.v+x.2.r<=256^(4+x.2.k):=h1;omega)
   have ate:=ae (OD h oF atd x.2 wr hRA HKE.1 HKE.2.1);have Qf:=ae hco;have U6:=ae Dr;clear aV WD hRE Dr hco hRA hi;go_wp2_with fail;refine ate.mono ?_;rintro e w9 ⟨v9,rfl,Dt,Du⟩;go_wp2;go_ret;have Ed:iT k a b (yO,r1,P1)=(Rc.be (5+x.2.k) x.2.v,(st,r,x.1)):=(by unfold iT;rw[ue.out];show(Rc.be (5+(gO k.lc k.lp k.pb k.D LS a (yO,r1,(P1,Ec))).2.2.2.k) _,_)=_;rw[TX.out]);rw[Ed];have OI:aq w w8:=cW.trans ((aQ OH.out qB.out).mono cW.size);have dm:aM Y w wr:=by
    refine(aM.cJ OI).trans HI.only (λj hj=> ?_);rcases List.mem_append.1 hj with hj|hj;·exact .inl hj
    ·right;have h1:=TW.out;have h2:=OH.size;have h3:=cW.size;simp only[dc,fM,or_false]at hj;rcases hj with rfl|rfl<;>omega
   refine⟨v9,Y2,rfl,Dt.weaken dm.size,Qf.below Du,HI.st,HI.ur,dm.trans (aM.cJ Du) (λj hj=> .inl hj),λj hj=> ?_,FJ,by rw[Rc.gI];have:=HKE.2.2;omega⟩;rcases U6.out j (by simp[hj])with h1|h1
   ·rcases List.mem_append.1 h1 with h1|h1;·exact .inl h1
    ·right;have h3:=TW.out;have h2:=OH.size;have h4:=cW.size;simp only[dc,fM,or_false]at h1;rcases h1 with rfl|rfl<;>omega
   ·exact .inr (a8 OI.size h1)
  case pos=>
   have Jr:(i:Int)<LS.length:=aa;have GD:pl<b:=by
    by_cases h:pl<b;·exact h
    ·have h1:=HL.1;rw[pw h]at h1;have h2:(LS.drop i).length=0:=(by rw[h1];rfl);rw[fZ]at h2;omega
   have⟨S,hS⟩:=ex (gV k.D (k.dict:Nat) k.nice b pl r);have da:=(mD (D:=k.D) (dict:=(k.dict:Nat)) (nice:=k.nice) (r:=r) GD HD.2.1 gx.2.2.2 (av HD.out) HD.2.2.2)
   have MV:=Gu (D:=k.D) (dict:=(k.dict:Nat)) (nice:=k.nice) (r:=r) GD;have rH:=jG (D:=k.D) (dict:=(k.dict:Nat)) (nice:=k.nice) (r:=r) GD;rw[hS]at da MV rH;have vd:LS.drop i=S::(bX k.D (k.dict:Nat) k.nice b (b-(pl+max S.l 1)) (pl+max S.l 1) (eD S r)).1:=(by rw[HL.1,rH]);have vc:=List.drop_eq_getElem_cons aV;have hSi:LS[i]=S:=zM;have ku:LS.drop (i+1)=(bX k.D (k.dict:Nat) k.nice b (b-(pl+max S.l 1)) (pl+max S.l 1) (eD S r)).1:=zM;have pd:(k.D.take pl).length=pl:=(by rw[eZ];have:=HD.out;omega);have bY:=da.fits;obtain⟨sl1,sl2⟩:=Dc da;obtain⟨s',st',r',Z,Rz,Pm,al6,_,Nt⟩:=Wz (g:=0) (lc:=k.lc) (lp:=k.lp) (pb:=k.pb) (st:=st) (r:=r) (x:=x) (H:=k.D.take pl) (k:=(S.k:Nat)) (b:=S.b) (l:=(S.l:Nat)) (d:=(S.d:Nat)) (q:=(S.r:Nat)) HP.1 HP.2.1 HP.2.2.1 HI.st HI.ur (by rw[pd];have:=gx.2.2.2;have:=HD.out;omega) (by rw[pd];exact bY);have nR:r'=eD S r:=Pm.trans (lz S da.k r);have al7:st'<12:=(by have h:=tW (st:=(st:Nat)) (k:=(S.k:Nat)) (l:=(S.l:Nat)) aa (av HI.st);rw[<-al6]at h;omega);have al8:fp r':=by
    rw[Pm];have hf:=nw bY;by_cases ln:S.k=1;·exact zi HI.ur aa (λ_=>aa)
    ·rw[show dM r (S.k:Nat) (S.d:Nat) (S.r:Nat)=dM r (S.k:Nat) (0:Nat) (S.r:Nat)from by unfold dM;simp only[show ¬((S.k:Int)=1) by omega,if_false]];exact zi HI.ur ar (λh=>absurd h ln)
   have⟨M,hM⟩:=ex (max S.l 1);rw[hM]at MV ku;have TX:Hid (gO k.lc k.lp k.pb k.D LS a (yO,r1,(P1,Ec))=gO k.lc k.lp k.pb k.D (LS.drop (i+1)) (pl+M) (st',r',Z)):=ae (by
    rw[HL.2,vc,hSi,<-hM];show gO k.lc k.lp k.pb k.D (LS.drop (i+1)) (pl+max S.l 1) ((Md.sym (ao 0) k.lc k.lp k.pb st r (k.D.take pl) (S.k:Nat) S.b (S.l:Nat) (S.d:Nat) (S.r:Nat) x).2)=_;rw[Rz];rfl)
   have lV:Hid (LS.drop (i+1)=(bX k.D (k.dict:Nat) k.nice b (b-(pl+M)) (pl+M) r').1):=ae (by rw[ku,nR]);have akk:(pl:Int)<=100000:=(by have:=gx.2.2.2;have:=HD.out;omega);have n9:(S.l:Int)<=273:=av da.short;obtain⟨Y1,hRE,Dr⟩:=HI.re;have GF:X_.heap.size<=w8.heap.size:=qB.size;have OI:aq w w8:=cW.trans ((aQ OH.out qB.out).mono cW.size);have hgY: ∀j∈Y++[h,oE],j≠gS/\(j∈Y\/X_.heap.size<=j):=λj hj=>by
    rcases List.mem_append.1 hj with hj|hj;·have h1:=HYL.out j hj;have h2:=Zu.out;have h3:=cW.size;exact⟨aa,.inl hj⟩
    ·have h1:=TW.out;have h2:=Zu.out;simp only[dc,fM,or_false]at hj;rcases hj with rfl|rfl;·exact⟨aa,.inr h1.1⟩
     ·exact⟨aa,.inr h1.2⟩
   have al9: ∀j∈Y1,j≠gS:=λj hj=>by
    rcases Dr j hj with h1|h1;·exact(hgY j h1).1
    ·have h2:=Zu.out;omega
   have TY:wr.heap[gS]? =X_.heap[gS]? :=(by refine(HI.only.block gS (db Zu.2 GF) (λhj=>(hgY gS hj).1 rfl)).trans (qB.block gS Zu.2));have hqs:=TD.out i aV wr TY;rw[hSi,dR 5 i]at hqs;have hDr:Bytes wr k.A k.D:=by
    refine(gx.1.below OI).only HI.only (λq hq hj=> ?_);have h1:=gx.2.1 q hq;rcases List.mem_append.1 hj with hj|hj;·exact h1.1 hj
    ·have h2:=TW.out;have h3:=OH.size;have h4:=cW.size;simp only[dc,fM,or_false]at hj;rcases hj with hj|hj<;>omega
   have Cn:Hid (∀w',aq wr w'->Calls prog 125 #[PF C,PF h,.slice k.A pl k.cD,mq (S.k:Nat) S.b (S.l:Nat) (S.d:Nat) (S.r:Nat)] w' (ph ((ao 0).ok Z.2 (82*(b-(pl+M))+100)) (lQ (.tuple #[]) C base h N (k.lc:Nat) (k.lp:Nat) (k.pb:Nat) (st':Nat) r' Z Y1 w'))):=ae (λw' hW=>by
    have hp:=Nt C base h N Y1 w' (82*(b-(pl+M))+100) k.A k.cD (hRE.below hW) (a8 HP.2.2.2.2.2 (a8 OI.size (a8 HI.only.size hW.size))) HP.2.2.2.1 HP.2.2.2.2.1 ((ao 0).le HI.ok aa) ((hDr.below hW).take pl) (λq hq hj=>by
     have h1:=gx.2.1 q hq;rcases Dr _ hj with h2|h2
     ·rcases(hgY _ h2).2 with h3|h3;·exact h1.1 h3
      ·have:=OH.size;have:=cW.size;omega
     ·have:=OI.size;omega) (by rw[pd];have:=gx.2.2.1;have:=HD.out;omega)
    rw[pd]at hp;exact hp)
   have F8:Hid (∀w':Lo,dr C base h N (k.lc:Nat) (k.lp:Nat) (k.pb:Nat) (st':Nat) r' Z Y1 wr.drew w'->w'.cell? ⟨gS,i*5,none⟩=some (.int .i64 S.k)/\w'.cell? ⟨gS,i*5+1,none⟩=some (.int .u8 S.b.toNat)/\w'.cell? ⟨gS,i*5+2,none⟩=some (.int .i64 S.l)/\w'.cell? ⟨gS,i*5+3,none⟩=some (.int .i64 S.d)/\w'.cell? ⟨gS,i*5+4,none⟩=some (.int .i64 S.r)):=ae (λw' hw=>by
    obtain⟨_,_,dm,_⟩:=hw;have gB:w'.heap[gS]? =X_.heap[gS]? :=(dm.block gS (db Zu.2 (a8 GF HI.only.size)) (λhj=>al9 gS hj rfl)).trans TY;have oP:=TD.out i aV w' gB;rw[hSi,dR 5 i]at oP;exact oP)
   have HT:=ae (ap aV (ap MV (ap sl1 sl2)));have HSS:=ae (ap al7 (ap al8 hM));have HYY:=ae Dr;have VY:(pl:Int)<=k.D.length:=av HD.out;have hpc:(pl:Int)<=k.cD:=(by have:=HD.out;have:=gx.2.2.1;omega);have hdc:(k.D.length:Int)<=k.cD:=av gx.2.2.1;clear hS da MV rH vd vc hSi ku pd bY Rz Pm al6 Nt nR al7 al8 hM hRE Dr GF OI hgY al9 TY hDr aV aeu hi GD sl1 sl2;go_upto_region 7 with fail;have bu:aq wr wr.drew:=⟨rfl,rfl,rfl,aF _,λ_ _=>rfl⟩
   refine wp_region_held_drew (S:=λw2=>w2.cell? ⟨gS,i*5,none⟩=some (.int .i64 S.k)/\w2.cell? ⟨gS,i*5+1,none⟩=some (.int .u8 S.b.toNat)/\w2.cell? ⟨gS,i*5+2,none⟩=some (.int .i64 S.l)/\w2.cell? ⟨gS,i*5+3,none⟩=some (.int .i64 S.d)/\w2.cell? ⟨gS,i*5+4,none⟩=some (.int .i64 S.r)) ak hqs (λhS=> ?_);refine ag 0 hS (h:=ag 1 hS (h:=ag 2 hS (h:=ag 3 hS (h:=ag 4 hS (h:=ag 5 hS (h:=ag 6 hS (h:=ag 7 hS (h:=bN 8 hS (h:= ?_)))))))));refine aO 9 (λK hK=> ?_);go_simp;refine(Cn _ bu).mono ?_;rintro e x9 ⟨⟨rfl,J2⟩,hQ⟩;have HWE:=ae J2;have HQQ:=ae hQ;clear J2 hQ;have g9:=F8.out _ HWE.out;go_wp2_with fail;refine hK _ _ g9 (λ_=> ?_);clear hK K;refine wpAnyH_done ak ?_ _;obtain⟨q0,_,q2,_,_⟩:=g9;have HI2:Hid (TrI k C base h N (Y++[h,oE]) w8 x9 st' r' Z (82*(b-(pl+M))+100)):=ae (by
    obtain⟨Y2,atf,dv,vT⟩:=HWE.out;have atg:w8.heap.size<=wr.heap.size:=HI.only.size;refine⟨⟨Y2,atf,λj hj=> ?_⟩,?_,HSS.1,HSS.2.1,HQQ.out⟩
    ·rcases vT j hj with h1|h1;·exact HYY j h1
     ·exact .inr (a8 atg h1)
    ·exact HI.only.trans ((aM.cJ (⟨rfl,rfl,rfl,aF _,λ_ _=>rfl⟩:aq wr wr.drew)).trans dv (λj hj=> .inl hj)) HYY.out)
   by_cases hk:S.k=0;·have xO:((S.k:Int)==0)=true:=(by rw[beq_iff_eq];omega);have HE:Hid (pl+M=pl+1/\S.l=0):=ae (by have:=HT.2.2.1 hk;have:=HSS.2.2;omega);clear hk;go_wp2_with fail;exact⟨⟨i+1,pl+M,st',r',Z,zY,rfl,HI2,ae ⟨lV.out,TX.out⟩,HT.1,HT.2.1⟩,by have:=HT.1;simp[intOf];omega⟩
   ·have xO:((S.k:Int)==0)=false:=(by rw[gQ];omega);have HE:Hid (pl+M=pl+S.l):=ae (by have:=HT.2.2.2 hk;have:=HSS.2.2;omega);clear hk;go_wp2_with fail;exact⟨⟨i+1,pl+M,st',r',Z,zY,rfl,HI2,ae ⟨lV.out,TX.out⟩,HT.1,HT.2.1⟩,by have:=HT.1;simp[intOf];omega⟩
theorem D9.rows(h:D9 w C base N lc lp pb st r P Y): ∀j∈Y,∃cs t x,w.heap[j]? =some (.cells cs t x)/\t≠5:=by
 obtain⟨Pl,vR,gR,gP,fF,h1,h2,h3,h4,rfl⟩:=h.ex;intro j hj;simp only[dc,fM,or_false]at hj;rcases hj with rfl|rfl|rfl;·exact⟨_,_,_,h1.box,ar⟩
 ·obtain⟨cs,x,hc⟩:=h1.gX.afP h2;exact⟨_,_,_,hc,ar⟩
 ·obtain⟨cs,x,hc⟩:=h1.ps.afP rfl;exact⟨_,_,_,hc,ar⟩
theorem D9.out(h:D9 w C base N lc lp pb st r P Y){b2:Nat}{l:An}(ho:Own b2 w v l): ∀g,v.ownBlock=some g->g ∉ Y:=λg hg hy=>by obtain⟨cs,t,x,hc,ht⟩:=h.rows g hy;exact ho.ne hc ht hg
theorem D9.grown(h:D9 w C base N lc lp pb st r P Y)(hg:w.grownBy w' v.ownBlock)(hn: ∀g,v.ownBlock=some g->g ∉ Y):D9 w' C base N lc lp pb st r P Y:=by
 obtain⟨Pl,vR,gR,gP,fF,h1,h2,h3,h4,rfl⟩:=h.ex;refine⟨⟨Pl,vR,gR,gP,fF,⟨(hg.block C (bU h1.box) (λe=>hn C e.symm ah)).trans h1.box,h1.gX.grown hg (λg e1 e2=>hn g e2 ?_),h1.ps.grown hg (λg e1 e2=>hn g e2 ?_)⟩,h2,h3,h4,rfl⟩,h.fair⟩;·rw[h2]at e1;injection e1 with e1;subst e1;simp
 ·have e1:gP=g:=by simpa [Value.ownBlock]using e1
  subst e1;simp
theorem abc{w0:Lo}{lc lp pb:Nat}{vR vP:Value}(hC:dj w C w0.heap.size lc lp pb 0 (1,1,1,1) (List.replicate (2180+768*2^(lc+lp)) 1024) vR vP)(hb:w0.heap.size<=C):
  ∃Y,D9 w C w0.heap.size (2180+768*2^(lc+lp)) (lc:Nat) (lp:Nat) (pb:Nat) ((0:Nat):Int) (1,1,1,1) (λ_=>1024) Y/\ ∀i∈Y,w0.heap.size<=i:=by
 obtain⟨gR,ajX,eR,sJ,_⟩:=hC.gX.bT (show 0<4 by decide);have hlen:((List.replicate (2180+768*2^(lc+lp)) 1024).map λx:Nat=>Value.int .u16 (x:Nat)).length=2180+768*2^(lc+lp):=ah;obtain⟨gP,fF,eP,hgP,_⟩:=hC.ps.bT (by rw[hlen];omega);rw[hlen]at eP;subst eP;refine⟨[C,gR,gP],⟨⟨_,vR,gR,gP,fF,hC,by rw[eR];rfl,ah,λi hi=> ?_,rfl⟩,λi=>⟨show 1<=1024 by decide,show 1024<=2047 by decide⟩⟩,?_⟩;·rw[List.getElem?_replicate,ax hi]
 ·intro i hi;simp only[dc,fM,or_false]at hi;rcases hi with rfl|rfl|rfl<;>assumption
def acL(k:ip)(w wr:Lo):Prop:=wr.heap[w.heap.size]? =some (.cells (eL (k.lc:Nat) (k.lp:Nat) (k.pb:Nat) k.nice k.chunk k.block k.check k.chain k.dict).toArray 26 (0,0))
structure Lv(k:ip)(N:Nat)(w wr:Lo)(C base:Nat)(st:Nat)(r:R4)(P:Nat->Nat)(Y:List Nat)(v:Value)(L:An):Prop where
 opt:acL k w wr
 Lm:D9 wr C base N (k.lc:Nat) (k.lp:Nat) (k.pb:Nat) (st:Nat) r P Y
 off: ∀i∈Y,w.heap.size+1<=i
 base:base<=wr.heap.size
 st:st<12
 ur:fp r
 own:Own (w.heap.size+1) wr v L
 below:Below w.heap.size w wr
theorem Lv.lt{k:ip}{N:Nat}{w wr:Lo}{C base st:Nat}{r:R4}{P:Nat->Nat}{Y:List Nat}{v:Value}{L:An}(h:Lv k N w wr C base st r P Y v L):w.heap.size+1<=wr.heap.size:=(bU h.opt)
theorem Lv.step{k:ip}{st:Nat}(h:Lv k N w wr C base st r P Y v L){C2 sm Yr:Nat}{r2:R4}{P2:Nat->Nat}{Y2:List Nat}(dm:aM Y wr w2)(hc:D9 w2 C2 sm N (k.lc:Nat) (k.lp:Nat) (k.pb:Nat) (Yr:Nat) r2 P2 Y2)(hY: ∀i∈Y2,i∈Y\/wr.heap.size<=i)(hb:sm<=w2.heap.size)(hs:Yr<12)(hg:fp r2):Lv k N w w2 C2 sm Yr r2 P2 Y2 v L:=by
 have aV:=h.lt;refine⟨(dm.block _ aV (λhi=>av (h.off _ hi))).trans h.opt,hc,λi hi=> ?_,hb,hs,hg,h.own.oB (λg BI=>dm.block g (h.own.ay g BI).2 (h.Lm.out h.own g BI)),h.below.trans (dm.below h.below.size (λi hi=>av (h.off i hi)))⟩;rcases hY i hi with h1|h1;·exact h.off i h1
 ·omega
theorem Lv.next{k:ip}{st:Nat}(h:Lv k N w wr C base st r P Y v L)(hb:Below wr.heap.size wr w2):Lv k N w w2 C base st r P Y v L:=by have aV:=h.lt;exact⟨(hb.block _ aV).trans h.opt,h.Lm.below hb,h.off,a8 h.base hb.size,h.st,h.ur,h.own.below hb,h.below.trans (hb.mono aa)⟩
theorem Lv.grow{k:ip}{st:Nat}{v2:Value}{L2:An}(h:Lv k N w wr C base st r P Y v L)(hg:wr.grownBy w2 v.ownBlock)(ho:Own (w.heap.size+1) w2 v2 L2):Lv k N w w2 C base st r P Y v2 L2:=by have aV:=h.lt;refine⟨(hg.block _ aV (λe=>h.own.ne h.opt ar e.symm)).trans h.opt,h.Lm.grown hg (h.Lm.out h.own),h.off,a8 h.base hg.size,h.st,h.ur,ho,am h.below hg h.below.size (λg e=> ?_)⟩;have:=(h.own.ay g e).1;omega
structure PqL(k:ip)(c a:Nat)(told bh:Bool)(s:gF)(z:Nat×R4×(Nat->Nat))(L:An):Prop where
 len:L.length<=4*min a k.D.length
 go:(cV k (d9 k.D.length c 0) (none,false)).1=L++(cV k (d9 k.D.length c a) (s,told)).1
 is:bh=false->z=iN s
 no:bh=true->s=none
 yes:bh=false->0<a->s.isSome=true
theorem PqL.ctl{k:ip}{s:gF}(h:PqL k c a told bh s z L):(if a=0 then 224 else if told=true then(if bh=true then 160 else 128)else 192)=vQ a told s:=by
 unfold vQ;by_cases ha:a=0;·rw[ax ha,ax ha]
 ·rw[au ha,au ha];cases told with
  | false=>rfl
  | true=>
   cases bh with
   | true=>rw[h.no rfl];rfl
   | false=>
    have h1:=h.yes rfl aa;cases s with
    | none=>cases h1
    | some s=>rfl
theorem PqL.next{k:ip}{b:Nat}{s:gF}(h:PqL k c a told bh s z L)(hc:1<=c)(ha:a<k.D.length)(hb:min (a+c) k.D.length=b){R:An}{s2:gF}{acM bh2:Bool}{z2:Nat×R4×(Nat->Nat)}(hR:a7 k a b s told=(R,s2,acM))(h1:bh2=false->z2=iN s2)(h2:bh2=true->s2=none)(h3:bh2=false->s2.isSome=true):PqL k c (a+c) acM bh2 s2 z2 (L++R):=by have hl:=nA (k:=k) (a:=a) (b:=b) (s:=s) (had:=told) aa aa;rw[hR]at hl;have hl:R.length<=b-a+3:=hl;have h4:=h.len;refine⟨zV,?_,h1,h2,λe _=>h3 e⟩;rw[h.go,jI hc ha,hb];show L++((a7 k a b s told).1++(cV k (d9 k.D.length c (a+c)) (a7 k a b s told).2).1)=_;rw[hR,eY]
theorem PqL.start(k:ip)(c:Nat):PqL k c 0 false false none Gv []:=⟨cI _,by rw[fL],λ_=>rfl,(λh=>Bool.noConfusion h),λ_ h=>absurd h ar⟩
def ath(k:ip)(N:Nat)(w:Lo)(e:Ending)(w':Lo):Prop:= ∃C Y,e= .returned (PF C)/\D9 w' C w.heap.size N (k.lc:Nat) (k.lp:Nat) (k.pb:Nat) ((0:Nat):Int) (1,1,1,1) (λ_=>1024) Y/\(∀i∈Y,w.heap.size<=i)/\Below w.heap.size w w'
theorem OJ(k:ip)(o:Value)(w:Lo)(ho:PkO k o)(hB:Bytes w k.A k.D)(hc:k.D.length<=k.cD)(hl:k.D.length<=100000):
  Calls prog 55 #[.slice k.A k.D.length k.cD,o] w (nU w (mH k)):=by
 rw[ho.val];have⟨N,hN⟩:=ex (2180+768*2^(k.lc+k.lp));have HN:Hid (N=2180+768*2^(k.lc+k.lp)/\N<=1000000):=ae ⟨hN.symm,by
  rw[<-hN];have:2^(k.lc+k.lp)<=2^4:=fk aa ho.JY;omega⟩
 have Rw:Hid (∀w':Lo,Calls prog 83 #[.int .i64 k.lc,.int .i64 k.lp,.int .i64 k.pb] w' (ath k N w')):=ae (λw'=>by
  refine(Vm k.lc k.lp k.pb (av ho.JY) w').mono ?_;rintro e w2 ⟨C,vR,vP,rfl,hC,hb,hCb⟩;obtain⟨Y,h1,h2⟩:=abc hC hCb;rw[hN]at h1;exact⟨C,Y,rfl,h1,h2,hb⟩)
 have⟨W,hW⟩:=ex (w.alloc (.cells #[.int .i64 k.lc,.int .i64 k.lp,.int .i64 k.pb,.int .i64 k.nice,.int .i64 k.chunk,.int .i64 k.block,.int .i64 k.check,k.chain,.int .u32 k.dict] 26));obtain⟨aY,bZ⟩:=dI (vs:=eL (k.lc:Nat) (k.lp:Nat) (k.pb:Nat) k.nice k.chunk k.block k.check k.chain k.dict) hW;have xl:Hid (∀W':Lo,acL k w W'->W'.cell? ⟨w.heap.size,0,none⟩=some (.int .i64 k.lc)/\W'.cell? ⟨w.heap.size,1,none⟩=some (.int .i64 k.lp)/\W'.cell? ⟨w.heap.size,2,none⟩=some (.int .i64 k.pb)/\W'.cell? ⟨w.heap.size,3,none⟩=some (.int .i64 k.nice)/\W'.cell? ⟨w.heap.size,4,none⟩=some (.int .i64 k.chunk)/\W'.cell? ⟨w.heap.size,5,none⟩=some (.int .i64 k.block)/\W'.cell? ⟨w.heap.size,6,none⟩=some (.int .i64 k.check)/\W'.cell? ⟨w.heap.size,7,none⟩=some k.chain/\W'.cell? ⟨w.heap.size,8,none⟩=some (.int .u32 k.dict)):=ae (λW' r=>by
  refine⟨?_,?_,?_,?_,?_,?_,?_,?_,?_⟩<;>(rw[aC W' _ _ _ _ _ r];rfl))
 obtain⟨y0,y1,y2,y3,y4,y5,y6,y7,y8⟩:=xl.out W aY;have HW:=ae hW;have cW:=ae bZ;have qi:=ae aY;have hA:0<k.D.length-> ∀a,k.A=some a->a.block<w.heap.size:=λh0 a ha=>by obtain⟨b,off,e,hb,_⟩:=hB.addr h0;rw[e]at ha;injection ha with ha;rw[<-ha];exact hb
 have gx:=ae (ap hB (ap hA (ap hc hl)));have HO:=ae ho;have xL:=ae ho.chunk;have aBY:1<=k.chunk:=ho.chunk.1;have aBZ:k.chunk<=65536:=ho.chunk.2;have Kg:(k.D.length:Int)<=100000:=aa;have aiX:(k.lc:Int)<=4:=av ho.lc;have aiY:(k.lp:Int)<=4:=av ho.lp;have aB0:(k.pb:Int)<=4:=av ho.pb;clear hN hW bZ aY hB hA hc hl ho;go_enter func55,ntmps55;go_upto_region 1 with fail;rw[HW.out];go_wp2_with fail;refine(Rw _).mono ?_;rintro e x1 ⟨C0,Y0,rfl,xz,hY0,fV⟩;have HQ0:Hid (Lv k N w x1 C0 W.heap.size 0 (1,1,1,1) (λ_=>1024) Y0 (.slice none 0 0) []):=ae (by
  have hs:=(bU qi.out)
  exact⟨(fV.block _ hs).trans qi.out,xz,λi hi=>av (hY0 i hi),fV.size,ar,by unfold fp;decide,Own.nil _ _,aQ cW.out fV⟩)
 clear xz hY0 fV y0 y1 y2 y3 y4 y5 y6 y7 y8;go_wp2_with fail;go_loopw [5,6,7,8,9] (λs5 s6 s7 s8 s9 wr=> ∃(a:Nat) (told bh:Bool) (s:gF) (st:Nat) (r:R4) (P:Nat->Nat) (C base:Nat) (Y:List Nat) (L:An),s6=PF C/\s7= .bool told/\s8= .bool bh/\s9= .int .i64 (a:Nat)/\Hid (Lv k N w wr C base st r P Y s5 L)/\Hid (PqL k k.chunk.toNat a told bh s (st,r,P) L)) (λ_ _ _ _ s9 _=>k.D.length-(intOf s9).toNat);·exact⟨0,false,false,none,0,(1,1,1,1),λ_=>1024,C0,_,Y0,[],rfl,rfl,rfl,rfl,HQ0,ae (PqL.start k _)⟩
 ·
  obtain⟨a,told,bh,s,st,r,P,C,base,Y,L,rfl,rfl,rfl,rfl,HQ,HL⟩:=hrel;by_cases aV:a<k.D.length;case neg=>
   have Jr: ¬(a:Int)<k.D.length:=aa;have HPB:Hid (mH k=L++[0]):=ae (by unfold mH;rw[HL.go,fe aV];simp[cV]);have vk:Hid (L.length+1<=140737488355328):=ae (by have:=HL.len;have:=gx.2.2.2;omega);have⟨W5,J6⟩:=ex (wr.alloc (.cells #[.int .u8 0] 5));have eS:aq wr W5:=(by rw[<-J6];exact az);have HX5:Hid (Bytes W5 (some ⟨wr.heap.size,0,none⟩) [0]):=ae (by rw[<-J6];exact Bytes.one wr 0);have HQ5:=ae (HQ.next eS);have HW5:=ae J6;clear aV J6 eS;go_wp2_with (at_builtin;rw[HW5.out];refine aj ?_ (.tmp 123) (.tmp 124) ?_ (w.heap.size+1) W5 u5 L ?_ HQ5.own (some ⟨wr.heap.size,0,none⟩) [0] 1 ?_ HX5.out vk.out HQ5.lt ?_;rfl;rfl;rfl;rfl;intro v6 w6 lf ot;have Pn:=ae lf;have HG6:=ae ot;clear lf ot)
   go_ret;rw[HPB.out];exact⟨v6,rfl,Pn.weaken (Nat.le_succ _),am HQ5.below HG6.out HQ5.below.size (λg e=>by have:=(HQ5.own.ay g e).1;omega)⟩
  case pos=>
   have Jr:(a:Int)<k.D.length:=aa;have⟨b,hb⟩:=ex (min (a+k.chunk.toNat) k.D.length);have yW:=ae hb;have VF:=ae aV;have sW:Hid (a<b/\b<=k.D.length):=ae (av xL.out);have Ic:(a:Int)<b:=av sW.out;have sH:(b:Int)<=k.D.length:=av sW.out;have oj:(k.D.length:Int)<=k.cD:=av gx.2.2.1;obtain⟨y0,y1,y2,y3,y4,y5,y6,y7,y8⟩:=xl.out wr HQ.opt;clear hb aV;go_upto_if 36 with fail;go_cut [10]from 37 to 122 (λPo wx=>Po= .int .i64 b/\wr=wx);case first=>
    by_cases hgt:(k.D.length:Int)<(a:Int)+k.chunk;·go_wp2_with fail;go_meet;exact⟨by congr 1;have:=yW.out;omega,rfl⟩
    ·go_wp2_with fail;go_meet;exact⟨by congr 1;have:=yW.out;omega,rfl⟩
   case rest=>
   obtain⟨rfl,rfl⟩:=hcut;go_upto_if 39 with fail;go_cut [6]from 40 to 122 (λs6 wx=> ∃C2 sm Y2,s6=PF C2/\Lv k N w wx C2 sm (iN s).1 (iN s).2.1 (iN s).2.2 Y2 u5 L);case first=>
    cases bh with
    | true=>
     go_wp2_with fail;refine(Rw _).mono ?_;rintro e w1 ⟨C2,Y2,rfl,ei,vT,aK⟩;have TV:Hid (Lv k N w w1 C2 wr.heap.size (iN s).1 (iN s).2.1 (iN s).2.2 Y2 u5 L):=ae (by
      rw[HL.no rfl];exact HQ.step (aM.cJ aK) ei (λi hi=> .inr (vT i hi)) aK.size (show 0<12 by decide) (show fp (1,1,1,1) by unfold fp;decide))
     clear ei vT aK;go_wp2_with fail;go_meet;exact⟨C2,_,Y2,rfl,TV.out⟩
    | false=>
     go_wp2_with fail;go_meet;exact⟨C,base,Y,rfl,by rw[<-HL.is rfl];exact HQ.out⟩
   case rest=>
   obtain⟨C2,sm,Y2,rfl,oP⟩:=hcut;obtain⟨⟨yO,r1,P1⟩,DX⟩: ∃z,iN s=z:=⟨_,rfl⟩
   rw[DX]at oP;have oP:Lv k N w wc C2 sm yO r1 P1 Y2 u5 L:=oP;have hTR:=OG k C2 sm N yO r1 P1 Y2 a b wc (gx.1.below oP.below) (λq hq=>⟨λhy=>by have:=oP.off _ hy;have:=gx.2.1 (av sW.out) q hq;omega,by have:=gx.2.1 (av sW.out) q hq;have:=oP.lt;omega⟩) gx.2.2.1 gx.2.2.2 ⟨av HO.dict,HO.dict.2⟩ HO.nice.2 HO.lc HO.lp HO.pb oP.Lm oP.st oP.ur HN.1 HN.2 oP.base sW.1 sW.2;obtain⟨⟨R,Yr,r2,P2⟩,hR⟩: ∃r,iT k a b (yO,r1,P1)=r:=⟨_,rfl⟩
   have⟨x,hx⟩:=ex (vQ a told s);obtain⟨T1,uY⟩: ∃T,po (b-a-1)=T:=⟨_,rfl⟩
   obtain⟨T2,ua⟩: ∃T,po (R.length-1)=T:=⟨_,rfl⟩
   obtain⟨PP,hP⟩: ∃P,(if 192<=x then [we k]else [])=P:=⟨_,rfl⟩
   have⟨O,hO⟩:=ex (((([x]++T1)++T2)++PP)++R);rw[hR]at hTR;have L3:fW k a b s told R=O:=(by unfold fW;rw[hx,uY,ua,hP,hO]);have qq:Hid (a7 k a b s told=if b-a+3<=O.length\/65536<R.length then(fv k.D a b,none,told)else(O,some (Yr,r2,P2),true)):=ae (by unfold a7;rw[DX,hR];show(if b-a+3<=(fW k a b s told R).length\/_ then _ else _)=_;rw[L3]);have xV:=ae (λW=>KA (b-a-1) (by have:=gx.2.2.2;have:=sW.out;omega) W);have aez:Hid (5<=R.length->R.length+100<=140737488355328-> ∀W,Calls prog 85 #[.int .i64 ((R.length:Int)-1)] W (nU W T2)):=ae (λh1 h2 W=>by
    have h:=KA (R.length-1) aa W;rw[show((R.length-1:Nat):Int)=(R.length:Int)-1 by omega,ua]at h;exact h)
   rw[show((b-a-1:Nat):Int)=(b:Int)-(a:Int)-1 by omega,uY]at xV;have Qu:Hid (T1.length=2):=ae (by rw[<-uY];rfl);have amb:=ae uY;have nK:Hid (T2.length=2):=ae (by rw[<-ua];rfl);have My:Hid (PP.length<=1):=ae (by rw[<-hP];split<;>simp);have HP:=ae hP;have HX:=ae hx;have⟨q,hq⟩:=ex (decide (192<=(x.toNat:Int)));have HQX:Hid (q=true↔192<=x):=ae (by
    rw[<-hq,AJ,UInt8.le_iff_toNat_le];show _↔192<=x.toNat;omega)
   have HOE:=ae hO;have Wn:=ae hTR;have yC:=ae oP;obtain⟨bD,oD,hAD,_,_⟩:=gx.1.addr (av VF.out);obtain⟨TT,hTT⟩: ∃T,(k.D.drop a).take (b-a)=T:=⟨_,rfl⟩
   have Hn:Hid ((k.D.drop a).take (b-a)=TT/\TT.length=b-a/\Bytes w (some ⟨bD,oD+a,none⟩) TT):=ae ⟨hTT,by rw[<-hTT,eZ,fZ];have:=sW.out;omega,by
    rw[<-hTT];have h:=gx.1;rw[hAD]at h;exact(h.drop a).take _⟩
   rw[hAD]at Wn;rw[hAD];have afR:=ae hAD;obtain⟨y0,y1,y2,y3,y4,y5,y6,y7,y8⟩:=xl.out wc oP.opt;clear DX oP hTR hR hx uY ua hP hO L3 hAD hTT;go_wp2_with fail;refine Wn.mono ?_;rintro e w2 ⟨v2,Y3,rfl,dz,afS,afT,afU,dv,Dq,hR5,hRm⟩;simp only at dz afS afT afU hR5 hRm;obtain⟨AR,cR,rfl,_,_,hBR⟩:=dz.read;have hRi:(R.length:Int)<=140737488355328:=aa;have T0:=ae (ap hR5 hRm);have gY:=ae hBR;have q_:=ae (yC.step dv afS Dq (a8 yC.base dv.size) afT afU);clear dz afS afT afU dv Dq hR5 hRm hBR Wn y0 y1 y2 y3 y4 y5 y6 y7 y8;go_upto_if 53 with fail;go_cut [12]from 54 to 122 (λMs wx=>Ms=B8 (if bh=true then 160 else 128)/\w2=wx);case first=>
    cases bh with
    | true=>
     go_wp2_with fail;go_meet;exact⟨rfl,rfl⟩
    | false=>
     go_wp2_with fail;go_meet;exact⟨rfl,rfl⟩
   case rest=>
   obtain⟨rfl,rfl⟩:=hcut;obtain⟨n1,DE⟩: ∃z:UInt8,(if bh=true then 160 else 128)=z:=⟨_,rfl⟩
   rw[DE];have Mn:=ae DE;clear DE;go_upto_if 55 with fail;go_cut [12]from 56 to 122 (λMs wx=>Ms=B8 (if told=true then n1 else 192)/\w2=wx);case first=>
    cases told with
    | true=>
     go_wp2_with fail;go_meet;exact⟨rfl,rfl⟩
    | false=>
     go_wp2_with fail;go_meet;exact⟨rfl,rfl⟩
   case rest=>
   obtain⟨rfl,rfl⟩:=hcut;obtain⟨n2,yv⟩: ∃z:UInt8,(if told=true then n1 else 192)=z:=⟨_,rfl⟩
   rw[yv];have I1:Hid ((if told=true then(if bh=true then 160 else 128)else 192)=n2):=ae (by rw[Mn.out];exact yv);clear yv;go_upto_if 57 with fail;go_cut [12]from 58 to 122 (λMs wx=>Ms=B8 x/\w2=wx);case first=>
    by_cases Km:a=0;·have h0:((a:Int)==0)=true:=(by rw[beq_iff_eq];omega);have HXE:Hid (x=224):=ae (by rw[<-HX.out,<-HL.ctl,ax Km]);clear Km;go_wp2_with fail;go_meet;exact⟨by rw[HXE.out];rfl,rfl⟩
    ·have h0:((a:Int)==0)=false:=(by rw[gQ];omega);have HXE:Hid (x=n2):=ae (by rw[<-HX.out,<-HL.ctl,au Km,I1.out]);clear Km;go_wp2_with fail;go_meet;exact⟨by rw[HXE.out],rfl⟩
   case rest=>
   obtain⟨rfl,rfl⟩:=hcut;have⟨W3,jE⟩:=ex (w2.alloc (.cells #[B8 x] 5));have dU:Own w2.heap.size W3 (.slice (some ⟨w2.heap.size,0,none⟩) 1 1) [x]:=(by rw[<-jE];exact Own.lit w2 [x] (aF _) ah);have bm:aq w2 W3:=(by rw[<-jE];exact az);have zz:=ae jE;have vI:=ae dU;have ft:=ae bm;clear jE dU bm;go_wp2_with fail;rw[show w2.alloc (Obj.cells #[B8 x] 5)=W3 from zz.out];refine(xV _).mono ?_;rintro e w4 ⟨v4,rfl,bM,bc⟩;obtain⟨A4,c4,rfl,_,_,lx⟩:=bM.read;have fJ:=ae (aQ ft.out bc);have WE:=ae (vI.below bc);have aeC:=ae lx;clear bM bc lx;go_upto_region 22 with(at_builtin;refine aj ?_ (.tmp 59) (.tmp 64) ?_ w2.heap.size w4 (.slice (some ⟨w2.heap.size,0,none⟩) 1 1) [x] ?_ WE.out A4 T1 c4 ?_ aeC.out zN fJ.size ?_;rfl;rfl;rfl;rfl;intro v5 w5 gU ig;have Bq:=ae gU;have pX:=ae (am fJ.out ig fJ.size (λg e=>(WE.ay g e).1));clear gU ig)
   go_wp2_with fail;refine(aez T0.1 T0.2 _).mono ?_;rintro e w6 ⟨v6,rfl,lf,oq⟩;obtain⟨A6,c6,rfl,_,_,zG⟩:=lf.read;have ul:=ae (aQ pX.out oq);have WF:=ae (Bq.below oq);have aeD:=ae zG;clear lf oq zG;go_upto_region 23 with(at_builtin;refine aj ?_ (.tmp 66) (.tmp 70) ?_ w2.heap.size w6 v5 ([x]++T1) ?_ WF.out A6 T2 c6 ?_ aeD.out OW ul.size ?_;rfl;rfl;rfl;rfl;intro v7 w7 te At;have T3:=ae te;have Dj:=ae (am ul.out At ul.size (λg e=>(WF.ay g e).1));clear te At)
   go_upto_if 73 with fail;go_cut [13]from 74 to 122 (λs13 wx=>Own w2.heap.size wx s13 ((([x]++T1)++T2)++PP)/\aq w2 wx);case first=>
    cases q with
    | true=>
     have hx:=HQX.1 rfl;have xm:PP=[we k]:=(by rw[<-HP.out,ax hx]);have hy:Value.int .u8 ((k.lc:Int)+9*(k.lp:Int)+45*(k.pb:Int))=B8 (we k):=(by unfold B8 we;rw[fN];congr 1;omega);have⟨W9,Y_⟩:=ex (w7.alloc (.cells #[.int .u8 ((k.lc:Int)+9*(k.lp:Int)+45*(k.pb:Int))] 5));have HW9:=ae Y_;have HX9:Hid (Bytes W9 (some ⟨w7.heap.size,0,none⟩) [we k]):=ae (by rw[<-Y_,hy];exact Bytes.one w7 _);have Ng:aq w7 W9:=(by rw[<-Y_];exact az);have wg:=ae (aQ Dj.out Ng);have WI:=ae (T3.below Ng);have WJ:=ae xm;obtain⟨y0,y1,y2,y3,y4,y5,y6,y7,y8⟩:=xl.out w7 (q_.next Dj.out).opt;clear hx xm hy Y_ Ng;go_wp2_with (at_builtin;rw[HW9.out];refine aj ?_ (.tmp 74) (.tmp 86) ?_ w2.heap.size W9 v7 (([x]++T1)++T2) ?_ WI.out (some ⟨w7.heap.size,0,none⟩) [we k] 1 ?_ HX9.out OX wg.size ?_;rfl;rfl;rfl;rfl;intro v10 RF pD Co;have Nh:=ae pD;have rF:=ae (am wg.out Co wg.size (λg e=>(WI.ay g e).1));clear pD Co)
     go_meet;exact⟨by rw[WJ.out];exact Nh.out,rF.out⟩
    | false=>
     have hx: ¬192<=x:=λh=>Bool.noConfusion (HQX.2 h);have xm:PP=[]:=(by rw[<-HP.out,au hx]);have Cg:=ae xm;clear hx xm;go_wp2_with fail;go_meet;exact⟨by rw[Cg.out,iV];exact T3.out,Dj.out⟩
   case rest=>
   obtain⟨qA,rG⟩:=hcut;have HO8:=ae qA;have qB:=ae rG;clear qA rG;go_upto_region 26 with(at_builtin;refine aj ?_ (.tmp 88) (.tmp 89) ?_ w2.heap.size wc u13 ((([x]++T1)++T2)++PP) ?_ HO8.out AR R cR ?_ (gY.below qB.out) (by have:=T0.2;have:=My.out;rw[aG,aG,aG,Qu.out,nK.out];show 1+2+2+PP.length+R.length<=140737488355328;omega) qB.size ?_;rfl;rfl;rfl;rfl;intro v9 w9 Dt J3;rw[HOE.out]at Dt;have HO9:=ae Dt;have wg:=ae (am qB.out J3 qB.size (λg e=>(HO8.ay g e).1));clear Dt J3)
   obtain⟨A9,c9,hv9,_,Lq,Fn⟩:=HO9.read;have atj:=ae Fn;have UL:=ae (q_.next wg.out);have hOi:(O.length:Int)<=9223372036854775807:=aa;clear Fn;by_cases h1:b-a+3<=O.length
   ·have Z8:3+(b:Int)-(a:Int)<=O.length:=(by omega);have jm:Hid (b-a+3<=O.length\/65536<R.length):=ae (.inl h1);subst hv9;clear h1 Lq;go_upto_if 105 with fail;clear Z8;go_cut [12]from 106 to 122 (λMs wx=>Ms=B8 (if a=0 then 1 else 2)/\w9=wx);case first=>
     by_cases Km:a=0;·have h0:((a:Int)==0)=true:=(by rw[beq_iff_eq];omega);have HA0:=ae Km;clear Km;go_wp2_with fail;go_meet;exact⟨by rw[ax HA0.out];rfl,rfl⟩
     ·have h0:((a:Int)==0)=false:=(by rw[gQ];omega);have HA0:=ae Km;clear Km;go_wp2_with fail;go_meet;exact⟨by rw[au HA0.out];rfl,rfl⟩
    case rest=>
    obtain⟨rfl,rfl⟩:=hcut;obtain⟨zb,hzb⟩: ∃z:UInt8,(if a=0 then 1 else 2)=z:=⟨_,rfl⟩
    rw[hzb];have HZB:=ae hzb;clear hzb;obtain⟨X3,tG⟩: ∃W,w9.alloc (.cells #[B8 zb] 5)=W:=⟨_,rfl⟩
    have TS:Own w9.heap.size X3 (.slice (some ⟨w9.heap.size,0,none⟩) 1 1) [zb]:=(by rw[<-tG];exact Own.lit w9 [zb] (aF _) ah);have ju:aq w9 X3:=(by rw[<-tG];exact az);have Q1:=ae tG;have Hz:=ae TS;have Jc:=ae ju;clear tG TS ju;go_wp2_with fail;rw[show w9.alloc (Obj.cells #[B8 zb] 5)=X3 from Q1.out];refine(xV _).mono ?_;rintro e x4 ⟨q4,rfl,hp4,jM⟩;obtain⟨E4,d4,rfl,_,_,hE4⟩:=hp4.read;have Tu:=ae (aQ Jc.out jM);have YI:=ae (Hz.below jM);have HE4:=ae hE4;clear hp4 jM hE4;go_upto_region 32 with(at_builtin;refine aj ?_ (.tmp 107) (.tmp 112) ?_ w9.heap.size x4 (.slice (some ⟨w9.heap.size,0,none⟩) 1 1) [zb] ?_ YI.out E4 T1 d4 ?_ HE4.out zN Tu.size ?_;rfl;rfl;rfl;rfl;intro v5 w5 gU ig;have HP5:=ae gU;have Mz:=ae (am Tu.out ig Tu.size (λg e=>(YI.ay g e).1));clear gU ig)
    go_upto_region 34 with(at_builtin;refine aj ?_ (.tmp 114) (.tmp 118) ?_ w9.heap.size w5 v5 ([zb]++T1) ?_ HP5.out (some ⟨bD,oD+a,none⟩) TT (k.cD-a) ?_ (Hn.2.2.below (UL.next Mz.out).below) O5 Mz.size ?_;rfl;rfl;rfl;rw[Hn.2.1];rfl;intro v6 w6 lf ot;have HP6:=ae lf;have HC6:=ae (am Mz.out ot Mz.size (λg e=>(HP5.ay g e).1));clear lf ot)
    have OK:Hid (fv k.D a b=([zb]++T1)++TT):=ae (by unfold fv;rw[amb.out,Hn.1,HZB.out];rfl);rw[<-afR.out];have⟨SO,hSO⟩:=ex (([zb]++T1)++TT);rw[hSO]at OK HP6;have YJ:Hid (L.length+SO.length<=140737488355328):=ae (by
     rw[<-OK.out,rI sW.1 sW.2];have:=HL.len;have:=gx.2.2.2;have:=sW.out;omega)
    obtain⟨A7,c7,rfl,_,_,D5⟩:=HP6.read;have afX:=ae D5;have YK:=ae (UL.next HC6.out);clear hSO D5;go_wp2_with (at_builtin;refine aj ?_ (.tmp 120) (.tmp 121) ?_ (w.heap.size+1) w6 u5 L ?_ YK.own A7 SO c7 ?_ afX.out YJ.out YK.lt ?_;rfl;rfl;rfl;rfl;intro v12 w12 KW KX;have KY:=ae (YK.grow KX KW);obtain⟨y0,y1,y2,y3,y4,y5,y6,y7,y8⟩:=xl.out w12 KY.opt;clear KW KX)
    have xB:a7 k a b s told=(SO,none,told):=(by rw[qq.out,ax jm.out,OK.out]);go_roundw;case rel=>exact⟨a+k.chunk.toNat,told,true,none,Yr,r2,P2,C2,sm,Y3,L++SO,rfl,rfl,rfl,by congr 1;have:=xL.out;omega,KY,ae (HL.next (av xL.out) VF.out yW.out xB (λh=>Bool.noConfusion h) (λ_=>rfl) (λh=>Bool.noConfusion h))⟩
    case measure=>have:=xL.out;have:=VF.out;simp[intOf];omega
   ·have Z8: ¬3+(b:Int)-(a:Int)<=O.length:=(by omega);by_cases h2:65536<R.length
    ·have h2i:65536<(R.length:Int):=(by omega);have jm:Hid (b-a+3<=O.length\/65536<R.length):=ae (.inr h2);subst hv9;clear h1 h2 Lq;go_upto_if 105 with fail;clear Z8 h2i;go_cut [12]from 106 to 122 (λMs wx=>Ms=B8 (if a=0 then 1 else 2)/\w9=wx);case first=>
      by_cases Km:a=0;·have h0:((a:Int)==0)=true:=(by rw[beq_iff_eq];omega);have HA0:=ae Km;clear Km;go_wp2_with fail;go_meet;exact⟨by rw[ax HA0.out];rfl,rfl⟩
      ·have h0:((a:Int)==0)=false:=(by rw[gQ];omega);have HA0:=ae Km;clear Km;go_wp2_with fail;go_meet;exact⟨by rw[au HA0.out];rfl,rfl⟩
     case rest=>
     obtain⟨rfl,rfl⟩:=hcut;obtain⟨zb,hzb⟩: ∃z:UInt8,(if a=0 then 1 else 2)=z:=⟨_,rfl⟩
     rw[hzb];have HZB:=ae hzb;clear hzb;obtain⟨X3,tG⟩: ∃W,w9.alloc (.cells #[B8 zb] 5)=W:=⟨_,rfl⟩
     have TS:Own w9.heap.size X3 (.slice (some ⟨w9.heap.size,0,none⟩) 1 1) [zb]:=(by rw[<-tG];exact Own.lit w9 [zb] (aF _) ah);have ju:aq w9 X3:=(by rw[<-tG];exact az);have Q1:=ae tG;have Hz:=ae TS;have Jc:=ae ju;clear tG TS ju;go_wp2_with fail;rw[show w9.alloc (Obj.cells #[B8 zb] 5)=X3 from Q1.out];refine(xV _).mono ?_;rintro e x4 ⟨q4,rfl,hp4,jM⟩;obtain⟨E4,d4,rfl,_,_,hE4⟩:=hp4.read;have Tu:=ae (aQ Jc.out jM);have YI:=ae (Hz.below jM);have HE4:=ae hE4;clear hp4 jM hE4;go_upto_region 32 with(at_builtin;refine aj ?_ (.tmp 107) (.tmp 112) ?_ w9.heap.size x4 (.slice (some ⟨w9.heap.size,0,none⟩) 1 1) [zb] ?_ YI.out E4 T1 d4 ?_ HE4.out zN Tu.size ?_;rfl;rfl;rfl;rfl;intro v5 w5 gU ig;have HP5:=ae gU;have Mz:=ae (am Tu.out ig Tu.size (λg e=>(YI.ay g e).1));clear gU ig)
     go_upto_region 34 with(at_builtin;refine aj ?_ (.tmp 114) (.tmp 118) ?_ w9.heap.size w5 v5 ([zb]++T1) ?_ HP5.out (some ⟨bD,oD+a,none⟩) TT (k.cD-a) ?_ (Hn.2.2.below (UL.next Mz.out).below) O5 Mz.size ?_;rfl;rfl;rfl;rw[Hn.2.1];rfl;intro v6 w6 lf ot;have HP6:=ae lf;have HC6:=ae (am Mz.out ot Mz.size (λg e=>(HP5.ay g e).1));clear lf ot)
     have OK:Hid (fv k.D a b=([zb]++T1)++TT):=ae (by unfold fv;rw[amb.out,Hn.1,HZB.out];rfl);rw[<-afR.out];have⟨SO,hSO⟩:=ex (([zb]++T1)++TT);rw[hSO]at OK HP6;have YJ:Hid (L.length+SO.length<=140737488355328):=ae (by
      rw[<-OK.out,rI sW.1 sW.2];have:=HL.len;have:=gx.2.2.2;have:=sW.out;omega)
     obtain⟨A7,c7,rfl,_,_,D5⟩:=HP6.read;have afX:=ae D5;have YK:=ae (UL.next HC6.out);clear hSO D5;go_wp2_with (at_builtin;refine aj ?_ (.tmp 120) (.tmp 121) ?_ (w.heap.size+1) w6 u5 L ?_ YK.own A7 SO c7 ?_ afX.out YJ.out YK.lt ?_;rfl;rfl;rfl;rfl;intro v12 w12 KW KX;have KY:=ae (YK.grow KX KW);obtain⟨y0,y1,y2,y3,y4,y5,y6,y7,y8⟩:=xl.out w12 KY.opt;clear KW KX)
     have xB:a7 k a b s told=(SO,none,told):=(by rw[qq.out,ax jm.out,OK.out]);go_roundw;case rel=>exact⟨a+k.chunk.toNat,told,true,none,Yr,r2,P2,C2,sm,Y3,L++SO,rfl,rfl,rfl,by congr 1;have:=xL.out;omega,KY,ae (HL.next (av xL.out) VF.out yW.out xB (λh=>Bool.noConfusion h) (λ_=>rfl) (λh=>Bool.noConfusion h))⟩
     case measure=>have:=xL.out;have:=VF.out;simp[intOf];omega
    ·have h2i: ¬65536<(R.length:Int):=(by omega);have jm:Hid (¬(b-a+3<=O.length\/65536<R.length)):=ae aa;have YJ:Hid (L.length+O.length<=140737488355328):=ae (by
      have:=HL.len;have:=gx.2.2.2;have:=sW.out;omega)
     subst hv9;clear h1 h2 Lq;rw[<-afR.out];go_wp2_with (at_builtin;refine aj ?_ (.tmp 120) (.tmp 121) ?_ (w.heap.size+1) w9 u5 L ?_ UL.own A9 O c9 ?_ atj.out YJ.out UL.lt ?_;rfl;rfl;rfl;rfl;intro v12 w12 KW KX;have KY:=ae (UL.grow KX KW);obtain⟨y0,y1,y2,y3,y4,y5,y6,y7,y8⟩:=xl.out w12 KY.opt;clear KW KX)
     have xB:a7 k a b s told=(O,some (Yr,r2,P2),true):=(by rw[qq.out,au jm.out]);go_roundw;case rel=>exact⟨a+k.chunk.toNat,true,false,some (Yr,r2,P2),Yr,r2,P2,C2,sm,Y3,L++O,rfl,rfl,rfl,by congr 1;have:=xL.out;omega,KY,ae (HL.next (av xL.out) VF.out yW.out xB (λ_=>rfl) (λh=>Bool.noConfusion h) (λ_=>rfl))⟩
     case measure=>have:=xL.out;have:=VF.out;simp[intOf];omega
end Go.Proofs.YtfcaoggfnkhfiaaGreatDoor
