import Derived.Test.YtgfpocdiojifoaaGreatDoorZ18
import Derived.Deep.RegionHeld3
namespace Go.Proofs.YtgfpocdiojifoaaGreatDoor
set_option maxRecDepth 100000
set_option maxHeartbeats 8000000
open Go.RowKit Go.Proofs.Tryz
variable{bh told:Bool}{lc lp pb st:Int}{Y:List Nat}{L:List UInt8}{C N a base c h:Nat}{z:Nat×R4×(Nat→Nat)}{P:Nat→Nat}{r:R4}{v:Value}{w w' w2 wr:World}
structure zu(w:World)(C base N:Nat)(lc lp pb st:Int)(r:R4)(P:Nat→Nat)(Y:List Nat):Prop where
 ex: ∃(Pl:List Nat) (vR:Value) (gR gP dW:Nat),bW w C base lc lp pb st r Pl vR (.slice (some ⟨gP,0,none⟩) N dW)∧vR.ownBlock=some gR∧Pl.length=N∧(∀i,i<N→Pl[i]? =some (P i))∧Y=[C,gR,gP]
 fair: ∀i,1≤P i∧P i≤2047
theorem zu.below(h:zu w C base N lc lp pb st r P Y)(hb:Below w.heap.size w w'):zu w' C base N lc lp pb st r P Y:=by obtain⟨Pl,vR,gR,gP,dW,h1,h2⟩:=h.ex;exact⟨⟨Pl,vR,gR,gP,dW,h1.below hb,h2⟩,h.fair⟩
theorem zu.lt(h:zu w C base N lc lp pb st r P Y): ∀i∈Y,i<w.heap.size:=by
 obtain⟨Pl,vR,gR,gP,dW,h1,h2,h3,h4,rfl⟩:=h.ex;intro i hi;simp only[List.mem_cons,List.not_mem_nil,or_false]at hi;rcases hi with rfl | rfl | rfl;·exact(cr h1.box)
 ·exact(h1.fh.lt _ h2).2
 ·exact(h1.ps.lt _ rfl).2
theorem zu.re{o cap:Nat}{s:Rc.St}(hC:zu w C base N lc lp pb st r P Y)(hE:f8 w h o cap s):RE w C base h N lc lp pb st r (P,s) (Y++[h,o]):=by obtain⟨Pl,vR,gR,gP,dW,h1,h2,h3,h4,rfl⟩:=hC.ex;exact⟨⟨Pl,vR,gR,gP,dW,o,cap,h1,h2,hE,h3,h4,rfl⟩,hC.fair⟩
theorem RE.co{x:(Nat→Nat)×Rc.St}(hM:RE w C base h N lc lp pb st r x Y): ∃Y0 o cap,zu w C base N lc lp pb st r x.1 Y0∧f8 w h o cap x.2∧Y=Y0++[h,o]:=by obtain⟨Pl,vR,gR,gP,dW,o,cap,h1,h2,h3,h4,h5,rfl⟩:=hM.ex;exact⟨[C,gR,gP],o,cap,⟨⟨Pl,vR,gR,gP,dW,h1,h2,h4,h5,rfl⟩,hM.fair⟩,h3,rfl⟩
structure TrI(k:fG)(C base h N:Nat)(Y0:List Nat)(w8 wr:World)(st:Nat)(r:R4)(x:fu)(n:Nat):Prop where
 re: ∃Y,RE wr C base h N (k.lc:Nat) (k.lp:Nat) (k.pb:Nat) (st:Nat) r x Y∧ ∀i∈Y,i∈Y0∨w8.heap.size≤i
 only:az Y0 w8 wr
 st:st<12
 qo:dL r
 ok:(ah 0).ok x.2 n
def Ju(w:World)(k:fG)(C base N:Nat)(Y:List Nat)(res:List UInt8×(Nat×R4×(Nat→Nat)))(e:Ending)(w':World):Prop:=
 ∃v Y',e= .returned v∧Own w.heap.size w' v res.1∧zu w' C base N (k.lc:Nat) (k.lp:Nat) (k.pb:Nat) (res.2.1:Nat) res.2.2.1 res.2.2.2 Y'∧res.2.1<12∧dL res.2.2.1∧az Y w w'∧(∀i∈Y',i∈Y∨w.heap.size≤i)∧5≤res.1.length∧res.1.length+100≤140737488355328
theorem Jv(k:fG)(C base N:Nat)(um:Nat)(r1:R4)(P1:Nat→Nat)(Y:List Nat)(a b:Nat)(w:World)(hB:Bytes w k.A k.D)(hbY: ∀q,k.A=some q→q.block ∉ Y∧q.block<w.heap.size)(hc:k.D.length≤k.cD)(hl:k.D.length≤100000)(hd:1≤k.dict∧k.dict≤67108864)(hn:k.nice≤273)(ks:k.lc≤4)(wz:k.lp≤4)(yU:k.pb≤4)
  (hC:zu w C base N (k.lc:Nat) (k.lp:Nat) (k.pb:Nat) (um:Nat) r1 P1 Y) (bJ:um<12) (qQ:dL r1) (hN:N=2180+768*2^(k.lc+k.lp)) (pu:N≤1000000) (aT:base≤w.heap.size) (Aa:a<b) (fF:b≤k.D.length):
  Calls prog 55 #[.slice k.A k.D.length k.cD,.int .i64 (a:Nat),.int .i64 (b:Nat),wV (k.lc:Nat) (k.lp:Nat) (k.pb:Nat) k.nice k.chunk k.block k.check k.chain k.dict,PF C] w (Ju w k C base N Y (it k a b (um,r1,P1))):=by
 have⟨W,hW⟩:=ex (w.alloc (.cells #[.int .i64 (k.lc:Nat),.int .i64 (k.lp:Nat),.int .i64 (k.pb:Nat),.int .i64 k.nice,.int .i64 k.chunk,.int .i64 k.block,.int .i64 k.check,k.chain,.int .u32 (k.dict:Nat)] 26));obtain⟨aY,eO⟩:=ef (vs:=ip (k.lc:Nat) (k.lp:Nat) (k.pb:Nat) k.nice k.chunk k.block k.check k.chain k.dict) hW;have Xv:=hC.below eO;obtain⟨Pl,vR,gR,gP,dW,C9,oY,_⟩:=hC.ex;have aaQ:=C9.below eO;have Dd:Hid (∀w',Below W.heap.size W w'→w'.cell? ⟨w.heap.size,8,none⟩=some (.int .u32 (k.dict:Nat))∧w'.cell? ⟨w.heap.size,3,none⟩=some (.int .i64 k.nice)∧w'.cell? ⟨C,4,none⟩=some vR):=hdd (fun w' hb=>by
  have hr:=(hb.block _ (cr aY)).trans aY;exact⟨by rw[cell_of_row w' _ _ _ _ _ hr];rfl,by rw[cell_of_row w' _ _ _ _ _ hr];rfl,(aaQ.below hb).cells.2.1⟩)
 have L4:Hid (∀w',Below W.heap.size W w'→Calls prog 93 #[.slice k.A k.D.length k.cD,.int .i64 (a:Nat),.int .i64 (b:Nat),.int .i64 (k.dict:Nat),.int .i64 k.nice,vR] w' (AN (ba k.D (k.dict:Nat) k.nice b (b-a) a r1).1 w')):=hdd (fun w' hb=>by
  have zY:=aO eO hb;exact NM k.A k.D k.cD (k.dict:Nat) k.nice a b r1 vR base w' (hB.below zY) hc hl (Nat.le_of_lt Aa) fF aa hn (aaQ.below hb).fh (Nat.le_trans aT zY.size))
 have⟨LS,GI⟩:=ex (nX k a b r1);rw[show(ba k.D (k.dict:Nat) k.nice b (b-a) a r1).1=LS from GI]at L4;have yT:=hdd GI;have HW:=hdd hW;have dV:=hdd eO;have HC:=hdd Xv;have HYL:=hdd hC.lt;have iG:=hdd (And.intro hB (And.intro hbY (And.intro hc hl)));have HP:=hdd (And.intro ks (And.intro wz (And.intro yU (And.intro hN (And.intro pu aT)))));have HD:=hdd (And.intro Aa (And.intro fF (And.intro hd hn)));have HS:=hdd (And.intro bJ qQ);have G9:(k.dict:Int)≤67108864:=aa;have av4:IntKind.i64.wrap ((k.dict:Nat):Int)=((k.dict:Nat):Int):=IntWalk.i64_in _ aa;have TM:(k.D.length:Int)≤100000:=aa;clear aY hW eO Xv hC C9 aaQ oY GI hB hbY hc hl hd hn ks wz yU bJ qQ hN pu aT Aa fF;go_enter func55,ntmps55;go_upto_region 1 with fail;rw[HW.out];have bE:Below W.heap.size W W.drew:=⟨rfl,rfl,rfl,Nat.le_refl _,fun _ _=>rfl⟩
 refine wp_region_held_drew (S:=fun w'=>Below W.heap.size W w') ak bE (fun hS=> ?_);refine af 0 hS (h:=af 1 hS (h:=af 2 hS (h:=af 3 hS (h:=bq 4 Dd.out hS (h:=af 5 hS (h:=af 6 hS (h:=bq 7 Dd.out hS (h:=af 8 hS (h:=af 9 hS (h:=af 10 hS (h:=bq 11 Dd.out hS (h:= ?_))))))))))));refine aG 12 (fun K hK=> ?_);go_simp;refine(L4.out _ bE).mono ?_;rintro e Vw ⟨v12,C12,rfl,wH,xZ⟩;have g12:=aO bE xZ;have Jw:=hdd g12;have To:=hdd (wH.weaken bE.size);clear xZ wH;go_wp2_with fail;refine hK.out _ _ g12 (fun _=> ?_);clear hK K;refine af 13 g12 (h:=af 14 g12 (h:=af 15 g12 (h:=af 16 g12 (h:=af 17 g12 (h:= ?_)))));refine wpAnyH_done ak ?_ _;obtain⟨AL,cL,J',M',hmL,bx⟩:=To.out.form;subst J';have N':0<LS.length:=by rw[←yT.out];unfold nX;rw[gJ HD.out.1];simp
 obtain⟨gS,hAL,hgS,_,_,_,_,_⟩:=bx 0 N';subst hAL;have Q4:W.heap.size≤gS:=(To.out.lt gS rfl).1;have NU:Hid (∀n (hn:n<LS.length) (w':World),w'.heap[gS]? =Vw.heap[gS]? →w'.cell? ⟨gS,5*n,none⟩=some (.int .i64 (LS[n].k:Nat))∧w'.cell? ⟨gS,5*n+1,none⟩=some (.int .u8 (LS[n].b.toNat:Nat))∧w'.cell? ⟨gS,5*n+2,none⟩=some (.int .i64 (LS[n].l:Nat))∧w'.cell? ⟨gS,5*n+3,none⟩=some (.int .i64 (LS[n].d:Nat))∧w'.cell? ⟨gS,5*n+4,none⟩=some (.int .i64 (LS[n].r:Nat))):=hdd (fun n hn w' hW=>by
  obtain⟨g',e',_,c0,c1,c2,c3,c4⟩:=bx n hn;injection e' with e';injection e' with e' _ _;subst e';exact⟨(World.cell?_of_block (a:=⟨gS,_,none⟩) hW).trans c0,(World.cell?_of_block (a:=⟨gS,_,none⟩) hW).trans c1,(World.cell?_of_block (a:=⟨gS,_,none⟩) hW).trans c2,(World.cell?_of_block (a:=⟨gS,_,none⟩) hW).trans c3,(World.cell?_of_block (a:=⟨gS,_,none⟩) hW).trans c4⟩)
 have TK:Hid (W.heap.size≤gS∧gS<Vw.heap.size):=hdd ⟨Q4,hgS⟩;have ak6:(LS.length:Int)≤(cL:Int):=aa;have ak7:(LS.length:Int)≤9223372036854775807:=aa;clear hS g12 bE M' hmL bx hgS Q4;go_upto_region 4 with(refine(QN _).mono ?_;rintro e w8 ⟨h,oE,aeF,rfl,hE8,qW,hh8,sa⟩;have HE8:=hdd hE8;have pf:=hdd qW;have Of:=hdd (And.intro hh8 sa);clear hE8 qW hh8 sa)
 have HI8:Hid (TrI k C base h N (Y++[h,oE]) w8 w8 um r1 (P1,zy) (82*(b-a)+100)):=hdd ⟨⟨_,(HC.out.below (aO Jw.out pf.out)).re HE8.out,fun i hi=> .inl hi⟩,az.refl _ _,HS.out.1,HS.out.2,⟨OI,by have:=HD.out;have:=iG.out.2.2.2;show 1+0+2*_≤_;omega⟩⟩;go_wp2_with fail;go_loopw [14,15] (fun pv iv wr=> ∃(i pl st:Nat) (r:R4) (x:fu),pv= .int .i64 (pl:Nat)∧iv= .int .i64 (i:Nat)∧Hid (TrI k C base h N (Y++[h,oE]) w8 wr st r x (82*(b-pl)+100))∧Hid (LS.drop i=(ba k.D (k.dict:Nat) k.nice b (b-pl) pl r).1∧eX k.lc k.lp k.pb k.D LS a (um,r1,(P1,zy))=eX k.lc k.lp k.pb k.D (LS.drop i) pl (st,r,x))∧i≤LS.length∧pl≤b) (fun _ iv _=>LS.length-(intOf iv).toNat);case atStart=>exact⟨0,a,um,r1,(P1,zy),rfl,rfl,HI8,hdd ⟨by rw[←yT.out];rfl,rfl⟩,Nat.zero_le _,Nat.le_of_lt HD.out.1⟩
 case round=>
  obtain⟨i,pl,st,r,x,rfl,rfl,HI,HL,hi,O'⟩:=hrel;by_cases aF:i<LS.length;case neg=>
   have tr: ¬(i:Int)<(LS.length:Int):=aa;have Q5:LS.drop i=[]:=List.drop_eq_nil_of_le aa;have Og:Hid (eX k.lc k.lp k.pb k.D LS a (um,r1,(P1,zy))=(st,r,x)):=hdd (by rw[HL.out.2,Q5];rfl);obtain⟨Y1,hRE,yG⟩:=HI.out.re;obtain⟨Y2,oF,ane,hco,ZC,rfl⟩:=hRE.co;have HKE:Hid (x.2.v<256^(4+x.2.k)∧4+x.2.k+1≤140737488355328∧105+x.2.k≤140737488355328):=hdd (by
    obtain⟨⟨⟨h1,h2⟩,h3⟩,h4⟩:=HI.out.ok;refine⟨?_,aa,aa⟩;have:x.2.v+x.2.r≤256^(4+x.2.k):=h1;omega)
   have anf:=hdd (Jt h oF ane x.2 wr ZC HKE.out.1 HKE.out.2.1);have Om:=hdd hco;have Pv:=hdd yG;clear aF Q5 hRE yG hco ZC hi;go_wp2_with fail;refine anf.out.mono ?_;rintro e w9 ⟨v9,rfl,Aj,vr⟩;go_wp2_with fail;go_ret;have zz:it k a b (um,r1,P1)=(Rc.be (5+x.2.k) x.2.v,(st,r,x.1)):=(by unfold it;rw[yT.out];show(Rc.be (5+(eX k.lc k.lp k.pb k.D LS a (um,r1,(P1,zy))).2.2.2.k) _,_)=_;rw[Og.out]);rw[zz];have Jy:Below w.heap.size w w8:=dV.out.trans ((aO Jw.out pf.out).mono dV.out.size);have bU:az Y w wr:=by
    refine(az.br Jy).trans HI.out.only (fun j hj=> ?_);rcases List.mem_append.1 hj with hj | hj;·exact .inl hj
    ·right;have h1:=Of.out;have h2:=Jw.out.size;have h3:=dV.out.size;simp only[List.mem_cons,List.not_mem_nil,or_false]at hj;rcases hj with rfl | rfl<;>omega
   refine⟨v9,Y2,rfl,Aj.weaken bU.size,Om.out.below vr,HI.out.st,HI.out.qo,bU.trans (az.br vr) (fun j hj=> .inl hj),fun j hj=> ?_,Bf,by rw[Rc.fH];have:=HKE.out.2.2;omega⟩;rcases Pv.out j (by simp[hj])with h1 | h1
   ·rcases List.mem_append.1 h1 with h1 | h1;·exact .inl h1
    ·right;have h3:=Of.out;have h2:=Jw.out.size;have h4:=dV.out.size;simp only[List.mem_cons,List.not_mem_nil,or_false]at h1;rcases h1 with rfl | rfl<;>omega
   ·exact .inr (Nat.le_trans Jy.size h1)
  case pos=>
   have tr:(i:Int)<(LS.length:Int):=aa;have Cb:pl<b:=by
    by_cases h:pl<b;·exact h
    ·have h1:=HL.out.1;rw[mB h]at h1;have h2:(LS.drop i).length=0:=(by rw[h1];rfl);rw[List.length_drop]at h2;omega
   have⟨S,hS⟩:=ex (fe k.D (k.dict:Nat) k.nice b pl r);have bJ:=(kb (D:=k.D) (dict:=(k.dict:Nat)) (nice:=k.nice) (r:=r) Cb HD.out.2.1 iG.out.2.2.2 (ar HD.out) HD.out.2.2.2)
   have Hg:=BW (D:=k.D) (dict:=(k.dict:Nat)) (nice:=k.nice) (r:=r) Cb;have oa:=gJ (D:=k.D) (dict:=(k.dict:Nat)) (nice:=k.nice) (r:=r) Cb;rw[hS]at bJ Hg oa;have Dm:LS.drop i=S::(ba k.D (k.dict:Nat) k.nice b (b-(pl+max S.l 1)) (pl+max S.l 1) (du S r)).1:=(by rw[HL.out.1,oa]);have zv:=List.drop_eq_getElem_cons aF;have XV:LS[i]=S:=uU;have gI:LS.drop (i+1)=(ba k.D (k.dict:Nat) k.nice b (b-(pl+max S.l 1)) (pl+max S.l 1) (du S r)).1:=uU;have mi:(k.D.take pl).length=pl:=(by rw[List.length_take];have:=HD.out;omega);have bt:=bJ.fits;obtain⟨sl1,sl2⟩:=yx bJ;obtain⟨s',st',r',Z,L8,JZ,agr,_,Cq⟩:=Q3 (g:=0) (lc:=k.lc) (lp:=k.lp) (pb:=k.pb) (st:=st) (r:=r) (x:=x) (H:=k.D.take pl) (k:=(S.k:Nat)) (b:=S.b) (l:=(S.l:Nat)) (d:=(S.d:Nat)) (q:=(S.r:Nat)) HP.out.1 HP.out.2.1 HP.out.2.2.1 HI.out.st HI.out.qo (by rw[mi];have:=iG.out.2.2.2;have:=HD.out;omega) (by rw[mi];exact bt);have oP:r'=du S r:=JZ.trans (jw S bJ.k r);have ags:st'<12:=(by have h:=p8 (st:=(st:Nat)) (k:=(S.k:Nat)) (l:=(S.l:Nat)) aa (ar HI.out.st);rw[←agr]at h;omega);have agt:dL r':=by
    rw[JZ];have hf:=kM bt;by_cases gh:S.k=1;·exact uw HI.out.qo aa (fun _=>aa)
    ·rw[show cT r (S.k:Nat) (S.d:Nat) (S.r:Nat)=cT r (S.k:Nat) (0:Nat) (S.r:Nat)from by unfold cT;simp only[show ¬(((S.k:Nat):Int)=1) by omega,if_false]];exact uw HI.out.qo an (fun h=>absurd h gh)
   have⟨M,hM⟩:=ex (max S.l 1);rw[hM]at Hg gI;have Og:Hid (eX k.lc k.lp k.pb k.D LS a (um,r1,(P1,zy))=eX k.lc k.lp k.pb k.D (LS.drop (i+1)) (pl+M) (st',r',Z)):=hdd (by
    rw[HL.out.2,zv,XV,←hM];show eX k.lc k.lp k.pb k.D (LS.drop (i+1)) (pl+max S.l 1) ((Md.sym (ah 0) k.lc k.lp k.pb st r (k.D.take pl) (S.k:Nat) S.b (S.l:Nat) (S.d:Nat) (S.r:Nat) x).2)=_;rw[L8];rfl)
   have qX:Hid (LS.drop (i+1)=(ba k.D (k.dict:Nat) k.nice b (b-(pl+M)) (pl+M) r').1):=hdd (by rw[gI,oP]);have aeI:(pl:Int)≤100000:=(by have:=iG.out.2.2.2;have:=HD.out;omega);have sQ:(S.l:Int)≤273:=ar bJ.short;obtain⟨Y1,hRE,yG⟩:=HI.out.re;have Cc:Vw.heap.size≤w8.heap.size:=pf.out.size;have Jy:Below w.heap.size w w8:=dV.out.trans ((aO Jw.out pf.out).mono dV.out.size);have hgY: ∀j∈Y++[h,oE],j≠gS∧(j∈Y∨Vw.heap.size≤j):=fun j hj=>by
    rcases List.mem_append.1 hj with hj | hj;·have h1:=HYL.out j hj;have h2:=TK.out;have h3:=dV.out.size;exact⟨aa,.inl hj⟩
    ·have h1:=Of.out;have h2:=TK.out;simp only[List.mem_cons,List.not_mem_nil,or_false]at hj;rcases hj with rfl | rfl;·exact⟨aa,.inr h1.1⟩
     ·exact⟨aa,.inr h1.2⟩
   have agu: ∀j∈Y1,j≠gS:=fun j hj=>by
    rcases yG j hj with h1 | h1;·exact(hgY j h1).1
    ·have h2:=TK.out;omega
   have Q6:wr.heap[gS]? =Vw.heap[gS]? :=(by refine(HI.out.only.block gS (Nat.lt_of_lt_of_le TK.out.2 Cc) (fun hj=>(hgY gS hj).1 rfl)).trans (pf.out.block gS TK.out.2));have hqs:=NU.out i aF wr Q6;rw[XV,Nat.mul_comm 5 i]at hqs;have hDr:Bytes wr k.A k.D:=by
    refine(iG.out.1.below Jy).only HI.out.only (fun q hq hj=> ?_);have h1:=iG.out.2.1 q hq;rcases List.mem_append.1 hj with hj | hj;·exact h1.1 hj
    ·have h2:=Of.out;have h3:=Jw.out.size;have h4:=dV.out.size;simp only[List.mem_cons,List.not_mem_nil,or_false]at hj;rcases hj with hj | hj<;>omega
   have Hy:Hid (∀w',Below wr.heap.size wr w'→Calls prog 95 #[PF C,PF h,.slice k.A pl k.cD,j2 (S.k:Nat) S.b (S.l:Nat) (S.d:Nat) (S.r:Nat)] w' (mm ((ah 0).ok Z.2 (82*(b-(pl+M))+100)) (jF (.tuple #[]) C base h N (k.lc:Nat) (k.lp:Nat) (k.pb:Nat) (st':Nat) r' Z Y1 w'))):=hdd (fun w' hW=>by
    have hp:=Cq C base h N Y1 w' (82*(b-(pl+M))+100) k.A k.cD (hRE.below hW) (Nat.le_trans HP.out.2.2.2.2.2 (Nat.le_trans Jy.size (Nat.le_trans HI.out.only.size hW.size))) HP.out.2.2.2.1 HP.out.2.2.2.2.1 ((ah 0).le HI.out.ok aa) ((hDr.below hW).take pl) (fun q hq hj=>by
     have h1:=iG.out.2.1 q hq;rcases yG _ hj with h2 | h2
     ·rcases(hgY _ h2).2 with h3 | h3;·exact h1.1 h3
      ·have:=Jw.out.size;have:=dV.out.size;omega
     ·have:=Jy.size;omega) (by rw[mi];have:=iG.out.2.2.1;have:=HD.out;omega)
    rw[mi]at hp;exact hp)
   have Bx:Hid (∀w':World,cj C base h N (k.lc:Nat) (k.lp:Nat) (k.pb:Nat) (st':Nat) r' Z Y1 wr.drew w'→w'.cell? ⟨gS,i*5,none⟩=some (.int .i64 (S.k:Nat))∧w'.cell? ⟨gS,i*5+1,none⟩=some (.int .u8 (S.b.toNat:Nat))∧w'.cell? ⟨gS,i*5+2,none⟩=some (.int .i64 (S.l:Nat))∧w'.cell? ⟨gS,i*5+3,none⟩=some (.int .i64 (S.d:Nat))∧w'.cell? ⟨gS,i*5+4,none⟩=some (.int .i64 (S.r:Nat))):=hdd (fun w' hw=>by
    obtain⟨_,_,bU,_⟩:=hw;have iV:w'.heap[gS]? =Vw.heap[gS]? :=(bU.block gS (Nat.lt_of_lt_of_le TK.out.2 (Nat.le_trans Cc HI.out.only.size)) (fun hj=>agu gS hj rfl)).trans Q6;have mq:=NU.out i aF w' iV;rw[XV,Nat.mul_comm 5 i]at mq;exact mq)
   have HT:=hdd (And.intro aF (And.intro Hg (And.intro sl1 sl2)));have HSS:=hdd (And.intro ags (And.intro agt hM));have HYY:=hdd yG;have Qv:(pl:Int)≤(k.D.length:Int):=ar HD.out;have hpc:(pl:Int)≤(k.cD:Int):=(by have:=HD.out;have:=iG.out.2.2.1;omega);have hdc:(k.D.length:Int)≤(k.cD:Int):=ar iG.out.2.2.1;clear hS bJ Hg oa Dm zv XV gI mi bt L8 JZ agr Cq oP ags agt hM hRE yG Cc Jy hgY agu Q6 hDr aF O' hi Cb sl1 sl2;go_upto_region 7 with fail;have bE:Below wr.heap.size wr wr.drew:=⟨rfl,rfl,rfl,Nat.le_refl _,fun _ _=>rfl⟩
   refine wp_region_held_drew (S:=fun w2=>w2.cell? ⟨gS,i*5,none⟩=some (.int .i64 (S.k:Nat))∧w2.cell? ⟨gS,i*5+1,none⟩=some (.int .u8 (S.b.toNat:Nat))∧w2.cell? ⟨gS,i*5+2,none⟩=some (.int .i64 (S.l:Nat))∧w2.cell? ⟨gS,i*5+3,none⟩=some (.int .i64 (S.d:Nat))∧w2.cell? ⟨gS,i*5+4,none⟩=some (.int .i64 (S.r:Nat))) ak hqs (fun hS=> ?_);refine af 0 hS (h:=af 1 hS (h:=af 2 hS (h:=af 3 hS (h:=af 4 hS (h:=af 5 hS (h:=af 6 hS (h:=af 7 hS (h:=aZ 8 hS (h:= ?_)))))))));refine aG 9 (fun K hK=> ?_);go_simp;refine(Hy.out _ bE).mono ?_;rintro e x9 ⟨⟨rfl,EO⟩,hQ⟩;have HWE:=hdd EO;have HQQ:=hdd hQ;clear EO hQ;have g9:=Bx.out _ HWE.out;go_wp2_with fail;refine hK.out _ _ g9 (fun _=> ?_);clear hK K;refine wpAnyH_done ak ?_ _;obtain⟨q0,_,q2,_,_⟩:=g9;have HI2:Hid (TrI k C base h N (Y++[h,oE]) w8 x9 st' r' Z (82*(b-(pl+M))+100)):=hdd (by
    obtain⟨Y2,ang,cC,rY⟩:=HWE.out;have anh:w8.heap.size≤wr.heap.size:=HI.out.only.size;refine⟨⟨Y2,ang,fun j hj=> ?_⟩,?_,HSS.out.1,HSS.out.2.1,HQQ.out⟩
    ·rcases rY j hj with h1 | h1;·exact HYY.out j h1
     ·exact .inr (Nat.le_trans anh h1)
    ·exact HI.out.only.trans ((az.br (⟨rfl,rfl,rfl,Nat.le_refl _,fun _ _=>rfl⟩:Below wr.heap.size wr wr.drew)).trans cC (fun j hj=> .inl hj)) HYY.out)
   by_cases hk:S.k=0;·have BI:((S.k:Int)==0)=true:=(by rw[beq_iff_eq];omega);have HE:Hid (pl+M=pl+1∧S.l=0):=hdd (by have:=HT.out.2.2.1 hk;have:=HSS.out.2.2;omega);clear hk;go_wp2_with fail;exact⟨⟨i+1,pl+M,st',r',Z,vd,rfl,HI2,hdd ⟨qX.out,Og.out⟩,HT.out.1,HT.out.2.1⟩,by have:=HT.out.1;simp[intOf];omega⟩
   ·have BI:((S.k:Int)==0)=false:=(by rw[beq_eq_false_iff_ne];omega);have HE:Hid (pl+M=pl+S.l):=hdd (by have:=HT.out.2.2.2 hk;have:=HSS.out.2.2;omega);clear hk;go_wp2_with fail;exact⟨⟨i+1,pl+M,st',r',Z,vd,rfl,HI2,hdd ⟨qX.out,Og.out⟩,HT.out.1,HT.out.2.1⟩,by have:=HT.out.1;simp[intOf];omega⟩
theorem zu.rows(h:zu w C base N lc lp pb st r P Y): ∀j∈Y,∃cs t x,w.heap[j]? =some (.cells cs t x)∧t≠5:=by
 obtain⟨Pl,vR,gR,gP,dW,h1,h2,h3,h4,rfl⟩:=h.ex;intro j hj;simp only[List.mem_cons,List.not_mem_nil,or_false]at hj;rcases hj with rfl | rfl | rfl;·exact⟨_,_,_,h1.box,an⟩
 ·obtain⟨cs,x,hc⟩:=h1.fh.aaP h2;exact⟨_,_,_,hc,an⟩
 ·obtain⟨cs,x,hc⟩:=h1.ps.aaP rfl;exact⟨_,_,_,hc,an⟩
theorem zu.out(h:zu w C base N lc lp pb st r P Y){b2:Nat}{l:List UInt8}(ho:Own b2 w v l): ∀g,v.ownBlock=some g→g ∉ Y:=fun g hg hy=>by obtain⟨cs,t,x,hc,ht⟩:=h.rows g hy;exact ho.ne hc ht hg
theorem zu.grown(h:zu w C base N lc lp pb st r P Y)(hg:w.grownBy w' v.ownBlock)(hn: ∀g,v.ownBlock=some g→g ∉ Y):zu w' C base N lc lp pb st r P Y:=by
 obtain⟨Pl,vR,gR,gP,dW,h1,h2,h3,h4,rfl⟩:=h.ex;refine⟨⟨Pl,vR,gR,gP,dW,⟨(hg.block C (cr h1.box) (fun e=>hn C e.symm ae)).trans h1.box,h1.fh.grown hg (fun g e1 e2=>hn g e2 ?_),h1.ps.grown hg (fun g e1 e2=>hn g e2 ?_)⟩,h2,h3,h4,rfl⟩,h.fair⟩;·rw[h2]at e1;injection e1 with e1;subst e1;simp
 ·have e1:gP=g:=by simpa [Value.ownBlock]using e1
  subst e1;simp
theorem WQ{w0:World}{lc lp pb:Nat}{vR vP:Value}(hC:bW w C w0.heap.size lc lp pb 0 (1,1,1,1) (List.replicate (2180+768*2^(lc+lp)) 1024) vR vP)(hb:w0.heap.size≤C):
  ∃Y,zu w C w0.heap.size (2180+768*2^(lc+lp)) (lc:Nat) (lp:Nat) (pb:Nat) ((0:Nat):Int) (1,1,1,1) (fun _=>1024) Y∧ ∀i∈Y,w0.heap.size≤i:=by
 obtain⟨gR,aej,eR,oY,_⟩:=hC.fh.bK (show 0<4 by decide);have hlen:((List.replicate (2180+768*2^(lc+lp)) 1024).map fun x:Nat=>Value.int .u16 (x:Nat)).length=2180+768*2^(lc+lp):=ae;obtain⟨gP,dW,eP,hgP,_⟩:=hC.ps.bK (by rw[hlen];omega);rw[hlen]at eP;subst eP;refine⟨[C,gR,gP],⟨⟨_,vR,gR,gP,dW,hC,by rw[eR];rfl,ae,fun i hi=> ?_,rfl⟩,fun i=>⟨show 1≤1024 by decide,show 1024≤2047 by decide⟩⟩,?_⟩;·rw[List.getElem?_replicate,if_pos hi]
 ·intro i hi;simp only[List.mem_cons,List.not_mem_nil,or_false]at hi;rcases hi with rfl | rfl | rfl<;>assumption
def Yx(k:fG)(w wr:World):Prop:=wr.heap[w.heap.size]? =some (.cells (ip (k.lc:Nat) (k.lp:Nat) (k.pb:Nat) k.nice k.chunk k.block k.check k.chain k.dict).toArray 26 (0,0))
structure F7(k:fG)(N:Nat)(w wr:World)(C base:Nat)(st:Nat)(r:R4)(P:Nat→Nat)(Y:List Nat)(v:Value)(L:List UInt8):Prop where
 opt:Yx k w wr
 F4:zu wr C base N (k.lc:Nat) (k.lp:Nat) (k.pb:Nat) (st:Nat) r P Y
 off: ∀i∈Y,w.heap.size+1≤i
 base:base≤wr.heap.size
 st:st<12
 qo:dL r
 own:Own (w.heap.size+1) wr v L
 below:Below w.heap.size w wr
theorem F7.lt{k:fG}{st:Nat}(h:F7 k N w wr C base st r P Y v L):w.heap.size+1≤wr.heap.size:=(cr h.opt)
theorem F7.step{k:fG}{st:Nat}(h:F7 k N w wr C base st r P Y v L){C2 oA SR:Nat}{r2:R4}{P2:Nat→Nat}{Y2:List Nat}(bU:az Y wr w2)(hc:zu w2 C2 oA N (k.lc:Nat) (k.lp:Nat) (k.pb:Nat) (SR:Nat) r2 P2 Y2)(hY: ∀i∈Y2,i∈Y∨wr.heap.size≤i)(hb:oA≤w2.heap.size)(hs:SR<12)(hg:dL r2):F7 k N w w2 C2 oA SR r2 P2 Y2 v L:=by
 have aF:=h.lt;refine⟨(bU.block _ aF (fun hi=>ar (h.off _ hi))).trans h.opt,hc,fun i hi=> ?_,hb,hs,hg,h.own.xF (fun g wT=>bU.block g (h.own.aw g wT).2 (h.F4.out h.own g wT)),h.below.trans (bU.below h.below.size (fun i hi=>ar (h.off i hi)))⟩;rcases hY i hi with h1 | h1;·exact h.off i h1
 ·omega
theorem F7.next{k:fG}{st:Nat}(h:F7 k N w wr C base st r P Y v L)(hb:Below wr.heap.size wr w2):F7 k N w w2 C base st r P Y v L:=by have aF:=h.lt;exact⟨(hb.block _ aF).trans h.opt,h.F4.below hb,h.off,Nat.le_trans h.base hb.size,h.st,h.qo,h.own.below hb,h.below.trans (hb.mono aa)⟩
theorem F7.grow{k:fG}{st:Nat}{v2:Value}{L2:List UInt8}(h:F7 k N w wr C base st r P Y v L)(hg:wr.grownBy w2 v.ownBlock)(ho:Own (w.heap.size+1) w2 v2 L2):F7 k N w w2 C base st r P Y v2 L2:=by have aF:=h.lt;refine⟨(hg.block _ aF (fun e=>h.own.ne h.opt an e.symm)).trans h.opt,h.F4.grown hg (h.F4.out h.own),h.off,Nat.le_trans h.base hg.size,h.st,h.qo,ho,am h.below hg h.below.size (fun g e=> ?_)⟩;have:=(h.own.aw g e).1;omega
structure WR(k:fG)(c a:Nat)(told bh:Bool)(s:eK)(z:Nat×R4×(Nat→Nat))(L:List UInt8):Prop where
 len:L.length≤4*min a k.D.length
 go:(bG k (dF k.D.length c 0) (none,false)).1=L++(bG k (dF k.D.length c a) (s,told)).1
 is:bh=false→z=gL s
 no:bh=true→s=none
 yes:bh=false→0<a→s.isSome=true
theorem WR.ctl{k:fG}{s:eK}(h:WR k c a told bh s z L):(if a=0 then 224 else if told=true then(if bh=true then 160 else 128)else 192)=rW a told s:=by
 unfold rW;by_cases ha:a=0;·rw[if_pos ha,if_pos ha]
 ·rw[if_neg ha,if_neg ha];cases told with
  | false=>rfl
  | true=>
   cases bh with
   | true=>rw[h.no rfl];rfl
   | false=>
    have h1:=h.yes rfl aa;cases s with
    | none=>cases h1
    | some s=>rfl
theorem WR.next{k:fG}{b:Nat}{s:eK}(h:WR k c a told bh s z L)(hc:1≤c)(ha:a<k.D.length)(hb:min (a+c) k.D.length=b){R:List UInt8}{s2:eK}{Yy bh2:Bool}{z2:Nat×R4×(Nat→Nat)}(hR:aK k a b s told=(R,s2,Yy))(h1:bh2=false→z2=gL s2)(h2:bh2=true→s2=none)(h3:bh2=false→s2.isSome=true):WR k c (a+c) Yy bh2 s2 z2 (L++R):=by have hl:=kQ (k:=k) (a:=a) (b:=b) (s:=s) (had:=told) aa aa;rw[hR]at hl;have hl:R.length≤b-a+3:=hl;have h4:=h.len;refine⟨by rw[List.length_append];omega,?_,h1,h2,fun e _=>h3 e⟩;rw[h.go,jf hc ha,hb];show L++((aK k a b s told).1++(bG k (dF k.D.length c (a+c)) (aK k a b s told).2).1)=_;rw[hR,List.append_assoc]
theorem WR.start(k:fG)(c:Nat):WR k c 0 false false none BY []:=⟨Nat.zero_le _,by rw[List.nil_append],fun _=>rfl,(fun h=>Bool.noConfusion h),fun _ h=>absurd h an⟩
def ani(k:fG)(N:Nat)(w:World)(e:Ending)(w':World):Prop:= ∃C Y,e= .returned (PF C)∧zu w' C w.heap.size N (k.lc:Nat) (k.lp:Nat) (k.pb:Nat) ((0:Nat):Int) (1,1,1,1) (fun _=>1024) Y∧(∀i∈Y,w.heap.size≤i)∧Below w.heap.size w w'
theorem Jz(k:fG)(o:Value)(w:World)(ho:PkO k o)(hB:Bytes w k.A k.D)(hc:k.D.length≤k.cD)(hl:k.D.length≤100000):
  Calls prog 27 #[.slice k.A k.D.length k.cD,o] w (li w (m8 k)):=by
 rw[ho.val];have⟨N,hN⟩:=ex (2180+768*2^(k.lc+k.lp));have HN:Hid (N=2180+768*2^(k.lc+k.lp)∧N≤1000000):=hdd ⟨hN.symm,by
  rw[←hN];have:2^(k.lc+k.lp)≤2^4:=Nat.pow_le_pow_right aa ho.EL;omega⟩
 have L3:Hid (∀w':World,Calls prog 54 #[.int .i64 (k.lc:Nat),.int .i64 (k.lp:Nat),.int .i64 (k.pb:Nat)] w' (ani k N w')):=hdd (fun w'=>by
  refine(PQ k.lc k.lp k.pb (ar ho.EL) w').mono ?_;rintro e w2 ⟨C,vR,vP,rfl,hC,hb,hCb⟩;obtain⟨Y,h1,h2⟩:=WQ hC hCb;rw[hN]at h1;exact⟨C,Y,rfl,h1,h2,hb⟩)
 have⟨W,hW⟩:=ex (w.alloc (.cells #[.int .i64 (k.lc:Nat),.int .i64 (k.lp:Nat),.int .i64 (k.pb:Nat),.int .i64 k.nice,.int .i64 k.chunk,.int .i64 k.block,.int .i64 k.check,k.chain,.int .u32 (k.dict:Nat)] 26));obtain⟨aY,eO⟩:=ef (vs:=ip (k.lc:Nat) (k.lp:Nat) (k.pb:Nat) k.nice k.chunk k.block k.check k.chain k.dict) hW;have Dd:Hid (∀W':World,Yx k w W'→W'.cell? ⟨w.heap.size,0,none⟩=some (.int .i64 (k.lc:Nat))∧W'.cell? ⟨w.heap.size,1,none⟩=some (.int .i64 (k.lp:Nat))∧W'.cell? ⟨w.heap.size,2,none⟩=some (.int .i64 (k.pb:Nat))∧W'.cell? ⟨w.heap.size,3,none⟩=some (.int .i64 k.nice)∧W'.cell? ⟨w.heap.size,4,none⟩=some (.int .i64 k.chunk)∧W'.cell? ⟨w.heap.size,5,none⟩=some (.int .i64 k.block)∧W'.cell? ⟨w.heap.size,6,none⟩=some (.int .i64 k.check)∧W'.cell? ⟨w.heap.size,7,none⟩=some k.chain∧W'.cell? ⟨w.heap.size,8,none⟩=some (.int .u32 (k.dict:Nat))):=hdd (fun W' r=>by
  refine⟨?_,?_,?_,?_,?_,?_,?_,?_,?_⟩<;>(rw[cell_of_row W' _ _ _ _ _ r];rfl))
 obtain⟨y0,y1,y2,y3,y4,y5,y6,y7,y8⟩:=Dd.out W aY;have HW:=hdd hW;have dV:=hdd eO;have ng:=hdd aY;have hA:0<k.D.length→ ∀a,k.A=some a→a.block<w.heap.size:=fun h0 a ha=>by obtain⟨b,off,e,hb,_⟩:=hB.addr h0;rw[e]at ha;injection ha with ha;rw[←ha];exact hb
 have iG:=hdd (And.intro hB (And.intro hA (And.intro hc hl)));have HO:=hdd ho;have C1:=hdd ho.chunk;have av6:1≤k.chunk:=ho.chunk.1;have av7:k.chunk≤65536:=ho.chunk.2;have TM:(k.D.length:Int)≤100000:=aa;have adi:(k.lc:Int)≤4:=ar ho.lc;have adj:(k.lp:Int)≤4:=ar ho.lp;have av8:(k.pb:Int)≤4:=ar ho.pb;clear hN hW eO aY hB hA hc hl ho;go_enter func27,ntmps27;go_upto_region 1 with fail;rw[HW.out];go_wp2_with fail;refine(L3.out _).mono ?_;rintro e x1 ⟨C0,Y0,rfl,uB,hY0,eH⟩;have HQ0:Hid (F7 k N w x1 C0 W.heap.size 0 (1,1,1,1) (fun _=>1024) Y0 (.slice none 0 0) []):=hdd (by
  have hs:=(cr ng.out)
  exact⟨(eH.block _ hs).trans ng.out,uB,fun i hi=>ar (hY0 i hi),eH.size,an,by unfold dL;decide,Own.nil _ _,aO dV.out eH⟩)
 clear uB hY0 eH y0 y1 y2 y3 y4 y5 y6 y7 y8;go_wp2_with fail;go_loopw [5,6,7,8,9] (fun s5 s6 s7 s8 s9 wr=> ∃(a:Nat) (told bh:Bool) (s:eK) (st:Nat) (r:R4) (P:Nat→Nat) (C base:Nat) (Y:List Nat) (L:List UInt8),s6=PF C∧s7= .bool told∧s8= .bool bh∧s9= .int .i64 (a:Nat)∧Hid (F7 k N w wr C base st r P Y s5 L)∧Hid (WR k k.chunk.toNat a told bh s (st,r,P) L)) (fun _ _ _ _ s9 _=>k.D.length-(intOf s9).toNat);case atStart=>exact⟨0,false,false,none,0,(1,1,1,1),fun _=>1024,C0,_,Y0,[],rfl,rfl,rfl,rfl,HQ0,hdd (WR.start k _)⟩
 case round=>
  obtain⟨a,told,bh,s,st,r,P,C,base,Y,L,rfl,rfl,rfl,rfl,HQ,HL⟩:=hrel;by_cases aF:a<k.D.length;case neg=>
   have tr: ¬(a:Int)<(k.D.length:Int):=aa;have HPB:Hid (m8 k=L++[0]):=hdd (by unfold m8;rw[HL.out.go,fw aF];simp[bG]);have yJ:Hid (L.length+1≤140737488355328):=hdd (by have:=HL.out.len;have:=iG.out.2.2.2;omega);have⟨W5,TL⟩:=ex (wr.alloc (.cells #[.int .u8 0] 5));have fj:Below wr.heap.size wr W5:=(by rw[←TL];exact ap);have YV:Hid (Bytes W5 (some ⟨wr.heap.size,0,none⟩) [0]):=hdd (by rw[←TL];exact Bytes.one wr 0);have HQ5:=hdd (HQ.out.next fj);have HW5:=hdd TL;clear aF TL fj;go_wp2_with (at_builtin;rw[HW5.out];refine aj ?_ (.tmp 123) (.tmp 124) ?_ (w.heap.size+1) W5 u5 L ?_ HQ5.out.own (some ⟨wr.heap.size,0,none⟩) [0] 1 ?_ YV.out yJ.out HQ5.out.lt ?_;rfl;rfl;rfl;rfl;intro v6 w6 mV wU;have Ts:=hdd mV;have HG6:=hdd wU;clear mV wU)
   go_ret;rw[HPB.out];exact⟨v6,rfl,Ts.out.weaken (Nat.le_succ _),am HQ5.out.below HG6.out HQ5.out.below.size (fun g e=>by have:=(HQ5.out.own.aw g e).1;omega)⟩
  case pos=>
   have tr:(a:Int)<(k.D.length:Int):=aa;have⟨b,hb⟩:=ex (min (a+k.chunk.toNat) k.D.length);have Kt:=hdd hb;have Qe:=hdd aF;have pp:Hid (a<b∧b≤k.D.length):=hdd (ar C1.out);have Dg:(a:Int)<(b:Int):=ar pp.out;have nw:(b:Int)≤(k.D.length:Int):=ar pp.out;have tY:(k.D.length:Int)≤(k.cD:Int):=ar iG.out.2.2.1;obtain⟨y0,y1,y2,y3,y4,y5,y6,y7,y8⟩:=Dd.out wr HQ.out.opt;clear hb aF;go_upto_if 36 with fail;go_cut [10]from 37 to 122 (fun N0 wx=>N0= .int .i64 (b:Nat)∧wr=wx);case first=>
    by_cases hgt:(k.D.length:Int)<(a:Int)+k.chunk;·go_wp2_with fail;go_meet;exact⟨by congr 1;have:=Kt.out;omega,rfl⟩
    ·go_wp2_with fail;go_meet;exact⟨by congr 1;have:=Kt.out;omega,rfl⟩
   case rest=>
   obtain⟨rfl,rfl⟩:=hcut;go_upto_if 39 with fail;go_cut [6]from 40 to 122 (fun s6 wx=> ∃C2 oA Y2,s6=PF C2∧F7 k N w wx C2 oA (gL s).1 (gL s).2.1 (gL s).2.2 Y2 u5 L);case first=>
    cases bh with
    | true=>
     go_wp2_with fail;refine(L3.out _).mono ?_;rintro e w1 ⟨C2,Y2,rfl,fS,rY,aE⟩;have Oe:Hid (F7 k N w w1 C2 wr.heap.size (gL s).1 (gL s).2.1 (gL s).2.2 Y2 u5 L):=hdd (by
      rw[HL.out.no rfl];exact HQ.out.step (az.br aE) fS (fun i hi=> .inr (rY i hi)) aE.size (show 0<12 by decide) (show dL (1,1,1,1) by unfold dL;decide))
     clear fS rY aE;go_wp2_with fail;go_meet;exact⟨C2,_,Y2,rfl,Oe.out⟩
    | false=>
     go_wp2_with fail;go_meet;exact⟨C,base,Y,rfl,by rw[←HL.out.is rfl];exact HQ.out⟩
   case rest=>
   obtain⟨C2,oA,Y2,rfl,mq⟩:=hcut;obtain⟨⟨um,r1,P1⟩,zj⟩: ∃z,gL s=z:=⟨_,rfl⟩
   rw[zj]at mq;have mq:F7 k N w wc C2 oA um r1 P1 Y2 u5 L:=mq;have hTR:=Jv k C2 oA N um r1 P1 Y2 a b wc (iG.out.1.below mq.below) (fun q hq=>⟨fun hy=>by have:=mq.off _ hy;have:=iG.out.2.1 (ar pp.out) q hq;omega,by have:=iG.out.2.1 (ar pp.out) q hq;have:=mq.lt;omega⟩) iG.out.2.2.1 iG.out.2.2.2 ⟨ar HO.out.dict,HO.out.dict.2⟩ HO.out.nice.2 HO.out.lc HO.out.lp HO.out.pb mq.F4 mq.st mq.qo HN.out.1 HN.out.2 mq.base pp.out.1 pp.out.2;obtain⟨⟨R,SR,r2,P2⟩,hR⟩: ∃r,it k a b (um,r1,P1)=r:=⟨_,rfl⟩
   have⟨x,hx⟩:=ex (rW a told s);obtain⟨T1,qV⟩: ∃T,nt (b-a-1)=T:=⟨_,rfl⟩
   obtain⟨T2,rx⟩: ∃T,nt (R.length-1)=T:=⟨_,rfl⟩
   obtain⟨PP,hP⟩: ∃P,(if 192≤x then [sc k]else [])=P:=⟨_,rfl⟩
   have⟨O,hO⟩:=ex (((([x]++T1)++T2)++PP)++R);rw[hR]at hTR;have Gu:fv k a b s told R=O:=(by unfold fv;rw[hx,qV,rx,hP,hO]);have tA:Hid (aK k a b s told=if b-a+3≤O.length∨65536<R.length then(d6 k.D a b,none,told)else(O,some (SR,r2,P2),true)):=hdd (by unfold aK;rw[zj,hR];show(if b-a+3≤(fv k a b s told R).length∨_ then _ else _)=_;rw[Gu]);have tB:=hdd (fun W=>Fs (b-a-1) (by have:=iG.out.2.2.2;have:=pp.out;omega) W);have T':Hid (5≤R.length→R.length+100≤140737488355328→ ∀W,Calls prog 56 #[.int .i64 ((R.length:Int)-1)] W (li W T2)):=hdd (fun h1 h2 W=>by
    have h:=Fs (R.length-1) aa W;rw[show((R.length-1:Nat):Int)=(R.length:Int)-1 by omega,rx]at h;exact h)
   rw[show((b-a-1:Nat):Int)=(b:Int)-(a:Int)-1 by omega,qV]at tB;have KR:Hid (T1.length=2):=hdd (by rw[←qV];rfl);have agw:=hdd qV;have kZ:Hid (T2.length=2):=hdd (by rw[←rx];rfl);have Tw:Hid (PP.length≤1):=hdd (by rw[←hP];split<;>simp);have HP:=hdd hP;have HX:=hdd hx;have⟨q,hq⟩:=ex (decide ((192:Int)≤(x.toNat:Int)));have HQX:Hid (q=true↔192≤x):=hdd (by
    rw[←hq,decide_eq_true_iff,UInt8.le_iff_toNat_le];show _↔192≤x.toNat;omega)
   have HOE:=hdd hO;have QT:=hdd hTR;have G8:=hdd mq;obtain⟨bD,oD,hAD,_,_⟩:=iG.out.1.addr (ar Qe.out);obtain⟨TT,hTT⟩: ∃T,(k.D.drop a).take (b-a)=T:=⟨_,rfl⟩
   have CN:Hid ((k.D.drop a).take (b-a)=TT∧TT.length=b-a∧Bytes w (some ⟨bD,oD+a,none⟩) TT):=hdd ⟨hTT,by rw[←hTT,List.length_take,List.length_drop];have:=pp.out;omega,by
    rw[←hTT];have h:=iG.out.1;rw[hAD]at h;exact(h.drop a).take _⟩
   rw[hAD]at QT;rw[hAD];have aaR:=hdd hAD;obtain⟨y0,y1,y2,y3,y4,y5,y6,y7,y8⟩:=Dd.out wc mq.opt;clear zj mq hTR hR hx qV rx hP hO Gu hAD hTT;go_wp2_with fail;refine QT.out.mono ?_;rintro e w2 ⟨v2,Y3,rfl,j6,aaS,aaT,aaU,cC,yF,Ko,U'⟩;simp only at j6 aaS aaT aaU Ko U';obtain⟨AR,cR,rfl,_,_,hBR⟩:=j6.read;have hRi:(R.length:Int)≤140737488355328:=aa;have Q7:=hdd (And.intro Ko U');have F0:=hdd hBR;have UX:=hdd (G8.out.step cC aaS yF (Nat.le_trans G8.out.base cC.size) aaT aaU);clear j6 aaS aaT aaU cC yF Ko U' hBR QT y0 y1 y2 y3 y4 y5 y6 y7 y8;go_upto_if 53 with fail;go_cut [12]from 54 to 122 (fun GP wx=>GP=B8 (if bh=true then 160 else 128)∧w2=wx);case first=>
    cases bh with
    | true=>
     go_wp2_with fail;go_meet;exact⟨rfl,rfl⟩
    | false=>
     go_wp2_with fail;go_meet;exact⟨rfl,rfl⟩
   case rest=>
   obtain⟨rfl,rfl⟩:=hcut;obtain⟨n1,yP⟩: ∃z:UInt8,(if bh=true then 160 else 128)=z:=⟨_,rfl⟩
   rw[yP];have Pn:=hdd yP;clear yP;go_upto_if 55 with fail;go_cut [12]from 56 to 122 (fun GP wx=>GP=B8 (if told=true then n1 else 192)∧w2=wx);case first=>
    cases told with
    | true=>
     go_wp2_with fail;go_meet;exact⟨rfl,rfl⟩
    | false=>
     go_wp2_with fail;go_meet;exact⟨rfl,rfl⟩
   case rest=>
   obtain⟨rfl,rfl⟩:=hcut;obtain⟨n2,oT⟩: ∃z:UInt8,(if told=true then n1 else 192)=z:=⟨_,rfl⟩
   rw[oT];have K8:Hid ((if told=true then(if bh=true then 160 else 128)else 192)=n2):=hdd (by rw[Pn.out];exact oT);clear oT;go_upto_if 57 with fail;go_cut [12]from 58 to 122 (fun GP wx=>GP=B8 x∧w2=wx);case first=>
    by_cases Fd:a=0;·have h0:((a:Int)==0)=true:=(by rw[beq_iff_eq];omega);have HXE:Hid (x=224):=hdd (by rw[←HX.out,←HL.out.ctl,if_pos Fd]);clear Fd;go_wp2_with fail;go_meet;exact⟨by rw[HXE.out];rfl,rfl⟩
    ·have h0:((a:Int)==0)=false:=(by rw[beq_eq_false_iff_ne];omega);have HXE:Hid (x=n2):=hdd (by rw[←HX.out,←HL.out.ctl,if_neg Fd,K8.out]);clear Fd;go_wp2_with fail;go_meet;exact⟨by rw[HXE.out],rfl⟩
   case rest=>
   obtain⟨rfl,rfl⟩:=hcut;have⟨W3,jD⟩:=ex (w2.alloc (.cells #[B8 x] 5));have gW:Own w2.heap.size W3 (.slice (some ⟨w2.heap.size,0,none⟩) 1 1) [x]:=(by rw[←jD];exact Own.lit w2 [x] (Nat.le_refl _) ae);have aW:Below w2.heap.size w2 W3:=(by rw[←jD];exact ap);have C7:=hdd jD;have GZ:=hdd gW;have fc:=hdd aW;clear jD gW aW;go_wp2_with fail;rw[show w2.alloc (Obj.cells #[B8 x] 5)=W3 from C7.out];refine(tB.out _).mono ?_;rintro e w4 ⟨v4,rfl,cH,bc⟩;obtain⟨A4,c4,rfl,_,_,uH⟩:=cH.read;have iz:=hdd (aO fc.out bc);have Q8:=hdd (GZ.out.below bc);have Z':=hdd uH;clear cH bc uH;go_upto_region 22 with(at_builtin;refine aj ?_ (.tmp 59) (.tmp 64) ?_ w2.heap.size w4 (.slice (some ⟨w2.heap.size,0,none⟩) 1 1) [x] ?_ Q8.out A4 T1 c4 ?_ Z'.out uV iz.out.size ?_;rfl;rfl;rfl;rfl;intro v5 w5 iZ iM;have CY:=hdd iZ;have sP:=hdd (am iz.out iM iz.out.size (fun g e=>(Q8.out.aw g e).1));clear iZ iM)
   go_wp2_with fail;refine(T'.out Q7.out.1 Q7.out.2 _).mono ?_;rintro e w6 ⟨v6,rfl,mV,oV⟩;obtain⟨A6,c6,rfl,_,_,Mb⟩:=mV.read;have uN:=hdd (aO sP.out oV);have Q9:=hdd (CY.out.below oV);have a_:=hdd Mb;clear mV oV Mb;go_upto_region 23 with(at_builtin;refine aj ?_ (.tmp 66) (.tmp 70) ?_ w2.heap.size w6 v5 ([x]++T1) ?_ Q9.out A6 T2 c6 ?_ a_.out JE uN.out.size ?_;rfl;rfl;rfl;rfl;intro v7 w7 tk Hz;have XX:=hdd tk;have zw:=hdd (am uN.out Hz uN.out.size (fun g e=>(Q9.out.aw g e).1));clear tk Hz)
   go_upto_if 73 with fail;go_cut [13]from 74 to 122 (fun s13 wx=>Own w2.heap.size wx s13 ((([x]++T1)++T2)++PP)∧Below w2.heap.size w2 wx);case first=>
    cases q with
    | true=>
     have hx:=HQX.out.1 rfl;have uh:PP=[sc k]:=(by rw[←HP.out,if_pos hx]);have hy:Value.int .u8 ((k.lc:Int)+9*(k.lp:Int)+45*(k.pb:Int))=B8 (sc k):=(by unfold B8 sc;rw[UInt8.toNat_ofNat'];congr 1;omega);have⟨W9,Vx⟩:=ex (w7.alloc (.cells #[.int .u8 ((k.lc:Int)+9*(k.lp:Int)+45*(k.pb:Int))] 5));have HW9:=hdd Vx;have HX9:Hid (Bytes W9 (some ⟨w7.heap.size,0,none⟩) [sc k]):=hdd (by rw[←Vx,hy];exact Bytes.one w7 _);have H7:Below w7.heap.size w7 W9:=(by rw[←Vx];exact ap);have uQ:=hdd (aO zw.out H7);have Rb:=hdd (XX.out.below H7);have b_:=hdd uh;obtain⟨y0,y1,y2,y3,y4,y5,y6,y7,y8⟩:=Dd.out w7 (UX.out.next zw.out).opt;clear hx uh hy Vx H7;go_wp2_with (at_builtin;rw[HW9.out];refine aj ?_ (.tmp 74) (.tmp 86) ?_ w2.heap.size W9 v7 (([x]++T1)++T2) ?_ Rb.out (some ⟨w7.heap.size,0,none⟩) [sc k] 1 ?_ HX9.out JF uQ.out.size ?_;rfl;rfl;rfl;rfl;intro v10 Re ob Cd;have Ia:=hdd ob;have n8:=hdd (am uQ.out Cd uQ.out.size (fun g e=>(Rb.out.aw g e).1));clear ob Cd)
     go_meet;exact⟨by rw[b_.out];exact Ia.out,n8.out⟩
    | false=>
     have hx: ¬192≤x:=fun h=>Bool.noConfusion (HQX.out.2 h);have uh:PP=[]:=(by rw[←HP.out,if_neg hx]);have LJ:=hdd uh;clear hx uh;go_wp2_with fail;go_meet;exact⟨by rw[LJ.out,List.append_nil];exact XX.out,zw.out⟩
   case rest=>
   obtain⟨sa,qW⟩:=hcut;have HO8:=hdd sa;have pf:=hdd qW;clear sa qW;go_upto_region 26 with(at_builtin;refine aj ?_ (.tmp 88) (.tmp 89) ?_ w2.heap.size wc u13 ((([x]++T1)++T2)++PP) ?_ HO8.out AR R cR ?_ (F0.out.below pf.out) (by have:=Q7.out.2;have:=Tw.out;rw[List.length_append,List.length_append,List.length_append,KR.out,kZ.out];show 1+2+2+PP.length+R.length≤140737488355328;omega) pf.out.size ?_;rfl;rfl;rfl;rfl;intro v9 w9 Aj c_;rw[HOE.out]at Aj;have HO9:=hdd Aj;have uQ:=hdd (am pf.out c_ pf.out.size (fun g e=>(HO8.out.aw g e).1));clear Aj c_)
   obtain⟨A9,c9,XY,_,Ib,KO⟩:=HO9.out.read;have anm:=hdd KO;have O9:=hdd (UX.out.next uQ.out);have hOi:(O.length:Int)≤9223372036854775807:=aa;clear KO;by_cases h1:b-a+3≤O.length
   ·have Un:(3:Int)+(b:Int)-(a:Int)≤(O.length:Int):=(by omega);have iE:Hid (b-a+3≤O.length∨65536<R.length):=hdd (.inl h1);subst XY;clear h1 Ib;go_upto_if 105 with fail;clear Un;go_cut [12]from 106 to 122 (fun GP wx=>GP=B8 (if a=0 then 1 else 2)∧w9=wx);case first=>
     by_cases Fd:a=0;·have h0:((a:Int)==0)=true:=(by rw[beq_iff_eq];omega);have HA0:=hdd Fd;clear Fd;go_wp2_with fail;go_meet;exact⟨by rw[if_pos HA0.out];rfl,rfl⟩
     ·have h0:((a:Int)==0)=false:=(by rw[beq_eq_false_iff_ne];omega);have HA0:=hdd Fd;clear Fd;go_wp2_with fail;go_meet;exact⟨by rw[if_neg HA0.out];rfl,rfl⟩
    case rest=>
    obtain⟨rfl,rfl⟩:=hcut;obtain⟨zb,Wt⟩: ∃z:UInt8,(if a=0 then 1 else 2)=z:=⟨_,rfl⟩
    rw[Wt];have HZB:=hdd Wt;clear Wt;obtain⟨X3,pJ⟩: ∃W,w9.alloc (.cells #[B8 zb] 5)=W:=⟨_,rfl⟩
    have Ob:Own w9.heap.size X3 (.slice (some ⟨w9.heap.size,0,none⟩) 1 1) [zb]:=(by rw[←pJ];exact Own.lit w9 [zb] (Nat.le_refl _) ae);have lu:Below w9.heap.size w9 X3:=(by rw[←pJ];exact ap);have ZI:=hdd pJ;have TA:=hdd Ob;have F1:=hdd lu;clear pJ Ob lu;go_wp2_with fail;rw[show w9.alloc (Obj.cells #[B8 zb] 5)=X3 from ZI.out];refine(tB.out _).mono ?_;rintro e x4 ⟨q4,rfl,hp4,kJ⟩;obtain⟨E4,d4,rfl,_,_,Z7⟩:=hp4.read;have Tg:=hdd (aO F1.out kJ);have Th:=hdd (TA.out.below kJ);have HE4:=hdd Z7;clear hp4 kJ Z7;go_upto_region 32 with(at_builtin;refine aj ?_ (.tmp 107) (.tmp 112) ?_ w9.heap.size x4 (.slice (some ⟨w9.heap.size,0,none⟩) 1 1) [zb] ?_ Th.out E4 T1 d4 ?_ HE4.out uV Tg.out.size ?_;rfl;rfl;rfl;rfl;intro v5 w5 iZ iM;have HP5:=hdd iZ;have PT:=hdd (am Tg.out iM Tg.out.size (fun g e=>(Th.out.aw g e).1));clear iZ iM)
    go_upto_region 34 with(at_builtin;refine aj ?_ (.tmp 114) (.tmp 118) ?_ w9.heap.size w5 v5 ([zb]++T1) ?_ HP5.out (some ⟨bD,oD+a,none⟩) TT (k.cD-a) ?_ (CN.out.2.2.below (O9.out.next PT.out).below) JL PT.out.size ?_;rfl;rfl;rfl;rw[CN.out.2.1];rfl;intro v6 w6 mV wU;have HP6:=hdd mV;have HC6:=hdd (am PT.out wU PT.out.size (fun g e=>(HP5.out.aw g e).1));clear mV wU)
    have JA:Hid (d6 k.D a b=([zb]++T1)++TT):=hdd (by unfold d6;rw[agw.out,CN.out.1,HZB.out];rfl);rw[←aaR.out];have⟨SO,hSO⟩:=ex (([zb]++T1)++TT);rw[hSO]at JA HP6;have Ti:Hid (L.length+SO.length≤140737488355328):=hdd (by
     rw[←JA.out,od pp.out.1 pp.out.2];have:=HL.out.len;have:=iG.out.2.2.2;have:=pp.out;omega)
    obtain⟨A7,c7,rfl,_,_,Or⟩:=HP6.out.read;have aaW:=hdd Or;have Tj:=hdd (O9.out.next HC6.out);clear hSO Or;go_wp2_with (at_builtin;refine aj ?_ (.tmp 120) (.tmp 121) ?_ (w.heap.size+1) w6 u5 L ?_ Tj.out.own A7 SO c7 ?_ aaW.out Ti.out Tj.out.lt ?_;rfl;rfl;rfl;rfl;intro v12 w12 FK FL;have FM:=hdd (Tj.out.grow FL FK);obtain⟨y0,y1,y2,y3,y4,y5,y6,y7,y8⟩:=Dd.out w12 FM.out.opt;clear FK FL)
    have tc:aK k a b s told=(SO,none,told):=(by rw[tA.out,if_pos iE.out,JA.out]);go_roundw;case rel=>exact⟨a+k.chunk.toNat,told,true,none,SR,r2,P2,C2,oA,Y3,L++SO,rfl,rfl,rfl,by congr 1;have:=C1.out;omega,FM,hdd (HL.out.next (ar C1.out) Qe.out Kt.out tc (fun h=>Bool.noConfusion h) (fun _=>rfl) (fun h=>Bool.noConfusion h))⟩
    case measure=>have:=C1.out;have:=Qe.out;simp[intOf];omega
   ·have Un: ¬(3:Int)+(b:Int)-(a:Int)≤(O.length:Int):=(by omega);by_cases h2:65536<R.length
    ·have Xa:(65536:Int)<(R.length:Int):=(by omega);have iE:Hid (b-a+3≤O.length∨65536<R.length):=hdd (.inr h2);subst XY;clear h1 h2 Ib;go_upto_if 105 with fail;clear Un Xa;go_cut [12]from 106 to 122 (fun GP wx=>GP=B8 (if a=0 then 1 else 2)∧w9=wx);case first=>
      by_cases Fd:a=0;·have h0:((a:Int)==0)=true:=(by rw[beq_iff_eq];omega);have HA0:=hdd Fd;clear Fd;go_wp2_with fail;go_meet;exact⟨by rw[if_pos HA0.out];rfl,rfl⟩
      ·have h0:((a:Int)==0)=false:=(by rw[beq_eq_false_iff_ne];omega);have HA0:=hdd Fd;clear Fd;go_wp2_with fail;go_meet;exact⟨by rw[if_neg HA0.out];rfl,rfl⟩
     case rest=>
     obtain⟨rfl,rfl⟩:=hcut;obtain⟨zb,Wt⟩: ∃z:UInt8,(if a=0 then 1 else 2)=z:=⟨_,rfl⟩
     rw[Wt];have HZB:=hdd Wt;clear Wt;obtain⟨X3,pJ⟩: ∃W,w9.alloc (.cells #[B8 zb] 5)=W:=⟨_,rfl⟩
     have Ob:Own w9.heap.size X3 (.slice (some ⟨w9.heap.size,0,none⟩) 1 1) [zb]:=(by rw[←pJ];exact Own.lit w9 [zb] (Nat.le_refl _) ae);have lu:Below w9.heap.size w9 X3:=(by rw[←pJ];exact ap);have ZI:=hdd pJ;have TA:=hdd Ob;have F1:=hdd lu;clear pJ Ob lu;go_wp2_with fail;rw[show w9.alloc (Obj.cells #[B8 zb] 5)=X3 from ZI.out];refine(tB.out _).mono ?_;rintro e x4 ⟨q4,rfl,hp4,kJ⟩;obtain⟨E4,d4,rfl,_,_,Z7⟩:=hp4.read;have Tg:=hdd (aO F1.out kJ);have Th:=hdd (TA.out.below kJ);have HE4:=hdd Z7;clear hp4 kJ Z7;go_upto_region 32 with(at_builtin;refine aj ?_ (.tmp 107) (.tmp 112) ?_ w9.heap.size x4 (.slice (some ⟨w9.heap.size,0,none⟩) 1 1) [zb] ?_ Th.out E4 T1 d4 ?_ HE4.out uV Tg.out.size ?_;rfl;rfl;rfl;rfl;intro v5 w5 iZ iM;have HP5:=hdd iZ;have PT:=hdd (am Tg.out iM Tg.out.size (fun g e=>(Th.out.aw g e).1));clear iZ iM)
     go_upto_region 34 with(at_builtin;refine aj ?_ (.tmp 114) (.tmp 118) ?_ w9.heap.size w5 v5 ([zb]++T1) ?_ HP5.out (some ⟨bD,oD+a,none⟩) TT (k.cD-a) ?_ (CN.out.2.2.below (O9.out.next PT.out).below) JL PT.out.size ?_;rfl;rfl;rfl;rw[CN.out.2.1];rfl;intro v6 w6 mV wU;have HP6:=hdd mV;have HC6:=hdd (am PT.out wU PT.out.size (fun g e=>(HP5.out.aw g e).1));clear mV wU)
     have JA:Hid (d6 k.D a b=([zb]++T1)++TT):=hdd (by unfold d6;rw[agw.out,CN.out.1,HZB.out];rfl);rw[←aaR.out];have⟨SO,hSO⟩:=ex (([zb]++T1)++TT);rw[hSO]at JA HP6;have Ti:Hid (L.length+SO.length≤140737488355328):=hdd (by
      rw[←JA.out,od pp.out.1 pp.out.2];have:=HL.out.len;have:=iG.out.2.2.2;have:=pp.out;omega)
     obtain⟨A7,c7,rfl,_,_,Or⟩:=HP6.out.read;have aaW:=hdd Or;have Tj:=hdd (O9.out.next HC6.out);clear hSO Or;go_wp2_with (at_builtin;refine aj ?_ (.tmp 120) (.tmp 121) ?_ (w.heap.size+1) w6 u5 L ?_ Tj.out.own A7 SO c7 ?_ aaW.out Ti.out Tj.out.lt ?_;rfl;rfl;rfl;rfl;intro v12 w12 FK FL;have FM:=hdd (Tj.out.grow FL FK);obtain⟨y0,y1,y2,y3,y4,y5,y6,y7,y8⟩:=Dd.out w12 FM.out.opt;clear FK FL)
     have tc:aK k a b s told=(SO,none,told):=(by rw[tA.out,if_pos iE.out,JA.out]);go_roundw;case rel=>exact⟨a+k.chunk.toNat,told,true,none,SR,r2,P2,C2,oA,Y3,L++SO,rfl,rfl,rfl,by congr 1;have:=C1.out;omega,FM,hdd (HL.out.next (ar C1.out) Qe.out Kt.out tc (fun h=>Bool.noConfusion h) (fun _=>rfl) (fun h=>Bool.noConfusion h))⟩
     case measure=>have:=C1.out;have:=Qe.out;simp[intOf];omega
    ·have Xa: ¬(65536:Int)<(R.length:Int):=(by omega);have iE:Hid (¬(b-a+3≤O.length∨65536<R.length)):=hdd aa;have Ti:Hid (L.length+O.length≤140737488355328):=hdd (by
      have:=HL.out.len;have:=iG.out.2.2.2;have:=pp.out;omega)
     subst XY;clear h1 h2 Ib;rw[←aaR.out];go_wp2_with (at_builtin;refine aj ?_ (.tmp 120) (.tmp 121) ?_ (w.heap.size+1) w9 u5 L ?_ O9.out.own A9 O c9 ?_ anm.out Ti.out O9.out.lt ?_;rfl;rfl;rfl;rfl;intro v12 w12 FK FL;have FM:=hdd (O9.out.grow FL FK);obtain⟨y0,y1,y2,y3,y4,y5,y6,y7,y8⟩:=Dd.out w12 FM.out.opt;clear FK FL)
     have tc:aK k a b s told=(O,some (SR,r2,P2),true):=(by rw[tA.out,if_neg iE.out]);go_roundw;case rel=>exact⟨a+k.chunk.toNat,true,false,some (SR,r2,P2),SR,r2,P2,C2,oA,Y3,L++O,rfl,rfl,rfl,by congr 1;have:=C1.out;omega,FM,hdd (HL.out.next (ar C1.out) Qe.out Kt.out tc (fun _=>rfl) (fun h=>Bool.noConfusion h) (fun _=>rfl))⟩
     case measure=>have:=C1.out;have:=Qe.out;simp[intOf];omega
end Go.Proofs.YtgfpocdiojifoaaGreatDoor
