import Derived.Test.YtgfpocdiojifoaaGreatDoorZ16
import Derived.Lib.MinMax
import Derived.Deep.RegionHeld3
import Derived.OwnWalkIn
namespace Go.Proofs.YtgfpocdiojifoaaGreatDoor
set_option maxRecDepth 100000
set_option maxHeartbeats 8000000
open Go.RowKit Go.Proofs.Tryz
variable{had:Bool}{Y:List Nat}{D:List UInt8}{B C L a b bD c cF g mp n oD p st':Nat}{AF:Option Addr}{r':R4}{w w' w0:World}
structure PkC(w0:World)(k:fG)(AF:Option Addr)(cF mp B bD oD:Nat):Prop where
 ready:nV w0 k.F AF cF k.D (k.dict:Nat) k.nice mp B
 addr:k.A=some ⟨bD,oD,none⟩
 bytes:Bytes w0 k.A k.D
 ax:bD<w0.heap.size
 cap:k.D.length≤k.cD
 small:k.D.length≤100000
 dict:1≤k.dict
 nice:k.nice≤273
 lc:k.lc≤4
 lp:k.lp≤4
 pb:k.pb≤4
 EL:k.lc+k.lp≤4
def gL(s:eK):Nat×R4×(Nat→Nat):=s.getD BY
def Vp(w:World)(p:Nat)(k:fG)(had:Bool)(Y:List Nat)(r:List UInt8×(Nat×R4×(Nat→Nat)))(e:Ending)(w':World):Prop:=
 ∃v Y',e= .returned (.tuple #[v,.int .i64 0])∧Own w.heap.size w' v r.1∧Pk w' p k (some r.2) had Y'∧az (p::Y) w w'∧(∀i∈Y',i∈Y∨w.heap.size≤i)∧5≤r.1.length∧r.1.length+100≤140737488355328
theorem Vq{k:fG}(hM:bV w C L k.lc k.lp k.pb 0 (1,1,1,1) (fun _=>1024))(hb:Below w.heap.size w w'):LH w' k C L BY:=
 ⟨hM.aI (hb.block _ hM.CS) (hb.block _ hM.Br),an,by unfold dL BY;decide⟩
theorem EM{lc lp pb:Nat}{s:Sy}{l:List Sy}{st:Nat}{r:R4}{x:fu}{s':Sy}{Z:fu}(h:Md.sym (ah g) lc lp pb st r (D.take p) (s.k:Nat) s.b (s.l:Nat) (s.d:Nat) (s.r:Nat) x=(s',st',r',Z)):
  eX lc lp pb D (s::l) p (st,r,x)=eX lc lp pb D l (p+max s.l 1) (st',r',Z):=by
 have e:=(adq g lc lp pb st r (D.take p) (s.k:Nat) s.b (s.l:Nat) (s.d:Nat) (s.r:Nat) x).symm.trans h;show eX lc lp pb D l (p+max s.l 1) ((Md.sym (ah 0) lc lp pb st r (D.take p) (s.k:Nat) s.b (s.l:Nat) (s.d:Nat) (s.r:Nat) x).2)=_;rw[e]
structure LZ(k:fG)(C L g:Nat)(X0:List Nat)(w8 wr:World)(st:Nat)(r:R4)(x:fu)(n:Nat):Prop where
 ms: ∃X,MS (ah g) wr C L k.lc k.lp k.pb st r x X∧ ∀i∈X,i∈X0∨w8.heap.size≤i
 only:az (C::L::X0) w8 wr
 st:st<12
 qo:dL r
 ok:(ah g).ok x.2 n
theorem LZ.put{k:fG}{X0 X:List Nat}{w8 wr w1 w2:World}{Z:fu}(hX: ∀i∈X,i∈X0∨w8.heap.size≤i)(ho:az (C::L::X0) w8 wr)(hb:Below wr.heap.size wr w1)(hw:fZ (ah g) C L k.lc k.lp k.pb st' r' Z X w1 w2)(h1:st'<12)(h2:dL r')(h3:(ah g).ok Z.2 n):
  LZ k C L g X0 w8 w2 st' r' Z n:=by
 obtain⟨X',hM,bU,Ub⟩:=hw;have m6:az (C::L::X0) w8 w1:=ho.trans (az.br hb) (fun i hi=> .inl hi);refine⟨⟨X',hM,fun i hi=> ?_⟩,m6.trans bU (fun i hi=> ?_),h1,h2,h3⟩
 ·rcases Ub i hi with h | h;·exact hX i h
  ·exact .inr (Nat.le_trans m6.size h)
 ·rcases List.mem_cons.1 hi with rfl | hi;·exact .inl ae
  ·rcases List.mem_cons.1 hi with rfl | hi;·exact .inl ae
   ·rcases hX i hi with h | h;·exact .inl dS
    ·exact .inr h
theorem Vr{k:fG}{s:eK}(c:PkC w0 k AF cF mp B bD oD)(hb:Below w0.heap.size w0 w)(h:Pk w p k s had Y)(hp:w0.heap.size≤p)(hY: ∀i∈Y,w0.heap.size≤i)(a b:Nat)(Aa:a<b)(fF:b≤k.D.length):
  Calls prog 76 #[PF p,.int .i64 (a:Nat),.int .i64 (b:Nat)] w (Vp w p k had Y (it k a b (gL s))):=by
 obtain⟨cv,hP,hC⟩:=h.ex;have HC:=hdd c;have HB:=hdd hb;have HP:=hdd hP;have HCC:=hdd hC;have XU:=hdd (And.intro hp hY);have pp:=hdd (And.intro Aa fF);have ZT:Hid (∀W,Below w.heap.size w W→W.cell? ⟨p,1,none⟩=some (.int .i64 (k.lc:Nat))∧W.cell? ⟨p,2,none⟩=some (.int .i64 (k.lp:Nat))∧W.cell? ⟨p,3,none⟩=some (.int .i64 (k.pb:Nat))):=hdd (fun W hW=>by
  have h1:=hP.below hW;exact⟨h1.lc,h1.lp,h1.pb⟩)
 have L3:=hdd (fun W=>zQ k.lc k.lp k.pb W c.lc c.lp c.pb c.EL);obtain⟨cp,rfl⟩: ∃q,cv= .pointer q:=by
  cases s with
  | none=>exact⟨_,hC.1⟩
  | some s=>obtain⟨C,L,e,_⟩:=hC;exact⟨_,e⟩
 have c11:=hP.F4;have Dg:(a:Int)<(b:Int):=aa;have G9:(k.D.length:Int)≤100000:=ar c.small;have nw:(b:Int)≤(k.D.length:Int):=aa;clear c hb h hp hY Aa fF hP hC;go_enter func76,ntmps76;go_upto_if 22 with fail;go_cut []from 8 (fun wx=> ∃C L,eJ wx p k (PF C) had∧LH wx k C L (gL s)∧az (p::Y) w wx∧ ∀i∈[C,L],i∈Y∨w.heap.size≤i);case first=>
  cases s with
  | some s=>
   obtain⟨C,L,TJ,rfl,hc⟩:=HCC.out;injection TJ with TJ;subst TJ;go_wp2_with fail;go_meet;exact⟨C,L,HP.out,hc,az.refl _ _,fun i hi=> .inl hi⟩
  | none=>
   obtain⟨TJ,rfl⟩:=HCC.out;injection TJ with TJ;subst TJ;go_upto_region 2 with fail;have bE:Below w.heap.size w w.drew:=⟨rfl,rfl,rfl,Nat.le_refl _,fun _ _=>rfl⟩
   refine wp_region_held_drew (S:=fun w'=>Below w.heap.size w w') ak bE (fun hS=> ?_);refine af 0 hS (h:=af 1 hS (h:=af 2 hS (h:=af 3 hS (h:=bq 4 ZT.out hS (h:=af 5 hS (h:=af 6 hS (h:=af 7 hS (h:=af 8 hS (h:=bq 9 ZT.out hS (h:=af 10 hS (h:=af 11 hS (h:= ?_))))))))))));refine af 12 hS (h:=af 13 hS (h:=bq 14 ZT.out hS (h:= ?_)));refine aG 15 (fun K hK=> ?_);go_simp;refine(L3.out _).mono ?_;rintro e w1 ⟨C,L,rfl,fq,aC,C9,UZ⟩;have g15:=aO bE aC;go_wp2_with fail;refine hK.out _ _ g15 (fun _=> ?_);clear hK K;refine af 16 g15 (h:=af 17 g15 (h:=af 18 g15 (h:=af 19 g15 (h:=af 20 g15 (h:= ?_)))));refine wpAnyH_done ak ?_ _;have eU:=hdd g15;have jd:=hdd fq;have HCG:Hid (w.heap.size≤C∧w.heap.size≤L):=hdd ⟨C9,UZ⟩;have uh:=HP.out.below g15;have f11:=uh.frozen 11;have k11:=uh.F4;clear hS g15 fq C9 UZ aC bE uh;go_wp2_with fail;go_meet;have C6:p<w.heap.size:=HP.out.lt;have Ae:=(HP.out.below eU.out).QC (PF C);have rL:Below w1.heap.size w1 (w1.setCell ⟨p,11,none⟩ (PF C))∨True:= .inr trivial;refine⟨C,L,Ae,?_,?_,fun i hi=> ?_⟩
   ·have hc:=Vq (k:=k) jd.out (Below.refl _ _);refine hc.aI ?_ ?_;·exact ag _ _ _ _ (by show C≠p;have:=HCG.out.1;omega)
    ·exact ag _ _ _ _ (by show L≠p;have:=HCG.out.2;omega)
   ·exact(az.br eU.out).setCell (.inl ae) _
   ·simp only[List.mem_cons,List.not_mem_nil,or_false]at hi;rcases hi with rfl | rfl;·exact .inr HCG.out.1
    ·exact .inr HCG.out.2
 case rest=>
 obtain⟨WC,hWC⟩: ∃W,W=wc:=⟨_,rfl⟩
 subst hWC;obtain⟨C,L,hPx,hCx,hox,aey⟩:=hcut;obtain⟨⟨um,r1,P1⟩,kG⟩: ∃q,gL s=q:=⟨_,rfl⟩
 rw[kG]at hCx;have HPX:=hdd hPx;have EN:=hdd hCx;have HOX:=hdd hox;have Vs:=hdd aey;have aez:Below w0.heap.size w0 WC:=HB.out.trans (HOX.out.below HB.out.size (fun i hi=>by
  rcases List.mem_cons.1 hi with rfl | hi;·exact XU.out.1
  ·exact XU.out.2 i hi))
 have Xj:=hdd aez;have PR:Hid (w0.heap.size≤C∧w0.heap.size≤L):=hdd (by
  constructor
  ·rcases Vs.out C ae with h | h;·exact XU.out.2 _ h
   ·exact Nat.le_trans HB.out.size h
  ·rcases Vs.out L ae with h | h;·exact XU.out.2 _ h
   ·exact Nat.le_trans HB.out.size h)
 have aeA:p≠C∧p≠L:=by have h:=(show m7 WC k (PF C) [C,L] (some (um,r1,P1))from⟨C,L,rfl,rfl,hCx⟩).apart hPx an an;simp only[List.mem_cons,List.not_mem_nil,or_false,not_or]at h;exact h
 have H':=hdd aeA;have HCX:Hid (∀W,Below WC.heap.size WC W→W.cell? ⟨p,0,none⟩=some (.slice k.A k.D.length k.cD)∧W.cell? ⟨p,10,none⟩=some (PF k.F)∧W.cell? ⟨p,11,none⟩=some (PF C)):=hdd (fun W hW=>by
  have h1:=HPX.out.below hW;exact⟨h1.data,h1.find,h1.F4⟩)
 have aeB:Hid (∀W,Below WC.heap.size WC W→Calls prog 122 #[PF C] W (zB r1.val W)):=hdd (fun W hW=>D1 (EN.out.mod.aI (hW.block _ EN.out.mod.CS) (hW.block _ EN.out.mod.Br)));have⟨LS,GI⟩:=ex (nX k a b r1);have⟨rS,hrS⟩:=ex ((ba k.D (k.dict:Nat) k.nice b (b-a) a r1).2);have L4:Hid (∀W,Below WC.heap.size WC W→Calls prog 121 #[PF k.F,.slice k.A k.D.length k.cD,.int .i64 (a:Nat),.int .i64 (b:Nat),r1.val] W (Et LS rS W)):=hdd (fun W hW=>by
  have eO:Below w0.heap.size w0 W:=aO Xj.out hW;have h:=Eu k.F AF k.A cF k.cD k.D (k.dict:Nat) k.nice mp B a b r1 W (HC.out.ready.below (eO)) (HC.out.bytes.below eO) HC.out.cap (Nat.le_of_lt pp.out.1) pp.out.2;rw[hrS,show(ba k.D (k.dict:Nat) k.nice b (b-a) a r1).1=LS from GI]at h;exact h)
 have yT:=hdd GI;have nu:=hdd kG;clear hPx hCx hox aey kG aez aeA GI hrS c11;go_upto_region 6 with fail;go_cut [10,12]from 10 (fun N0 GP wx=>GP= .int .i64 0∧ev WC.heap.size wx N0 LS∧Below WC.heap.size WC wx);case first=>
  have bE:Below WC.heap.size WC WC.drew:=⟨rfl,rfl,rfl,Nat.le_refl _,fun _ _=>rfl⟩
  refine wp_region_held_drew (S:=fun w'=>Below WC.heap.size WC w') ak bE (fun hS=> ?_);refine af 0 hS (h:=af 1 hS (h:=af 2 hS (h:=bq 3 HCX.out hS (h:=af 4 hS (h:=af 5 hS (h:=af 6 hS (h:=bq 7 HCX.out hS (h:=af 8 hS (h:=af 9 hS (h:=af 10 hS (h:=af 11 hS (h:= ?_))))))))))));refine af 12 hS (h:=bq 13 HCX.out hS (h:= ?_));refine wpAnyH_ready (rs:=[14,20]) ak ae ?_;refine(AllReadyH.cons rfl (fun K hK=> ?_) (AllReadyH.cons rfl (fun K hK=> ?_) AllReadyH.nil))
  ·skip;go_simp;refine(aeB.out _ bE).mono ?_;rintro e vq ⟨rfl,r8⟩;have g14:=aO bE r8;have Gm:=hdd r8;clear r8;go_wp2_with fail;refine hK.out _ _ g14 (fun _=> ?_);clear hK K;refine wpAnyH_ready (rs:=[15,20]) ak ae ?_;refine(AllReadyH.cons rfl (fun K hK=> ?_) (AllReadyH.cons rfl (fun K hK=> ?_) AllReadyH.nil));·skip;go_simp;refine(L4.out vq g14).mono ?_;rintro e sZ ⟨v15,rfl,wH,n7⟩;have g15:=aO g14 n7;have eU:=hdd g15;have To:=hdd wH;have Vt:=hdd n7;clear n7 wH;go_wp2_with fail;refine hK.out _ _ eU.out (fun _=> ?_);clear hK K;refine af 16 eU.out (h:=af 17 eU.out (h:=af 18 eU.out (h:=af 19 eU.out (h:= ?_))));refine aG 20 (fun K hK=> ?_);go_simp;refine hK.out _ _ (eU.out.alloc eU.out.size _) (fun _=> ?_);clear hK K;refine af 21 (eU.out.alloc eU.out.size _) (h:= ?_);refine aG 22 (fun K hK=> ?_);go_simp;refine hK.out _ _ (eU.out.alloc eU.out.size _) (fun _=> ?_);clear hK K;refine af 23 (eU.out.alloc eU.out.size _) (h:= ?_);refine wpAnyH_done ak ?_ _;go_wp2_with fail;go_meet;exact⟨rfl,Gl,Gn⟩
   ·skip;go_simp;obtain⟨WA,Vu⟩: ∃W,vq.alloc (.cells #[.int .i64 0,.int .i64 0,.int .i64 0,.int .i64 0] 127)=W:=⟨_,rfl⟩
    rw[Vu];have gA:Below WC.heap.size WC WA:=(by rw[←Vu];have h:=((g14:Below WC.heap.size WC vq).alloc (by first | exact Nat.le_refl _ | exact g14.size) (.cells #[.int .i64 0,.int .i64 0,.int .i64 0,.int .i64 0] 127));exact⟨h.os,h.tape,h.output,h.size,h.block⟩);have lf:WA.heap[vq.heap.size]? =some (.cells #[.int .i64 0,.int .i64 0,.int .i64 0,.int .i64 0] 127 (0,0)):=(by rw[←Vu];exact heap_alloc_new _ _);have HRA:=hdd lf;have nD:Hid (WC.heap.size≤vq.heap.size∧vq.heap.size<WA.heap.size):=hdd ⟨g14.size,(cr lf)⟩;clear Vu lf;refine hK.out _ _ gA (fun _=> ?_);clear hK K;refine aG 15 (fun K hK=> ?_);go_simp;refine(L4.out WA gA).mono ?_;rintro e sZ ⟨v15,rfl,wH,n7⟩;have g15:=aO gA n7;have eU:=hdd g15;have To:=hdd wH;have Vt:=hdd n7;clear n7 wH;go_wp2_with fail;refine hK.out _ _ eU.out (fun _=> ?_);clear hK K;refine af 16 eU.out (h:=af 17 eU.out (h:=af 18 eU.out (h:=af 19 eU.out (h:=af 21 eU.out (h:= ?_)))));refine aG 22 (fun K hK=> ?_);go_simp;have kp:=(Vt.out.block _ nD.out.2).trans HRA.out;have z0:sZ.cell? ⟨vq.heap.size,0,none⟩=some (.int .i64 0):=kC;have z1:sZ.cell? ⟨vq.heap.size,1,none⟩=some (.int .i64 0):=kC;have z2:sZ.cell? ⟨vq.heap.size,2,none⟩=some (.int .i64 0):=kC;have z3:sZ.cell? ⟨vq.heap.size,3,none⟩=some (.int .i64 0):=kC;have zC:sZ.frozen? ⟨vq.heap.size,0,none⟩=false:=frozen_of_row sZ _ 0 _ _ kp;have zD:sZ.frozen? ⟨vq.heap.size,1,none⟩=false:=frozen_of_row sZ _ 1 _ _ kp;have CV:sZ.frozen? ⟨vq.heap.size,2,none⟩=false:=frozen_of_row sZ _ 2 _ _ kp;have CW:sZ.frozen? ⟨vq.heap.size,3,none⟩=false:=frozen_of_row sZ _ 3 _ _ kp;go_simp;refine hK.out _ _ ((((eU.out.setCell (p:=⟨vq.heap.size,0,none⟩) nD.out.1 _).setCell (p:=⟨vq.heap.size,1,none⟩) nD.out.1 _).setCell (p:=⟨vq.heap.size,2,none⟩) nD.out.1 _).setCell (p:=⟨vq.heap.size,3,none⟩) nD.out.1 _) (fun _=> ?_);clear hK K;refine af 23 ((((eU.out.setCell (p:=⟨vq.heap.size,0,none⟩) nD.out.1 _).setCell (p:=⟨vq.heap.size,1,none⟩) nD.out.1 _).setCell (p:=⟨vq.heap.size,2,none⟩) nD.out.1 _).setCell (p:=⟨vq.heap.size,3,none⟩) nD.out.1 _) (h:= ?_);refine wpAnyH_done ak ?_ _;go_wp2_with fail;go_meet;exact⟨rfl,Gl,Gn⟩
  ·skip;go_simp;obtain⟨WA,Vu⟩: ∃W,(WC.alloc (.cells #[.int .i64 0,.int .i64 0,.int .i64 0,.int .i64 0] 127)).drew=W:=⟨_,rfl⟩
   rw[Vu];have gA:Below WC.heap.size WC WA:=(by rw[←Vu];have h:=((Below.refl _ _:Below WC.heap.size WC WC).alloc (by first | exact Nat.le_refl _ | exact g14.size) (.cells #[.int .i64 0,.int .i64 0,.int .i64 0,.int .i64 0] 127));exact⟨h.os,h.tape,h.output,h.size,h.block⟩);have lf:WA.heap[WC.heap.size]? =some (.cells #[.int .i64 0,.int .i64 0,.int .i64 0,.int .i64 0] 127 (0,0)):=(by rw[←Vu];exact heap_alloc_new _ _);have HRA:=hdd lf;have nD:Hid (WC.heap.size≤WC.heap.size∧WC.heap.size<WA.heap.size):=hdd ⟨Nat.le_refl _,(cr lf)⟩;clear Vu lf;refine hK.out _ _ gA (fun _=> ?_);clear hK K;refine aG 14 (fun K hK=> ?_);go_simp;refine(aeB.out _ gA).mono ?_;rintro e vq ⟨rfl,r8⟩;have g14:=aO gA r8;have Gm:=hdd r8;clear r8;go_wp2_with fail;refine hK.out _ _ g14 (fun _=> ?_);clear hK K;refine aG 15 (fun K hK=> ?_);go_simp;refine(L4.out vq g14).mono ?_;rintro e sZ ⟨v15,rfl,wH,n7⟩;have g15:=aO g14 n7;have eU:=hdd g15;have To:=hdd wH;have Vt:=hdd n7;clear n7 wH;go_wp2_with fail;refine hK.out _ _ eU.out (fun _=> ?_);clear hK K;refine af 16 eU.out (h:=af 17 eU.out (h:=af 18 eU.out (h:=af 19 eU.out (h:=af 21 eU.out (h:= ?_)))));refine aG 22 (fun K hK=> ?_);go_simp;have kp:=(Vt.out.block _ (Nat.lt_of_lt_of_le nD.out.2 Gm.out.size)).trans ((Gm.out.block _ nD.out.2).trans HRA.out);have z0:sZ.cell? ⟨WC.heap.size,0,none⟩=some (.int .i64 0):=kC;have z1:sZ.cell? ⟨WC.heap.size,1,none⟩=some (.int .i64 0):=kC;have z2:sZ.cell? ⟨WC.heap.size,2,none⟩=some (.int .i64 0):=kC;have z3:sZ.cell? ⟨WC.heap.size,3,none⟩=some (.int .i64 0):=kC;have zC:sZ.frozen? ⟨WC.heap.size,0,none⟩=false:=frozen_of_row sZ _ 0 _ _ kp;have zD:sZ.frozen? ⟨WC.heap.size,1,none⟩=false:=frozen_of_row sZ _ 1 _ _ kp;have CV:sZ.frozen? ⟨WC.heap.size,2,none⟩=false:=frozen_of_row sZ _ 2 _ _ kp;have CW:sZ.frozen? ⟨WC.heap.size,3,none⟩=false:=frozen_of_row sZ _ 3 _ _ kp;go_simp;refine hK.out _ _ ((((eU.out.setCell (p:=⟨WC.heap.size,0,none⟩) nD.out.1 _).setCell (p:=⟨WC.heap.size,1,none⟩) nD.out.1 _).setCell (p:=⟨WC.heap.size,2,none⟩) nD.out.1 _).setCell (p:=⟨WC.heap.size,3,none⟩) nD.out.1 _) (fun _=> ?_);clear hK K;refine af 23 ((((eU.out.setCell (p:=⟨WC.heap.size,0,none⟩) nD.out.1 _).setCell (p:=⟨WC.heap.size,1,none⟩) nD.out.1 _).setCell (p:=⟨WC.heap.size,2,none⟩) nD.out.1 _).setCell (p:=⟨WC.heap.size,3,none⟩) nD.out.1 _) (h:= ?_);refine wpAnyH_done ak ?_ _;go_wp2_with fail;go_meet;exact⟨rfl,Gl,Gn⟩
 case rest=>
 obtain⟨I',hOS,zl⟩:=hcut;subst I';obtain⟨AL,cL,J',M',hmL,bx⟩:=hOS.form;subst J';have N':0<LS.length:=by rw[←yT.out];unfold nX;rw[gJ pp.out.1];simp
 obtain⟨gS,hAL,hgS,_,_,_,_,_⟩:=bx 0 N';subst hAL;have Q4:WC.heap.size≤gS:=(hOS.lt gS rfl).1;have NU:Hid (∀n (hn:n<LS.length) (W:World),W.heap[gS]? =wc.heap[gS]? →W.cell? ⟨gS,5*n,none⟩=some (.int .i64 (LS[n].k:Nat))∧W.cell? ⟨gS,5*n+1,none⟩=some (.int .u8 (LS[n].b.toNat:Nat))∧W.cell? ⟨gS,5*n+2,none⟩=some (.int .i64 (LS[n].l:Nat))∧W.cell? ⟨gS,5*n+3,none⟩=some (.int .i64 (LS[n].d:Nat))∧W.cell? ⟨gS,5*n+4,none⟩=some (.int .i64 (LS[n].r:Nat))):=hdd (fun n hn W hW=>by
  obtain⟨g',e',_,c0,c1,c2,c3,c4⟩:=bx n hn;injection e' with e';injection e' with e' _ _;subst e';exact⟨(World.cell?_of_block (a:=⟨gS,_,none⟩) hW).trans c0,(World.cell?_of_block (a:=⟨gS,_,none⟩) hW).trans c1,(World.cell?_of_block (a:=⟨gS,_,none⟩) hW).trans c2,(World.cell?_of_block (a:=⟨gS,_,none⟩) hW).trans c3,(World.cell?_of_block (a:=⟨gS,_,none⟩) hW).trans c4⟩)
 have TK:Hid (WC.heap.size≤gS∧gS<wc.heap.size):=hdd ⟨Q4,hgS⟩;have ak6:(LS.length:Int)≤(cL:Int):=aa;have ak7:(LS.length:Int)≤9223372036854775807:=aa;have n8:=hdd zl;have aeD:C<WC.heap.size∧L<WC.heap.size:=⟨EN.out.mod.CS,EN.out.mod.Br⟩
 have Vv:=hdd aeD;have C4:=hdd (show p<WC.heap.size from HPX.out.lt);clear hOS M' hmL bx hgS Q4 zl aeD;go_upto_region 10 with(refine(T5 _).mono ?_;rintro e w8 ⟨g,o,cap,rfl,hE8,qW,L6,sa⟩;have HE8:=hdd hE8;have pf:=hdd qW;have Of:=hdd (And.intro L6 sa);clear hE8 qW L6 sa)
 have HM8:Hid (MS (ah g) w8 C L k.lc k.lp k.pb um r1 (P1,zy) [g,o]):=hdd (by
  have fg:=aO n8.out pf.out;refine⟨EN.out.mod.aI (fg.block _ Vv.out.1) (fg.block _ Vv.out.2),⟨o,cap,rfl,HE8.out⟩,?_,?_⟩;·have:=Of.out;have:=Vv.out;have:=n8.out.size;simp only[List.mem_cons,List.not_mem_nil,or_false,not_or];omega
  ·have:=Of.out;have:=Vv.out;have:=n8.out.size;simp only[List.mem_cons,List.not_mem_nil,or_false,not_or];omega)
 have HI8:Hid (LZ k C L g [g,o] w8 w8 um r1 (P1,zy) (54*(b-a)+100)):=hdd ⟨⟨_,HM8.out,fun i hi=> .inl hi⟩,az.refl _ _,EN.out.st,EN.out.qo,⟨OI,by have:=pp.out;have:=HC.out.small;show 1+0+2*_≤_;omega⟩⟩;go_wp2_with fail;go_loopw [14,76] (fun pv iv wr=> ∃(i pl st:Nat) (r:R4) (x:fu),pv= .int .i64 (pl:Nat)∧iv= .int .i64 (i:Nat)∧Hid (LZ k C L g [g,o] w8 wr st r x (54*(b-pl)+100))∧Hid (LS.drop i=(ba k.D (k.dict:Nat) k.nice b (b-pl) pl r).1∧eX k.lc k.lp k.pb k.D LS a (um,r1,(P1,zy))=eX k.lc k.lp k.pb k.D (LS.drop i) pl (st,r,x))∧i≤LS.length∧pl≤b) (fun _ iv _=>LS.length-(intOf iv).toNat);case atStart=>exact⟨0,a,um,r1,(P1,zy),rfl,rfl,HI8,hdd ⟨by rw[←yT.out];rfl,rfl⟩,Nat.zero_le _,Nat.le_of_lt pp.out.1⟩
 case round=>
  obtain⟨i,pl,st,r,x,rfl,rfl,HI,HL,hi,O'⟩:=hrel;by_cases aF:i<LS.length;case neg=>
   have tr: ¬(i:Int)<(LS.length:Int):=aa;have Q5:LS.drop i=[]:=List.drop_eq_nil_of_le aa;have Og:Hid (eX k.lc k.lp k.pb k.D LS a (um,r1,(P1,zy))=(st,r,x)):=hdd (by rw[HL.out.2,Q5];rfl);obtain⟨X,hM,hX⟩:=HI.out.ms;obtain⟨oE,aeF,rfl,hE⟩:=hM.io;have aR:=HI.out.ok;have HKE:Hid (1+x.2.k+4≤140737488355328):=hdd (by obtain⟨_,h4⟩:=aR;omega);have iG:=hdd (Ll g oE aeF x.2 wr hE HKE.out);have QP:=hdd hM;clear aF Q5 hM hX hE aR hi;go_wp2_with fail;refine iG.out.mono ?_;rintro e w9 ⟨v9,rfl,Aj,vr⟩;go_wp2_with fail;go_ret2;have zz:it k a b (gL s)=(Rc.be (5+x.2.k) x.2.v,(st,r,x.1)):=(by rw[nu.out];unfold it;rw[yT.out];show(Rc.be (5+(eX k.lc k.lp k.pb k.D LS a (um,r1,(P1,zy))).2.2.2.k) _,_)=_;rw[Og.out]);rw[zz];have bU:az [C,L] WC wr:=by
    have h1:az [C,L] WC w8:=az.br (aO n8.out pf.out);refine h1.trans HI.out.only (fun i hi=> ?_);rcases List.mem_cons.1 hi with rfl | hi;·exact .inl ae
    ·rcases List.mem_cons.1 hi with rfl | hi;·exact .inl ae
     ·right;have:=Of.out;have:=n8.out.size;simp only[List.mem_cons,List.not_mem_nil,or_false]at hi;rcases hi with rfl | rfl<;>omega
   have wD:az [C,L] WC w9:=bU.trans (az.br vr) (fun i hi=> .inl hi);have CQ:w9.heap[p]? =WC.heap[p]? :=wD.block p C4.out (by simp only[List.mem_cons,List.not_mem_nil,or_false,not_or];exact H'.out);refine⟨v9,[C,L],rfl,Aj.weaken ?_,⟨PF C,HPX.out.aI CQ,C,L,rfl,rfl,⟨(QP.out.mod).aI (vr.block _ QP.out.mod.CS) (vr.block _ QP.out.mod.Br),HI.out.st,HI.out.qo⟩⟩,?_,fun i hi=>Vs.out i hi,Bf,by rw[Rc.fH];obtain⟨_,h4⟩:=HI.out.ok;omega⟩;·exact Nat.le_trans HOX.out.size bU.size
   ·refine HOX.out.trans wD (fun i hi=> ?_);rcases Vs.out i hi with h | h;·exact .inl dS
    ·exact .inr h
  case pos=>
   have tr:(i:Int)<(LS.length:Int):=aa;have Cb:pl<b:=by
    by_cases h:pl<b;·exact h
    ·have h1:=HL.out.1;rw[mB h]at h1;have h2:(LS.drop i).length=0:=(by rw[h1];rfl);rw[List.length_drop]at h2;omega
   have⟨S,hS⟩:=ex (fe k.D (k.dict:Nat) k.nice b pl r);have bJ:=(kb (D:=k.D) (dict:=(k.dict:Nat)) (nice:=k.nice) (r:=r) Cb pp.out.2 HC.out.small (ar HC.out.dict) HC.out.nice)
   have Hg:=BW (D:=k.D) (dict:=(k.dict:Nat)) (nice:=k.nice) (r:=r) Cb;have oa:=gJ (D:=k.D) (dict:=(k.dict:Nat)) (nice:=k.nice) (r:=r) Cb;rw[hS]at bJ Hg oa;have Dm:LS.drop i=S::(ba k.D (k.dict:Nat) k.nice b (b-(pl+max S.l 1)) (pl+max S.l 1) (du S r)).1:=(by rw[HL.out.1,oa]);have zv:=List.drop_eq_getElem_cons aF;have XV:LS[i]=S:=uU;have gI:LS.drop (i+1)=(ba k.D (k.dict:Nat) k.nice b (b-(pl+max S.l 1)) (pl+max S.l 1) (du S r)).1:=uU;have mi:(k.D.take pl).length=pl:=(by rw[List.length_take];have:=pp.out.2;omega);have bt:=bJ.fits;obtain⟨s',st',r',Z,L8,JZ,_,_,_⟩:=LY (g:=g) (lc:=k.lc) (lp:=k.lp) (pb:=k.pb) (a:=⟨k.D.take pl,st,r,x⟩) (k:=(S.k:Nat)) (b:=S.b) (l:=(S.l:Nat)) (d:=(S.d:Nat)) (q:=(S.r:Nat)) HI.out.qo (by show iI r ((k.D.take pl).length:Int) _ _ _ _=true;rw[mi];exact bt);have oP:r'=du S r:=JZ.trans (jw S bJ.k r);have⟨M,hM⟩:=ex (max S.l 1);have hMi:max (S.l:Int) 1=(M:Int):=aa;rw[hM]at Hg gI;have Og:Hid (eX k.lc k.lp k.pb k.D LS a (um,r1,(P1,zy))=eX k.lc k.lp k.pb k.D (LS.drop (i+1)) (pl+M) (st',r',Z)):=hdd (by
    rw[HL.out.2,zv,XV,←hM];exact EM L8)
   have qX:Hid (LS.drop (i+1)=(ba k.D (k.dict:Nat) k.nice b (b-(pl+M)) (pl+M) r').1):=hdd (by rw[gI,oP]);have fq:1≤M∧M≤100000:=(by have:=bJ.short;have:=HC.out.small;omega);have hMb:(M:Int)≤100000:=aa;have aeI:(pl:Int)≤100000:=(by have:=HC.out.small;have:=pp.out.2;omega);have sQ:(S.l:Int)≤273:=ar bJ.short;obtain⟨X,hMS,hX⟩:=HI.out.ms;have hsw:w8.heap.size≤wr.heap.size:=HI.out.only.size;have Cc:WC.heap.size≤w8.heap.size:=Nat.le_trans n8.out.size pf.out.size;have Q': ∀j∈X,WC.heap.size≤j:=fun j hj=>by
    rcases hX j hj with h | h;·have:=Of.out;have:=n8.out.size;simp only[List.mem_cons,List.not_mem_nil,or_false]at h;rcases h with rfl | rfl<;>omega
    ·exact Nat.le_trans Cc h
   have Q6:wr.heap[gS]? =wc.heap[gS]? :=(by refine(HI.out.only.block gS (Nat.lt_of_lt_of_le TK.out.2 pf.out.size) ?_).trans (pf.out.block gS TK.out.2);have:=Of.out;have:=TK.out;have:=Vv.out;simp only[List.mem_cons,List.not_mem_nil,or_false,not_or];omega);obtain⟨q0,q1,q2,q3,q4⟩:=NU.out i aF wr Q6;rw[XV]at q0 q1 q2 q3 q4;rw[Nat.mul_comm 5 i]at q0 q1 q2 q3 q4;have⟨W2,jT⟩:=ex (wr.alloc (.cells #[.int .i64 (S.k:Nat),.int .u8 (S.b.toNat:Nat),.int .i64 (S.l:Nat),.int .i64 (S.d:Nat),.int .i64 (S.r:Nat)] 158));have iD:W2.heap[wr.heap.size]? =some (.cells (bB [S]).toArray 158 (0,0)):=vM;have aE:Below wr.heap.size wr W2:=vK;have kt:Below WC.heap.size WC w8:=aO n8.out pf.out;have XW:W2.heap[p]? =WC.heap[p]? :=(by refine(aE.block p (Nat.lt_of_lt_of_le C4.out (Nat.le_trans Cc hsw))).trans ((HI.out.only.block p (Nat.lt_of_lt_of_le C4.out Cc) ?_).trans (kt.block p C4.out));have:=Of.out;have:=C4.out;have:=n8.out.size;have:=H'.out;simp only[List.mem_cons,List.not_mem_nil,or_false,not_or];omega);have Ae:eJ W2 p k (PF C) had:=HPX.out.aI XW;have hD2:Bytes W2 k.A k.D:=by
    have h1:Below w0.heap.size w0 w8:=aO Xj.out kt;have h2:Below w0.heap.size w0 wr:=h1.trans (HI.out.only.below h1.size (fun j hj=>by
     have:=Of.out;have:=PR.out;have:=Xj.out.size;have:=n8.out.size;simp only[List.mem_cons,List.not_mem_nil,or_false]at hj;rcases hj with rfl | rfl | rfl | rfl<;>omega))
    exact HC.out.bytes.below (aO h2 aE)
   have Hy:Hid (∀W,Below W2.heap.size W2 W→Calls prog 124 #[PF C,PF g,.slice k.A pl k.cD,j2 (S.k:Nat) S.b (S.l:Nat) (S.d:Nat) (S.r:Nat)] W (mm (s'.k≤2∧s'.r≤3∧s'.l≤273∧(s'.d:Int)≤4294967296∧st'<12∧dL r'∧(ah g).ok Z.2 (54*(b-(pl+M))+100)) (jy (.int .i64 0) (ah g) C L k.lc k.lp k.pb st' r' Z X W))):=hdd (fun W hW=>by
    have hMW:MS (ah g) W C L k.lc k.lp k.pb st r x X:=(hMS.below aE).below hW;have hDW:Bytes W k.A (k.D.take pl):=(hD2.below hW).take pl;have h:=UV hMW HC.out.lc HC.out.lp HC.out.pb HI.out.st HI.out.qo (k:=54*(b-(pl+M))+100) k.A (k.D.take pl) k.cD hDW (by rw[mi];have:=HC.out.cap;have:=pp.out.2;omega) (by rw[mi];have:=HC.out.small;have:=pp.out.2;omega) (fun a' ha'=>by
     rw[HC.out.addr]at ha';injection ha' with ha';subst ha'
     have h1:=HC.out.ax;have h2:=PR.out;have h3:=Xj.out.size;simp only[List.mem_cons,not_or];exact⟨aa,aa,fun hj=>ar (Q' _ hj)⟩) (S.k:Nat) S.b (S.l:Nat) (S.d:Nat) (S.r:Nat) (by rw[mi];exact bt) L8 ((ah g).le HI.out.ok aa)
    rw[mi]at h;exact h)
   have zL:=hdd hX;have HXG:=hdd Q';have HXL:Hid (∀j∈X,j<wr.heap.size):=hdd (fun j hj=>(ah g).lt hMS.io j hj);have alb:Hid (C<wr.heap.size∧L<wr.heap.size):=hdd ⟨hMS.mod.CS,hMS.mod.Br⟩;have R':Hid (∀W:World,W.heap[p]? =W2.heap[p]? →W.heap[wr.heap.size]? =W2.heap[wr.heap.size]? →W.cell? ⟨p,0,none⟩=some (.slice k.A k.D.length k.cD)∧W.cell? ⟨p,11,none⟩=some (PF C)∧W.cell? ⟨wr.heap.size,0,none⟩=some (.int .i64 (S.k:Nat))∧W.cell? ⟨wr.heap.size,1,none⟩=some (.int .u8 (S.b.toNat:Nat))∧W.cell? ⟨wr.heap.size,2,none⟩=some (.int .i64 (S.l:Nat))∧W.cell? ⟨wr.heap.size,3,none⟩=some (.int .i64 (S.d:Nat))∧W.cell? ⟨wr.heap.size,4,none⟩=some (.int .i64 (S.r:Nat))):=hdd (fun W h1 h2=>by
    have hP:=Ae.aI h1;have hr:=h2.trans iD;exact⟨hP.data,hP.F4,qZ,qZ,qZ,qZ,qZ⟩)
   have Bx:Hid (∀w':World,fZ (ah g) C L k.lc k.lp k.pb st' r' Z X W2.drew w'→w'.cell? ⟨p,0,none⟩=some (.slice k.A k.D.length k.cD)∧w'.cell? ⟨p,11,none⟩=some (PF C)∧w'.cell? ⟨wr.heap.size,0,none⟩=some (.int .i64 (S.k:Nat))∧w'.cell? ⟨wr.heap.size,1,none⟩=some (.int .u8 (S.b.toNat:Nat))∧w'.cell? ⟨wr.heap.size,2,none⟩=some (.int .i64 (S.l:Nat))∧w'.cell? ⟨wr.heap.size,3,none⟩=some (.int .i64 (S.d:Nat))∧w'.cell? ⟨wr.heap.size,4,none⟩=some (.int .i64 (S.r:Nat))):=hdd (fun w' hw=>by
    obtain⟨X',_,bU,_⟩:=hw;have C6:p<wr.heap.size:=Nat.lt_of_lt_of_le C4.out (Nat.le_trans Cc hsw);refine R'.out w' (bU.block p (Nat.lt_of_lt_of_le C6 aE.size) ?_) (bU.block wr.heap.size (by show wr.heap.size<W2.heap.size;exact(cr iD)) ?_);·have:=H'.out;have h3:=C4.out;simp only[List.mem_cons,not_or];exact⟨this.1,this.2,fun hj=>ar (HXG.out _ hj)⟩
    ·have:=alb.out;simp only[List.mem_cons,not_or];exact⟨aa,aa,fun hj=>ar (HXL.out _ hj)⟩)
   have HT:=hdd (And.intro aF (And.intro Hg fq));have dY:=hdd aE;have vk:=hdd jT;have Qv:(pl:Int)≤(k.D.length:Int):=ar pp.out.2;have hpc:(pl:Int)≤(k.cD:Int):=(by have:=pp.out.2;have:=HC.out.cap;omega);have hdc:(k.D.length:Int)≤(k.cD:Int):=ar HC.out.cap;obtain⟨p0,p11,b0,b1,b2,b3,b4⟩:=R'.out W2 rfl rfl;clear hS bJ Hg oa Dm zv XV gI mi bt L8 JZ oP hM hMS hX hsw Cc Q' Q6 iD aE kt XW Ae hD2 jT aF fq O' hi Cb;go_upto_region 14 with fail;rw[vk.out];have bE:Below W2.heap.size W2 W2.drew:=⟨rfl,rfl,rfl,Nat.le_refl _,fun _ _=>rfl⟩
   have uB:=And.intro p0 (And.intro p11 (And.intro b0 (And.intro b1 (And.intro b2 (And.intro b3 b4)))));clear p0 p11 b0 b1 b2 b3 b4 q0 q1 q2 q3 q4;refine wp_region_held_drew (S:=fun w2=>w2.cell? ⟨p,0,none⟩=some (.slice k.A k.D.length k.cD)∧w2.cell? ⟨p,11,none⟩=some (PF C)∧w2.cell? ⟨wr.heap.size,0,none⟩=some (.int .i64 (S.k:Nat))∧w2.cell? ⟨wr.heap.size,1,none⟩=some (.int .u8 (S.b.toNat:Nat))∧w2.cell? ⟨wr.heap.size,2,none⟩=some (.int .i64 (S.l:Nat))∧w2.cell? ⟨wr.heap.size,3,none⟩=some (.int .i64 (S.d:Nat))∧w2.cell? ⟨wr.heap.size,4,none⟩=some (.int .i64 (S.r:Nat))) ak uB (fun hS=> ?_);refine af 0 hS (h:=af 1 hS (h:=af 2 hS (h:=aZ 3 hS (h:=af 4 hS (h:=af 5 hS (h:=af 6 hS (h:=af 7 hS (h:=aZ 8 hS (h:=af 9 hS (h:=af 10 hS (h:=aZ 11 hS (h:= ?_))))))))))));refine aG 12 (fun K hK=> ?_);go_simp;refine(Hy.out _ bE).mono ?_;rintro e Vw ⟨⟨rfl,EO⟩,hQ⟩;have HWE:=hdd EO;have HQQ:=hdd hQ;clear EO hQ;have g12:=Bx.out _ HWE.out;go_wp2_with fail;refine hK.out _ _ g12 (fun _=> ?_);clear hK K;refine af 13 g12 (h:= ?_);refine wpAnyH_done ak ?_ _;obtain⟨_,_,_,_,b2,_,_⟩:=Bx.out Vw HWE.out;have HI2:Hid (LZ k C L g [g,o] w8 Vw st' r' Z (54*(b-(pl+M))+100)):=hdd (by
    have alc:Below wr.heap.size wr W2.drew:=aO dY.out bE;exact LZ.put zL.out HI.out.only alc HWE.out HQQ.out.2.2.2.2.1 HQQ.out.2.2.2.2.2.1 HQQ.out.2.2.2.2.2.2)
   have kZ:Hid (i+1≤LS.length∧pl+M≤b):=hdd ⟨ar HT.out.1,ar HT.out.2.1⟩;have e1:Hid ((pl:Int)+(M:Int)=((pl+M:Nat):Int)):=hdd aa;have e2:Hid ((i:Int)+1=((i+1:Nat):Int)):=hdd aa;clear hS g12 bE uB R' Bx;go_wp2_with fail;go_roundw;case rel=>exact⟨i+1,pl+M,st',r',Z,by rw[←e1.out],by rw[←e2.out],HI2,hdd ⟨qX.out,Og.out⟩,kZ.out.1,kZ.out.2⟩
   case measure=>have:=HT.out.1;simp[intOf];omega
def sc(k:fG):UInt8:=UInt8.ofNat (k.lc+9*(k.lp+5*k.pb))
def fv(k:fG)(a b:Nat)(s:eK)(had:Bool)(r:List UInt8):List UInt8:=
 (([rW a had s]++nt (b-a-1))++nt (r.length-1))++(if 192≤rW a had s then [sc k]else [])++r
def aK(k:fG)(a b:Nat)(s:eK)(had:Bool):List UInt8×eK×Bool:=
 let r:=it k a b (gL s)
 if b-a+3≤(fv k a b s had r.1).length∨65536<r.1.length then(d6 k.D a b,none,had)else(fv k a b s had r.1,some r.2,true)
def L9(w:World)(p:Nat)(k:fG)(Y:List Nat)(r:List UInt8×eK×Bool)(e:Ending)(w':World):Prop:=
 ∃v Y',e= .returned (.tuple #[v,.int .i64 0])∧Own w.heap.size w' v r.1∧Pk w' p k r.2.1 r.2.2 Y'∧az (p::Y) w w'∧ ∀i∈Y',i∈Y∨w.heap.size≤i
theorem Own.xF{base:Nat}{v:Value}{l:List UInt8}(h:Own base w v l)(hb: ∀g,v.ownBlock=some g→w'.heap[g]? =w.heap[g]?):Own base w' v l:=by
 rcases h with⟨h1,h2 | ⟨g,cap,cur,h2,h3,h4,h5⟩⟩
 ·exact⟨h1,.inl h2⟩
 ·exact⟨h1,.inr ⟨g,cap,cur,h2,h3,(hb g (by rw[h2];rfl)).trans h4,h5⟩⟩
theorem Ma{k:fG}{s:eK}(c:PkC w0 k AF cF mp B bD oD)(hb:Below w0.heap.size w0 w)(h:Pk w p k s had Y)(hp:w0.heap.size≤p)(hY: ∀i∈Y,w0.heap.size≤i)(a b:Nat)(Aa:a<b)(fF:b≤k.D.length):
  Calls prog 42 #[PF p,.int .i64 (a:Nat),.int .i64 (b:Nat)] w (L9 w p k Y (aK k a b s had)):=by
 have HCT:=hdd (Ew h a);have QT:=hdd (Vr c hb h hp hY a b Aa fF);obtain⟨⟨R,s2⟩,hR⟩: ∃r,it k a b (gL s)=r:=⟨_,rfl⟩
 have⟨x,hx⟩:=ex (rW a had s);obtain⟨T1,qV⟩: ∃T,nt (b-a-1)=T:=⟨_,rfl⟩
 obtain⟨T2,rx⟩: ∃T,nt (R.length-1)=T:=⟨_,rfl⟩
 have⟨P,hP⟩:=ex ((if 192≤x then [sc k]else []));have⟨O,hO⟩:=ex (((([x]++T1)++T2)++P)++R);have⟨RES,S'⟩:=ex (aK k a b s had);rw[hx]at HCT;rw[hR]at QT;have Gu:fv k a b s had R=O:=by unfold fv;rw[hx,qV,rx,hP,hO]
 have tA:Hid (RES=if b-a+3≤O.length∨65536<R.length then(d6 k.D a b,none,had)else(O,some s2,true)):=hdd (by rw[←S'];unfold aK;rw[hR];show(if b-a+3≤(fv k a b s had R).length∨_ then _ else _)=_;rw[Gu]);rw[S'];have tB:=hdd (fun W=>mx (b-a-1) (ar c.small) W);have T':Hid (5≤R.length→R.length+100≤140737488355328→ ∀W,Calls prog 77 #[.int .i64 (R.length:Nat)] W (li W T2)):=hdd (fun h1 h2 W=>by
  have h:=mx (R.length-1) aa W;rw[show R.length-1+1=R.length by omega,rx]at h;exact h)
 rw[show((b-a-1+1:Nat):Int)=(b:Int)-(a:Int) by omega,qV]at tB;have KR:Hid (T1.length=2):=hdd (by rw[←qV];rfl);have kZ:Hid (T2.length=2):=hdd (by rw[←rx];rfl);have Tw:Hid (P.length≤1):=hdd (by rw[←hP];split<;>simp);have HP:=hdd hP;have⟨q,hq⟩:=ex (decide ((192:Int)≤(x.toNat:Int)));have HQ:Hid (q=true↔192≤x):=hdd (by
  rw[←hq,decide_eq_true_iff,UInt8.le_iff_toNat_le];show _↔192≤x.toNat;omega)
 have HO:=hdd hO;have HC:=hdd c;have HB:=hdd hb;have XU:=hdd (And.intro hp hY);have pp:=hdd (And.intro Aa fF);have yI:=hdd h.lt;have Dg:(a:Int)<(b:Int):=aa;have G9:(k.D.length:Int)≤100000:=ar c.small;have nw:(b:Int)≤(k.D.length:Int):=aa;clear c hb h hp hY Aa fF hR hx Gu S' qV rx hP hO;go_enter func42,ntmps42;go_wp2_with fail;refine HCT.out.mono ?_;rintro e w1 ⟨rfl,rfl⟩;go_wp2_with fail;refine QT.out.mono ?_;rintro e w2 ⟨v2,Y2,rfl,j6,Ae,cC,rY,Ko,U'⟩;simp only at j6 Ae Ko U';obtain⟨AR,cR,rfl,_,_,hBR⟩:=j6.read;have⟨W3,jD⟩:=ex (w2.alloc (.cells #[B8 x] 5));have gW:Own w2.heap.size W3 (.slice (some ⟨w2.heap.size,0,none⟩) 1 1) [x]:=by rw[←jD];exact Own.lit w2 [x] (Nat.le_refl _) ae
 have aW:Below w2.heap.size w2 W3:=by rw[←jD];exact ap
 have F0:=hdd hBR;have V':=hdd Ae;have mj:=hdd cC;have N5:=hdd rY;have Q7:=hdd (And.intro Ko U');have C7:=hdd jD;have GZ:=hdd gW;have fc:=hdd aW;have hRi:(R.length:Int)≤140737488355328:=aa;clear j6 Ae cC rY Ko U' hBR jD gW aW HCT QT;go_wp2_with fail;rw[show w2.alloc (Obj.cells #[B8 x] 5)=W3 from C7.out];refine(tB.out _).mono ?_;rintro e w4 ⟨v4,rfl,cH,bc⟩;obtain⟨A4,c4,rfl,_,_,uH⟩:=cH.read;have iz:=hdd (aO fc.out bc);have Q8:=hdd (GZ.out.below bc);have Z':=hdd uH;clear cH bc uH;go_upto_region 6 with(at_builtin;refine aj ?_ (.tmp 26) (.tmp 30) ?_ w2.heap.size w4 (.slice (some ⟨w2.heap.size,0,none⟩) 1 1) [x] ?_ Q8.out A4 T1 c4 ?_ Z'.out uV iz.out.size ?_;rfl;rfl;rfl;rfl;intro v5 w5 iZ iM;have CY:=hdd iZ;have sP:=hdd (am iz.out iM iz.out.size (fun g e=>(Q8.out.aw g e).1));clear iZ iM)
 go_wp2_with fail;refine(T'.out Q7.out.1 Q7.out.2 _).mono ?_;rintro e w6 ⟨v6,rfl,mV,oV⟩;obtain⟨A6,c6,rfl,_,_,Mb⟩:=mV.read;have uN:=hdd (aO sP.out oV);have Q9:=hdd (CY.out.below oV);have a_:=hdd Mb;clear mV oV Mb;go_upto_region 7 with(at_builtin;refine aj ?_ (.tmp 32) (.tmp 35) ?_ w2.heap.size w6 v5 ([x]++T1) ?_ Q9.out A6 T2 c6 ?_ a_.out JE uN.out.size ?_;rfl;rfl;rfl;rfl;intro v7 w7 tk Hz;have XX:=hdd tk;have zw:=hdd (am uN.out Hz uN.out.size (fun g e=>(Q9.out.aw g e).1));clear tk Hz)
 go_upto_if 38 with fail;go_cut [11]from 39 (fun s11 wx=>Own w2.heap.size wx s11 ((([x]++T1)++T2)++P)∧Below w2.heap.size w2 wx);case first=>
  cases q with
  | true=>
   have hx:=HQ.out.1 rfl;have uh:P=[sc k]:=(by rw[←HP.out,if_pos hx]);obtain⟨cv,Ra,_⟩:=(V'.out.below zw.out).ex;obtain⟨o4,o5,o6,o7,o8,o9⟩:=Ra.opts;have o1:=Ra.lc;have o2:=Ra.lp;have o3:=Ra.pb;have HPR:=hdd (Ln k.lc k.lp k.pb k.nice k.chunk k.block k.check k.chain k.dict HC.out.lc HC.out.lp HC.out.pb w7);clear hx Ra;go_wp2_with fail;refine HPR.out.mono ?_;rintro e w8 ⟨rfl,qW⟩;have⟨y,hy⟩:=ex (UInt8.ofNat (k.lc+9*(k.lp+5*k.pb)));have Ae:P=[y]:=(by rw[uh,←hy];rfl);rw[hy];have⟨W9,Vx⟩:=ex (w8.alloc (.cells #[B8 y] 5));have HW9:=hdd Vx;have HX9:Hid (Bytes W9 (some ⟨w8.heap.size,0,none⟩) [y]):=hdd (by rw[←Vx];exact Bytes.one w8 y);have H7:Below w7.heap.size w7 W9:=(by rw[←Vx];exact qW.alloc qW.size _);have uQ:=hdd (aO zw.out H7);have Rb:=hdd (XX.out.below H7);have b_:=hdd Ae;clear o1 o2 o3 o4 o5 o6 o7 o8 o9 uh Ae hy Vx qW H7;go_wp2_with (at_builtin;rw[HW9.out];refine aj ?_ (.tmp 39) (.tmp 45) ?_ w2.heap.size W9 v7 (([x]++T1)++T2) ?_ Rb.out (some ⟨w8.heap.size,0,none⟩) [y] 1 ?_ HX9.out JF uQ.out.size ?_;rfl;rfl;rfl;rfl;intro v10 Re ob Cd;have Ia:=hdd ob;have n8:=hdd (am uQ.out Cd uQ.out.size (fun g e=>(Rb.out.aw g e).1));clear ob Cd)
   go_meet;exact⟨by rw[b_.out];exact Ia.out,n8.out⟩
  | false=>
   have hx: ¬192≤x:=fun h=>Bool.noConfusion (HQ.out.2 h);have uh:P=[]:=(by rw[←HP.out,if_neg hx]);have LJ:=hdd uh;clear hx uh;go_wp2_with fail;go_meet;exact⟨by rw[LJ.out,List.append_nil];exact XX.out,zw.out⟩
 case rest=>
 obtain⟨sa,qW⟩:=hcut;have HO8:=hdd sa;have pf:=hdd qW;clear sa qW;go_upto_region 10 with(at_builtin;refine aj ?_ (.tmp 47) (.tmp 48) ?_ w2.heap.size wc u11 ((([x]++T1)++T2)++P) ?_ HO8.out AR R cR ?_ (F0.out.below pf.out) (by have:=Q7.out.2;have:=Tw.out;rw[List.length_append,List.length_append,List.length_append,KR.out,kZ.out];show 1+2+2+P.length+R.length≤140737488355328;omega) pf.out.size ?_;rfl;rfl;rfl;rfl;intro v9 w9 Aj c_;rw[HO.out]at Aj;have HO9:=hdd Aj;have uQ:=hdd (am pf.out c_ pf.out.size (fun g e=>(HO8.out.aw g e).1));clear Aj c_)
 obtain⟨A9,c9,XY,_,Ib,_⟩:=HO9.out.read;have Rf:=V'.out.below uQ.out;have oO:p<w2.heap.size:=Nat.lt_of_lt_of_le yI.out mj.out.size;have Vy:Below w0.heap.size w0 w9:=by
  have h2:Below w0.heap.size w0 w2:=HB.out.trans (mj.out.below HB.out.size (fun i hi=>by
   rcases List.mem_cons.1 hi with rfl | hi;·exact XU.out.1
   ·exact XU.out.2 i hi))
  exact aO h2 uQ.out
 have aeO:=hdd (LI Rf HC.out.addr (HC.out.bytes.below Vy) (by have:=HC.out.ax;have:=XU.out.1;omega) HC.out.cap HC.out.small a b pp.out.1 pp.out.2);have hOi:(O.length:Int)≤9223372036854775807:=by have h:=Q7.out.2;have h2:=Tw.out;rw[←HO.out,List.length_append,List.length_append,List.length_append,List.length_append,KR.out,kZ.out];show((1+2+2+P.length+R.length:Nat):Int)≤_;omega
 by_cases h1:b-a+3≤O.length;·have iE:Hid (b-a+3≤O.length∨65536<R.length):=hdd (.inl h1);have Un:(b:Int)-(a:Int)+3≤(O.length:Int):=aa;subst XY;clear h1 Rf oO Vy Ib;·skip;go_wp2_with fail;refine aeO.out.mono ?_;rintro e Re ⟨v10,rfl,ob,Rg,EP⟩;have Ia:=hdd ob;have d_:=hdd Rg;have Rh:=hdd EP;clear ob Rg EP;go_wp2_with fail;go_ret2;have tc:RES=(d6 k.D a b,none,had):=(by rw[tA.out];exact if_pos iE.out);rw[tc];refine⟨v10,[],rfl,Ia.out.weaken (Nat.le_trans mj.out.size uQ.out.size),d_.out,?_,fun i hi=>by cases hi⟩;exact(mj.out.trans (az.br uQ.out) (fun i hi=> .inl hi)).trans Rh.out (fun i hi=> .inl JG)
 ·have Un: ¬(b:Int)-(a:Int)+3≤(O.length:Int):=by omega
  by_cases h2:65536<R.length;·have iE:Hid (b-a+3≤O.length∨65536<R.length):=hdd (.inr h2);have Xa:(65536:Int)<(R.length:Int):=aa;subst XY;clear h1 h2 Rf oO Vy Ib;go_wp2_with fail;refine aeO.out.mono ?_;rintro e Re ⟨v10,rfl,ob,Rg,EP⟩;have Ia:=hdd ob;have d_:=hdd Rg;have Rh:=hdd EP;clear ob Rg EP;go_wp2_with fail;go_ret2;have tc:RES=(d6 k.D a b,none,had):=(by rw[tA.out];exact if_pos iE.out);rw[tc];refine⟨v10,[],rfl,Ia.out.weaken (Nat.le_trans mj.out.size uQ.out.size),d_.out,?_,fun i hi=>by cases hi⟩;exact(mj.out.trans (az.br uQ.out) (fun i hi=> .inl hi)).trans Rh.out (fun i hi=> .inl JG)
  ·have iE:Hid (¬(b-a+3≤O.length∨65536<R.length)):=hdd (fun h=>h.elim h1 h2);have Xa: ¬(65536:Int)<(R.length:Int):=aa;obtain⟨cv,hPw,hCw⟩:=Rf.ex;have c12:=hPw.ad2;have f12:=hPw.frozen 12;have C4:=hdd hPw;have Vv:=hdd hCw;have CO:=hdd oO;have HV9:=hdd XY;subst XY;clear h1 h2 Rf oO Vy Ib hPw hCw;go_wp2_with fail;go_ret2;have tc:RES=(O,some s2,true):=(by rw[tA.out];exact if_neg iE.out);rw[tc];have hpO:=(show Pk w9 p k (some s2) had Y2 from⟨cv,C4.out,Vv.out⟩).own HO9.out;refine⟨_,Y2,rfl,((HO9.out.xF (fun g hg=>ag _ _ _ _ (by show g≠p;intro e;subst e;exact hpO _ hg ae))).weaken mj.out.size),⟨cv,C4.out.Z3 true,?_⟩,?_,N5.out⟩;·refine Vv.out.aI fun i hi=>ag _ _ _ _ ?_;show i≠p;intro e;subst e;exact Vv.out.apart C4.out an an hi
   ·exact(mj.out.trans (az.br uQ.out) (fun i hi=> .inl hi)).setCell (.inl ae) _
section
open Go Go.RowKit
variable{F:Fence}{n:Nat}{P:Program}
def aeP(F:Fence)(n:Nat)(P:Program)(g:Nat)(lb:Array Value)(b1 b2:Nat)(L:List (Nat×Nat))(w:World):Prop:=
 ∀(l:Nat) (J:List (Nat×Nat)→World→Prop) (W:World),(∀s W,J s W→W.heap[b1]? =w.heap[b1]? ∧W.heap[b2]? =w.heap[b2]?)→
  (∀pre x t W1,L=pre++x::t→J pre W1→YieldAt F (n-1) P l #[.int .i64 (x.1:Nat),.int .i64 (x.2:Nat)] W1 fun e W'=>e= .returned (.bool true)∧J (pre++[x]) W')→
  J [] W→
  CallsIn F n P g (#[.func (.yield l) #[] #[]]++lb) W fun e W'=>(∃v,e= .returned v)∧J L W'
def Vz(I:List (Nat×Nat)→World→Prop)(xs:List (Nat×Nat))(W:World):Exit→Act→World→Prop
 | .normal,_,W'=>KeepsOthers W W'∧I xs W'
 | _,_,_=>False
theorem Ce{g:Operand}{ps:Array Tmp}{assign body:Code}{Q:Exit→Act→World→Prop}{a:Act}{w:World}
  (kp:F.round=none) (h1:1≤n) {gf:Nat} {lb:Array Value} (hg:a.eval g= .func (.func gf) #[] lb) (hFg:F.fn gf) (eg: ∀args w,(callFunc gf args).run P w= .ok (.enter gf args) w)
  {L:List (Nat×Nat)} {b1 b2:Nat} {w0:World} (Ec:aeP F (n-1) P gf lb b1 b2 L w0) (C6:ps.size=2)
  (I:List (Nat×Nat)→World→Prop)
  (hIa: ∀s W o,I s W→I s (W.alloc o)) (Qa: ∀s W l o o',I s W→w.heap.size≤l→W.heap[l]? =some o→o.isCells=false→I s (W.putObj l o')) (hIb: ∀s W,I s W→W.heap[b1]? =w0.heap[b1]? ∧W.heap[b2]? =w0.heap[b2]?) (h0:I [] w) (a₁:Nat×Nat→Act)
  (rQ: ∀(l:Nat) (x:Nat×Nat) (W:World) (K:Act→World→Prop),K (a₁ x) W→
   assign.wpIn (F.inRound l) (n-1-1) P (Exit.then K (fun _ _ _=>False)) {tmps:=(ps.zip #[.int .i64 (x.1:Nat),.int .i64 (x.2:Nat)]).foldl (fun t (p,v)=>t.setIfInBounds p v) a.tmps,defers:=[]} W)
  (Ed: ∀(l:Nat) (pre:List (Nat×Nat)) (x:Nat×Nat) (t:List (Nat×Nat)) (W:World),L=pre++x::t→I pre W→body.wpIn (F.inRound l) (n-1-1) P (Vz I (pre++[x]) W) (a₁ x) W)
  (tV: ∀(D:Nat) (W:World),w.heap.size≤D→I L W→W.heap[D]? =some (.deferred (some []))→Q .normal {a with defers:={target:= .collected D,args:= #[]}::a.defers} W):
  (Code.rangeFunc g ps assign body).wpIn F n P Q a w:=by
 refine wpIn_rangeFunc fun fn F3=> ?_;rw[kp];obtain⟨oc,eT⟩: ∃rec:LoopState→Loop,rec=fun st=>{state:=st,pending:=none,fn,tmps:=a.tmps,params:=ps,assign,body,defers:=w.heap.size}:=⟨_,rfl⟩
 have⟨W1,dE⟩:=ex ((w.alloc (.deferred (some []))).alloc (.loop (oc .ready)));have UZ:W1.heap[w.heap.size+1]? =some (.loop (oc .ready)):=by rw[←dE];have:=World.alloc_heap_new (w.alloc (.deferred (some []))) (.loop (oc .ready));rwa [World.size_alloc]at this
 have Xw:W1.heap[w.heap.size]? =some (.deferred (some [])):=by rw[←dE];exact(Below.heap_alloc _ _ _ ae).trans (World.alloc_heap_new w _)
 have hI1:I [] W1:=Ge
 refine⟨w.heap.size+1,[{target:= .collected w.heap.size,args:= #[]}],W1,{target:= .fn (.func gf) lb,args:= #[.func (.yield (w.heap.size+1)) #[] #[]]},W1,gf,
  #[.func (.yield (w.heap.size + 1)) #[] #[]] ++ lb, W1, ?_, ?_, ?_, ?_, fun _ => h1, ?_⟩
 ·rw[←dE,eT];exact run_enterLoop_outer _ _ _ _ _
 ·simp only[resolve,hg];simp[go_sem]
 ·intro f' Xx;simp[Target.leads]at Xx;subst Xx;exact hFg
 ·simp[invoke,go_sem,eg]
 ·refine(Ec (w.heap.size+1)
   (fun pre W=>I pre W∧W.heap[w.heap.size+1]? =some (.loop (oc .ready))∧W.heap[w.heap.size]? =some (.deferred (some [])))
   W1 (fun s W hs=>hIb s W hs.1) ?_ ⟨hI1,UZ,Xw⟩).mono ?_
  ·rintro pre x t W jv ⟨hi,hl,hk⟩;have aF:w.heap.size+1<W.heap.size:=(cr hl)
   have hy:=run_yield (P:=P) (args:= #[.int .i64 (x.1:Nat),.int .i64 (x.2:Nat)]) hl (by rw[eT];simp[C6]);rw[eT]at hy;refine⟨fn,_,assign,body,hy,roundIn_of_wpIn F3 (rQ _ x W _ ⟨_,run_beginRound hl (by rw[eT]),?_⟩)⟩;have qT:(W.putObj (w.heap.size+1) (.loop {oc .ready with state:= .busy})).heap[w.heap.size+1]? =some (.loop {oc .ready with state:= .busy}):=World.putObj_heap_same aF;have my:(W.putObj (w.heap.size+1) (.loop {oc .ready with state:= .busy})).heap[w.heap.size]? =some (.deferred (some [])):=(World.putObj_heap_other aa).trans hk;refine wpIn_mono (Ed _ pre x t _ jv (Qa _ _ _ _ _ hi aa hl rfl)) ?_;rintro e a3 W3 hp;cases e with
   | normal=>
    obtain⟨qU,UU⟩:=hp;have rR:=qU.same _ _ qT rfl;have VA:=run_endRound (P:=P) none rR;rw[eT]at VA rR;refine⟨_,_,VA,rfl,Qa _ _ _ _ _ UU aa rR rfl,?_,(World.putObj_heap_other aa).trans (qU.same _ _ my rfl)⟩;rw[eT];exact World.putObj_heap_same (cr rR)
   | ret=>exact hp.elim
   | exit id=>exact hp.elim
   | goto t=>exact hp.elim
   | panic ch=>exact hp.elim
   | outgrown=>exact hp.elim
  ·rintro e W2 ⟨⟨v,rfl⟩,hi,hl,hk⟩;exact⟨none,_,Gf,tV _ _ (Nat.le_refl _) (Qa _ _ _ _ _ hi aa hl rfl) ((World.putObj_heap_other aa).trans hk)⟩
end
section
open Go.RowKit Go.Shelf
attribute [local go_sem] Oper.semAt_some
def partsOf(n c:Nat):Nat→Nat→List (Nat×Nat)
 | 0,_=>[]
 | f+1,a=>if a<n then(a,min (a+c) n)::partsOf n c f (a+c)else []
theorem sd(n c:Nat)(hc:1≤c): ∀(f g a:Nat),n-a≤f→n-a≤g→partsOf n c f a=partsOf n c g a
 | 0,0,a,_,_=>rfl
 | 0,g+1,a,h,_=>by unfold partsOf;rw[if_neg aa]
 | f+1,0,a,_,h=>by unfold partsOf;rw[if_neg aa]
 | f+1,g+1,a,h1,h2=>by
  unfold partsOf;by_cases hp:a<n;·rw[if_pos hp,if_pos hp,sd n c hc f g _ aa aa]
  ·rw[if_neg hp,if_neg hp]
def dF(n c a:Nat):List (Nat×Nat):=partsOf n c (n-a) a
theorem jf{n c a:Nat}(hc:1≤c)(h:a<n):dF n c a=(a,min (a+c) n)::dF n c (a+c):=by
 unfold dF;obtain⟨f,hf⟩: ∃f,n-a=f+1:=⟨n-a-1,aa⟩
 rw[hf];conv=>lhs;unfold partsOf
 rw[if_pos h,sd n c hc f (n-(a+c)) _ aa aa]
theorem fw{n c a:Nat}(h: ¬a<n):dF n c a=[]:=by unfold dF;rw[show n-a=0 by omega];rfl
theorem Mc(F:Fence)(m:Nat)(F3:F.fn 74)(kp:F.round=none)(hm:1≤m)(n c b1 b2:Nat)(hc:1≤c)(XJ:c≤65536)(hn:n≤4611686018427387904)(w:World)(ly:aQ b1 w (.int .i64 (n:Nat)))(jo:aQ b2 w (.int .i64 (c:Nat))):
  aeP F m prog 74 #[PF b1,PF b2] b1 b2 (dF n c 0) w:=by
 obtain⟨f1,f2,f4,f3⟩:=F;obtain rfl:f3=none:=kp;intro l J W Ty hY h0;have HC:Hid (∀s W,J s W→W.cell? ⟨b1,0,none⟩=some (.int .i64 (n:Nat))∧W.cell? ⟨b2,0,none⟩=some (.int .i64 (c:Nat))):=hdd (fun s W h=>by
  obtain⟨k1,k2⟩:=Ty s W h;exact⟨(ly.aI k1).cell,(jo.aI k2).cell⟩)
 have HY:=hdd hY;have KS:=hdd h0;have sO:(n:Int)≤4611686018427387904:=aa;have tY:(c:Int)≤65536:=aa;have HCC:=hdd (And.intro hc hn);obtain⟨c1,c2⟩:=HC.out _ _ h0;clear ly jo Ty hY h0 hc;refine callsIn_of_wp func74 rfl F3 ?_ rfl;simp only[ntmps74,List.size_toArray,List.length_cons,List.length_nil,Nat.reduceAdd,Nat.reduceSub,Array.replicate_succ,Array.replicate_zero,List.push_toArray,List.append_toArray,List.nil_append,List.cons_append]
 gi_wp2
 gi_loopw [4] (fun v wr=> ∃(pre:List (Nat×Nat)) (a:Nat),v= .int .i64 (a:Nat)∧Hid (dF n c 0=pre++dF n c a)∧a≤n+65536∧J pre wr) (fun v _=>n+65536-(intOf v).toNat)
 case atStart=>exact⟨[],0,rfl,hdd rfl,Nat.zero_le _,KS.out⟩
 case round=>
  obtain⟨pre,a,rfl,HL,ha,BN⟩:=hrel;clear c1 c2;obtain⟨c1,c2⟩:=HC.out _ _ BN;have HJS:=hdd BN;have Dg:(a:Int)≤4611686018427453440:=aa;by_cases han:a<n
  ·have e1:(a:Int)<(n:Int):=(by omega);have h1c:=HCC.out.1;have iE:=jf h1c han;have⟨M,hM⟩:=ex (min (a+c) n);rw[hM]at iE;have hMi:min ((a:Int)+(c:Int)) (n:Int)=(M:Int):=aa;obtain⟨fn,tmps,assign,body,hy,hR⟩:=HY.out pre (a,M) (dF n c (a+c)) wr (by rw[HL.out,iE]) BN;have N9:Hid (dF n c 0=(pre++[(a,M)])++dF n c (a+c)):=hdd (by rw[HL.out,iE];simp);have e2:Hid (((a:Int)+(c:Int))=((a+c:Nat):Int)):=hdd aa;have VB:a+c≤n+65536∧a<a+c:=aa;clear hM iE BN h1c;have yA:IntKind.i64.wrap ((a:Int)+(c:Int))=(a:Int)+(c:Int):=IntWalk.i64_in _ aa
   gi_wp2
   refine hR.mono ?_;rintro e W3 ⟨rfl,Ki⟩;obtain⟨c1,c2⟩:=HC.out _ _ Ki;have HJ3:=hdd Ki;clear Ki
   gi_wp2
   go_roundw;case rel=>exact⟨pre++[(a,M)],a+c,by rw[←e2.out],N9,VB.1,HJ3.out⟩
   case measure=>simp[intOf];omega
  ·have e1: ¬(a:Int)<(n:Int):=(by omega);have HE:Hid (pre=dF n c 0):=hdd (by rw[HL.out,fw han,List.append_nil]);clear han BN
   gi_wp2
   go_end0;exact⟨⟨_,rfl⟩,by rw[←HE.out];exact HJS.out⟩
def Me(n c:Nat)(w:World)(e:Ending)(w':World):Prop:=e= .returned (.func (.func 74) #[] #[PF w.heap.size,PF (w.heap.size+1)])∧(w.alloc (.cells #[.int .i64 (n:Nat)] 3)).alloc (.cells #[.int .i64 (c:Nat)] 3)=w'
theorem Mf(n c:Nat)(w:World):Calls prog 41 #[.int .i64 (n:Nat),.int .i64 (c:Nat)] w (Me n c w):=by go_enter func41,ntmps41;go_wp2_with fail;go_ret;exact⟨rfl,rfl⟩
end
theorem xG(hc:1≤c): ∀(f a:Nat),n-a≤f→ ∀x∈dF n c a,x.1<x.2∧x.2≤n
 | 0,a,h,x,hx=>by rw[fw aa]at hx;cases hx
 | f+1,a,h,x,hx=>by
  by_cases ha:a<n
  ·rw[jf hc ha]at hx;rcases List.mem_cons.1 hx with rfl | hx;·show a<min (a+c) n∧min (a+c) n≤n;omega
   ·exact xG hc f (a+c) aa x hx
  ·rw[fw ha]at hx;cases hx
theorem mI{n c:Nat}(hc:1≤c): ∀(f a:Nat),n-a≤f→(dF n c a).length≤n-a
 | 0,a,h=>by rw[fw aa];exact Nat.zero_le _
 | f+1,a,h=>by
  by_cases ha:a<n;·rw[jf hc ha];have:=mI (n:=n) hc f (a+c) aa;simp only[List.length_cons];omega
  ·rw[fw ha];exact Nat.zero_le _
theorem od(Aa:a<b)(hb:b≤D.length):(d6 D a b).length=b-a+3:=by unfold d6;rw[List.length_append,List.length_cons,List.length_take,List.length_drop];have:(nt (b-a-1)).length=2:=rfl;omega
theorem kQ{k:fG}{s:eK}(Aa:a<b)(hb:b≤k.D.length):(aK k a b s had).1.length≤b-a+3:=by
 have e:aK k a b s had=if b-a+3≤(fv k a b s had (it k a b (gL s)).1).length∨65536<(it k a b (gL s)).1.length then(d6 k.D a b,none,had)else(fv k a b s had (it k a b (gL s)).1,some (it k a b (gL s)).2,true):=rfl;rw[e];split;·show(d6 k.D a b).length≤_;rw[od Aa hb];exact Nat.le_refl _
 ·rename_i h;show(fv k a b s had (it k a b (gL s)).1).length≤_;rw[not_or]at h;omega
def bG(k:fG):List (Nat×Nat)→eK×Bool→List UInt8×eK×Bool
 | [],z=>([],z)
 | x::l,z=>((aK k x.1 x.2 z.1 z.2).1++(bG k l (aK k x.1 x.2 z.1 z.2).2).1,(bG k l (aK k x.1 x.2 z.1 z.2).2).2)
theorem un(k:fG)(x:Nat×Nat): ∀(l:List (Nat×Nat)) (z:eK×Bool),bG k (l++[x]) z=((bG k l z).1++(aK k x.1 x.2 (bG k l z).2.1 (bG k l z).2.2).1,(aK k x.1 x.2 (bG k l z).2.1 (bG k l z).2.2).2)
 | [],z=>by show((aK k x.1 x.2 z.1 z.2).1++[],(aK k x.1 x.2 z.1 z.2).2)=([]++(aK k x.1 x.2 z.1 z.2).1,_);rw[List.append_nil,List.nil_append];rfl
 | y::l,z=>by have h:=un k x l (aK k y.1 y.2 z.1 z.2).2;show((aK k y.1 y.2 z.1 z.2).1++(bG k (l++[x]) (aK k y.1 y.2 z.1 z.2).2).1,(bG k (l++[x]) (aK k y.1 y.2 z.1 z.2).2).2)=_;rw[h,←List.append_assoc];rfl
theorem qr{k:fG}(hc:1≤c)(hn:n=k.D.length): ∀(f a:Nat) (z:eK×Bool),n-a≤f→(bG k (dF n c a) z).1.length≤(n-a)+3*(dF n c a).length
 | 0,a,z,h=>by rw[fw aa];exact Nat.zero_le _
 | f+1,a,z,h=>by
  by_cases ha:a<n;·rw[jf hc ha];have h1:=qr hc hn f (a+c) (aK k a (min (a+c) n) z.1 z.2).2 aa;have h2:=kQ (k:=k) (a:=a) (b:=min (a+c) n) (s:=z.1) (had:=z.2) aa aa;show((aK k a (min (a+c) n) z.1 z.2).1++(bG k (dF n c (a+c)) (aK k a (min (a+c) n) z.1 z.2).2).1).length≤_;rw[List.length_append,List.length_cons];omega
  ·rw[fw ha];exact Nat.zero_le _
theorem xH{k:fG}: ∀(l:List (Nat×Nat)) (z:eK×Bool),(∀x∈l,x.1<x.2∧x.2≤k.D.length)→(bG k l z).1.length≤l.length*(k.D.length+3)
 | [],_,_=>Nat.zero_le _
 | x::l,z,h=>by have h1:=xH l (aK k x.1 x.2 z.1 z.2).2 (fun y hy=>h y (by simp[hy]));obtain⟨h3,h4⟩:=h x ae;have h2:=kQ (k:=k) (a:=x.1) (b:=x.2) (s:=z.1) (had:=z.2) h3 h4;show((aK k x.1 x.2 z.1 z.2).1++(bG k l (aK k x.1 x.2 z.1 z.2).2).1).length≤_;rw[List.length_append,List.length_cons,Nat.add_mul,Nat.one_mul];omega
def m8(k:fG):List UInt8:=(bG k (dF k.D.length k.chunk.toNat 0) (none,false)).1++[0]
theorem iJ{F:Fence}{ops:Array Oper}{rest:List Oper}{o:Oper}{a:Act}{Q:Exit→Act→World→Prop}(qQ:o.guard=none)(s x:Operand)
  (ho:o.op= .call {callee:= .builtin .append,args:= #[s,x],argTypes:= #[22,22]})
  (base:Nat) (w:World) (v:Value) (xs:List UInt8) (hs:a.eval s=v) (aD:Own base w v xs) (A:Option Addr) (l:List UInt8) (c:Nat) (hx:a.eval x= .slice A l.length c) (hB:Bytes w A l)
  (dJ:xs.length+l.length≤140737488355328) (aT:base≤w.heap.size)
  (h: ∀v' w',Own base w' v' (xs++l)→w.grownBy w' v.ownBlock→wpListIn F n prog ops Q rest (a.put o.dst v') w'):wpListIn F n prog ops Q (o::rest) a w:=by
 refine wpListIn_plain qQ fun K hK=> ?_;obtain⟨v',w',hr,h2,h3⟩:=fI base o.type w v xs aD A l c hB dJ aT;unfold Oper.wpIn;refine⟨?_,?_⟩;·simp[Oper.about,ho,resolve,Target.leads,Sem.run_pure]
 ·rw[Oper.semAt_plain F _ _ (by rw[ho];intro c ZU;cases ZU)];simp[execOp,ho,resolve,invoke,builtin,hs,hx,hr,Result.andThen];exact hK _ _ (h v' w' h2 h3)
section
open Go.RowKit Go.Shelf
attribute [local go_sem] Oper.semAt_some
theorem Al{w W:World}{vs:List Value}{t0 t1 t2:TypeId}{v1 v2:Value}(h:((w.alloc (.cells vs.toArray t0)).alloc (.cells #[v1] t1)).alloc (.cells #[v2] t2)=W):
  W.heap[w.heap.size]? =some (.cells vs.toArray t0 (0,0))∧W.heap[w.heap.size+1]? =some (.cells #[v1] t1 (0,0))∧W.heap[w.heap.size+1+1]? =some (.cells #[v2] t2 (0,0))∧Below w.heap.size w W∧W.heap.size=w.heap.size+1+1+1:=by
 subst h;have up: ∀{b:Nat} {W:World} {o':Obj} (o:Obj),W.heap[b]? =some o'→(W.alloc o).heap[b]? =some o':=fun o h=>(Below.heap_alloc _ _ _ (cr h)).trans h;have mk2: ∀(W:World) (o:Obj) (b:Nat),b=W.heap.size→(W.alloc o).heap[b]? =some o:=fun W o b e=>Gg;refine⟨up _ (up _ (mk2 _ _ _ rfl)),up _ (mk2 _ _ _ ae),mk2 _ _ _ ae,?_,ae⟩;refine Below.alloc ?_ av _;refine Below.alloc ?_ ae _;exact ap
structure PkO(k:fG)(o:Value):Prop where
 val:o=wV (k.lc:Nat) (k.lp:Nat) (k.pb:Nat) k.nice k.chunk k.block k.check k.chain k.dict
 lc:k.lc≤4
 lp:k.lp≤4
 pb:k.pb≤4
 EL:k.lc+k.lp≤4
 nice:2≤k.nice∧k.nice≤273
 chunk:1≤k.chunk∧k.chunk≤65536
 dict:4096≤k.dict∧k.dict≤67108864
end
end Go.Proofs.YtgfpocdiojifoaaGreatDoor
