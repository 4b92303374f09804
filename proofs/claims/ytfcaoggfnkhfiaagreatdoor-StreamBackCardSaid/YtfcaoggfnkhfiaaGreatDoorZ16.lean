import Derived.Test.YtfcaoggfnkhfiaaGreatDoorZ15
import Derived.Lib.MinMax
import Derived.Deep.RegionHeld3
import Derived.OwnWalkIn
namespace Go.Proofs.YtfcaoggfnkhfiaaGreatDoor
set_option maxRecDepth 100000
set_option maxHeartbeats 8000000
open Go.RowKit Go.Proofs.Tryz
variable{had:Bool}{Y:List Nat}{D:List UInt8}{B C L a b bD c cF g mp n oD p st':Nat}{AF:Option Addr}{r':R4}{w w' w0:World}
structure PkC(w0:World)(k:gG)(AF:Option Addr)(cF mp B bD oD:Nat):Prop where
 ready:pf w0 k.F AF cF k.D (k.dict:Nat) k.nice mp B
 addr:k.A=some ⟨bD,oD,none⟩
 bytes:Bytes w0 k.A k.D
 ay:bD<w0.heap.size
 cap:k.D.length≤k.cD
 small:k.D.length≤100000
 dict:1≤k.dict
 nice:k.nice≤273
 lc:k.lc≤4
 lp:k.lp≤4
 pb:k.pb≤4
 JQ:k.lc+k.lp≤4
def dr(s:eZ):Nat×R4×(Nat→Nat):=s.getD rF
def XS(w:World)(p:Nat)(k:gG)(had:Bool)(Y:List Nat)(r:List UInt8×(Nat×R4×(Nat→Nat)))(e:Ending)(w':World):Prop:=
 ∃v Y',e= .returned (.tuple #[v,.int .i64 0])∧Own w.heap.size w' v r.1∧Pk w' p k (some r.2) had Y'∧aw (p::Y) w w'∧(∀i∈Y',i∈Y∨w.heap.size≤i)∧5≤r.1.length∧r.1.length+100≤140737488355328
theorem XT{k:gG}(hM:bB w C L k.lc k.lp k.pb 0 (1,1,1,1) (fun _=>1024))(hb:Below w.heap.size w w'):NG w' k C L rF:=
 ⟨hM.aA (hb.block _ hM.Au) (hb.block _ hM.xS),ak,by unfold dI rF;decide⟩
theorem vL{lc lp pb:Nat}{s:Sy}{l:List Sy}{st:Nat}{r:R4}{x:fX}{s':Sy}{Z:fX}(h:Md.sym (aj g) lc lp pb st r (D.take p) (s.k:Nat) s.b (s.l:Nat) (s.d:Nat) (s.r:Nat) x=(s',st',r',Z)):
  jO lc lp pb D (s::l) p (st,r,x)=jO lc lp pb D l (p+max s.l 1) (st',r',Z):=by
 have e:=(afj g lc lp pb st r (D.take p) (s.k:Nat) s.b (s.l:Nat) (s.d:Nat) (s.r:Nat) x).symm.trans h;show jO lc lp pb D l (p+max s.l 1) ((Md.sym (aj 0) lc lp pb st r (D.take p) (s.k:Nat) s.b (s.l:Nat) (s.d:Nat) (s.r:Nat) x).2)=_;rw[e]
structure NR(k:gG)(C L g:Nat)(X0:List Nat)(w8 wr:World)(st:Nat)(r:R4)(x:fX)(n:Nat):Prop where
 ms: ∃X,MS (aj g) wr C L k.lc k.lp k.pb st r x X∧ ∀i∈X,i∈X0∨w8.heap.size≤i
 only:aw (C::L::X0) w8 wr
 st:st<12
 NH:dI r
 ok:(aj g).ok x.2 n
theorem NR.put{k:gG}{X0 X:List Nat}{w8 wr w1 w2:World}{Z:fX}(hX: ∀i∈X,i∈X0∨w8.heap.size≤i)(ho:aw (C::L::X0) w8 wr)(hb:Below wr.heap.size wr w1)(hw:gy (aj g) C L k.lc k.lp k.pb st' r' Z X w1 w2)(h1:st'<12)(h2:dI r')(h3:(aj g).ok Z.2 n):
  NR k C L g X0 w8 w2 st' r' Z n:=by
 obtain⟨X',hM,ci,BQ⟩:=hw;have xa:aw (C::L::X0) w8 w1:=ho.trans (aw.aF hb) (fun i hi=> .inl hi);refine⟨⟨X',hM,fun i hi=> ?_⟩,xa.trans ci (fun i hi=> ?_),h1,h2,h3⟩
 ·rcases BQ i hi with h | h;·exact hX i h
  ·exact .inr (Nat.le_trans xa.size h)
 ·rcases List.mem_cons.1 hi with rfl | hi;·exact .inl ag
  ·rcases List.mem_cons.1 hi with rfl | hi;·exact .inl ag
   ·rcases hX i hi with h | h;·exact .inl dD
    ·exact .inr h
theorem XU{k:gG}{s:eZ}(c:PkC w0 k AF cF mp B bD oD)(hb:Below w0.heap.size w0 w)(h:Pk w p k s had Y)(hp:w0.heap.size≤p)(hY: ∀i∈Y,w0.heap.size≤i)(a b:Nat)(sU:a<b)(gZ:b≤k.D.length):
  Calls prog 107 #[PF p,.int .i64 (a:Nat),.int .i64 (b:Nat)] w (XS w p k had Y (bx k a b (dr s))):=by
 obtain⟨cv,hP,hC⟩:=h.ex;have HC:=ae c;have HB:=ae hb;have HP:=ae hP;have Sm:=ae hC;have Z':=ae (And.intro hp hY);have Id:=ae (And.intro sU gZ);have Ic:Hid (∀W,Below w.heap.size w W→W.cell? ⟨p,1,none⟩=some (.int .i64 (k.lc:Nat))∧W.cell? ⟨p,2,none⟩=some (.int .i64 (k.lp:Nat))∧W.cell? ⟨p,3,none⟩=some (.int .i64 (k.pb:Nat))):=ae (fun W hW=>by
  have h1:=hP.below hW;exact⟨h1.lc,h1.lp,h1.pb⟩)
 have yT:=ae (fun W=>qa k.lc k.lp k.pb W c.lc c.lp c.pb c.JQ);obtain⟨cp,rfl⟩: ∃q,cv= .pointer q:=by
  cases s with
  | none=>exact⟨_,hC.1⟩
  | some s=>obtain⟨C,L,e,_⟩:=hC;exact⟨_,e⟩
 have c11:=hP.VZ;have hai:(a:Int)<(b:Int):=aa;have hdi:(k.D.length:Int)≤100000:=am c.small;have hbi:(b:Int)≤(k.D.length:Int):=aa;clear c hb h hp hY sU gZ hP hC;go_enter func107,ntmps107;go_upto_if 22 with fail;go_cut []from 8 (fun wx=> ∃C L,fm wx p k (PF C) had∧NG wx k C L (dr s)∧aw (p::Y) w wx∧ ∀i∈[C,L],i∈Y∨w.heap.size≤i);case first=>
  cases s with
  | some s=>
   obtain⟨C,L,AD,rfl,hc⟩:=Sm.out;injection AD with AD;subst AD;go_wp2_with fail;go_meet;exact⟨C,L,HP.out,hc,aw.refl _ _,fun i hi=> .inl hi⟩
  | none=>
   obtain⟨AD,rfl⟩:=Sm.out;injection AD with AD;subst AD;go_upto_region 2 with fail;have bw:Below w.heap.size w w.drew:=⟨rfl,rfl,rfl,Nat.le_refl _,fun _ _=>rfl⟩
   refine wp_region_held_drew (S:=fun w'=>Below w.heap.size w w') ai bw (fun hS=> ?_);refine af 0 hS (h:=af 1 hS (h:=af 2 hS (h:=af 3 hS (h:=bI 4 Ic.out hS (h:=af 5 hS (h:=af 6 hS (h:=af 7 hS (h:=af 8 hS (h:=bI 9 Ic.out hS (h:=af 10 hS (h:=af 11 hS (h:= ?_))))))))))));refine af 12 hS (h:=af 13 hS (h:=bI 14 Ic.out hS (h:= ?_)));refine aC 15 (fun K hK=> ?_);go_simp;refine(yT.out _).mono ?_;rintro e w1 ⟨C,L,rfl,p7,az,xd,LQ⟩;have g15:=aM bw az;go_wp2_with fail;refine hK.out _ _ g15 (fun _=> ?_);clear hK K;refine af 16 g15 (h:=af 17 g15 (h:=af 18 g15 (h:=af 19 g15 (h:=af 20 g15 (h:= ?_)))));refine wpAnyH_done ai ?_ _;have fy:=ae g15;have qq:=ae p7;have HCG:Hid (w.heap.size≤C∧w.heap.size≤L):=ae ⟨xd,LQ⟩;have D0:=HP.out.below g15;have f11:=D0.frozen 11;have k11:=D0.VZ;clear hS g15 p7 xd LQ az bw D0;go_wp2_with fail;go_meet;have VO:p<w.heap.size:=HP.out.lt;have SU:=(HP.out.below fy.out).SC (PF C);have nd:Below w1.heap.size w1 (w1.setCell ⟨p,11,none⟩ (PF C))∨True:= .inr trivial;refine⟨C,L,SU,?_,?_,fun i hi=> ?_⟩
   ·have hc:=XT (k:=k) qq.out (Below.refl _ _);refine hc.aA ?_ ?_;·exact ah _ _ _ _ (by show C≠p;have:=HCG.out.1;omega)
    ·exact ah _ _ _ _ (by show L≠p;have:=HCG.out.2;omega)
   ·exact(aw.aF fy.out).setCell (.inl ag) _
   ·simp only[List.mem_cons,List.not_mem_nil,or_false]at hi;rcases hi with rfl | rfl;·exact .inr HCG.out.1
    ·exact .inr HCG.out.2
 case rest=>
 obtain⟨WC,hWC⟩: ∃W,W=wc:=⟨_,rfl⟩
 subst hWC;obtain⟨C,L,hPx,hCx,hox,af5⟩:=hcut;obtain⟨⟨a_,r1,P1⟩,js⟩: ∃q,dr s=q:=⟨_,rfl⟩
 rw[js]at hCx;have HPX:=ae hPx;have Gj:=ae hCx;have HOX:=ae hox;have XV:=ae af5;have af6:Below w0.heap.size w0 WC:=HB.out.trans (HOX.out.below HB.out.size (fun i hi=>by
  rcases List.mem_cons.1 hi with rfl | hi;·exact Z'.out.1
  ·exact Z'.out.2 i hi))
 have M3:=ae af6;have af7:Hid (w0.heap.size≤C∧w0.heap.size≤L):=ae (by
  constructor
  ·rcases XV.out C ag with h | h;·exact Z'.out.2 _ h
   ·exact Nat.le_trans HB.out.size h
  ·rcases XV.out L ag with h | h;·exact Z'.out.2 _ h
   ·exact Nat.le_trans HB.out.size h)
 have af8:p≠C∧p≠L:=by have h:=(show n5 WC k (PF C) [C,L] (some (a_,r1,P1))from⟨C,L,rfl,rfl,hCx⟩).apart hPx ak ak;simp only[List.mem_cons,List.not_mem_nil,or_false,not_or]at h;exact h
 have abk:=ae af8;have HCX:Hid (∀W,Below WC.heap.size WC W→W.cell? ⟨p,0,none⟩=some (.slice k.A k.D.length k.cD)∧W.cell? ⟨p,10,none⟩=some (PF k.F)∧W.cell? ⟨p,11,none⟩=some (PF C)):=ae (fun W hW=>by
  have h1:=HPX.out.below hW;exact⟨h1.data,h1.find,h1.VZ⟩)
 have af9:Hid (∀W,Below WC.heap.size WC W→Calls prog 150 #[PF C] W (FD r1.val W)):=ae (fun W hW=>oZ (Gj.out.mod.aA (hW.block _ Gj.out.mod.Au) (hW.block _ Gj.out.mod.xS)));have⟨LS,hLS⟩:=ex (sS k a b r1);have⟨rS,hrS⟩:=ex ((aV k.D (k.dict:Nat) k.nice b (b-a) a r1).2);have abl:Hid (∀W,Below WC.heap.size WC W→Calls prog 149 #[PF k.F,.slice k.A k.D.length k.cD,.int .i64 (a:Nat),.int .i64 (b:Nat),r1.val] W (Gb LS rS W)):=ae (fun W hW=>by
  have fw:Below w0.heap.size w0 W:=aM M3.out hW;have h:=Gc k.F AF k.A cF k.cD k.D (k.dict:Nat) k.nice mp B a b r1 W (HC.out.ready.below (fw)) (HC.out.bytes.below fw) HC.out.cap (Nat.le_of_lt Id.out.1) Id.out.2;rw[hrS,show(aV k.D (k.dict:Nat) k.nice b (b-a) a r1).1=LS from hLS]at h;exact h)
 have sH:=ae hLS;have sk:=ae js;clear hPx hCx hox af5 js af6 af8 hLS hrS c11;go_upto_region 6 with fail;go_cut [10,12]from 10 (fun s10 s12 wx=>s12= .int .i64 0∧gx WC.heap.size wx s10 LS∧Below WC.heap.size WC wx);case first=>
  have bw:Below WC.heap.size WC WC.drew:=⟨rfl,rfl,rfl,Nat.le_refl _,fun _ _=>rfl⟩
  refine wp_region_held_drew (S:=fun w'=>Below WC.heap.size WC w') ai bw (fun hS=> ?_);refine af 0 hS (h:=af 1 hS (h:=af 2 hS (h:=bI 3 HCX.out hS (h:=af 4 hS (h:=af 5 hS (h:=af 6 hS (h:=bI 7 HCX.out hS (h:=af 8 hS (h:=af 9 hS (h:=af 10 hS (h:=af 11 hS (h:= ?_))))))))))));refine af 12 hS (h:=bI 13 HCX.out hS (h:= ?_));refine wpAnyH_ready (rs:=[14,20]) ai ag ?_;refine(AllReadyH.cons rfl (fun K hK=> ?_) (AllReadyH.cons rfl (fun K hK=> ?_) AllReadyH.nil))
  ·skip;go_simp;refine(af9.out _ bw).mono ?_;rintro e xe ⟨rfl,D7⟩;have g14:=aM bw D7;have Iy:=ae D7;clear D7;go_wp2_with fail;refine hK.out _ _ g14 (fun _=> ?_);clear hK K;refine wpAnyH_ready (rs:=[15,20]) ai ag ?_;refine(AllReadyH.cons rfl (fun K hK=> ?_) (AllReadyH.cons rfl (fun K hK=> ?_) AllReadyH.nil));·skip;go_simp;refine(abl.out xe g14).mono ?_;rintro e t8 ⟨v15,rfl,B6,rG⟩;have g15:=aM g14 rG;have fy:=ae g15;have HOS:=ae B6;have XW:=ae rG;clear rG B6;go_wp2_with fail;refine hK.out _ _ fy.out (fun _=> ?_);clear hK K;refine af 16 fy.out (h:=af 17 fy.out (h:=af 18 fy.out (h:=af 19 fy.out (h:= ?_))));refine aC 20 (fun K hK=> ?_);go_simp;refine hK.out _ _ (fy.out.alloc fy.out.size _) (fun _=> ?_);clear hK K;refine af 21 (fy.out.alloc fy.out.size _) (h:= ?_);refine aC 22 (fun K hK=> ?_);go_simp;refine hK.out _ _ (fy.out.alloc fy.out.size _) (fun _=> ?_);clear hK K;refine af 23 (fy.out.alloc fy.out.size _) (h:= ?_);refine wpAnyH_done ai ?_ _;go_wp2_with fail;go_meet;exact⟨rfl,Iw,Iz⟩
   ·skip;go_simp;obtain⟨WA,XX⟩: ∃W,xe.alloc (.cells #[.int .i64 0,.int .i64 0,.int .i64 0,.int .i64 0] 152)=W:=⟨_,rfl⟩
    rw[XX];have gA:Below WC.heap.size WC WA:=(by rw[←XX];have h:=((g14:Below WC.heap.size WC xe).alloc (by first | exact Nat.le_refl _ | exact g14.size) (.cells #[.int .i64 0,.int .i64 0,.int .i64 0,.int .i64 0] 152));exact⟨h.os,h.tape,h.output,h.size,h.block⟩);have lX:WA.heap[xe.heap.size]? =some (.cells #[.int .i64 0,.int .i64 0,.int .i64 0,.int .i64 0] 152 (0,0)):=(by rw[←XX];exact heap_alloc_new _ _);have Ql:=ae lX;have oH:Hid (WC.heap.size≤xe.heap.size∧xe.heap.size<WA.heap.size):=ae ⟨g14.size,(cr lX)⟩;clear XX lX;refine hK.out _ _ gA (fun _=> ?_);clear hK K;refine aC 15 (fun K hK=> ?_);go_simp;refine(abl.out WA gA).mono ?_;rintro e t8 ⟨v15,rfl,B6,rG⟩;have g15:=aM gA rG;have fy:=ae g15;have HOS:=ae B6;have XW:=ae rG;clear rG B6;go_wp2_with fail;refine hK.out _ _ fy.out (fun _=> ?_);clear hK K;refine af 16 fy.out (h:=af 17 fy.out (h:=af 18 fy.out (h:=af 19 fy.out (h:=af 21 fy.out (h:= ?_)))));refine aC 22 (fun K hK=> ?_);go_simp;have kv:=(XW.out.block _ oH.out.2).trans Ql.out;have z0:t8.cell? ⟨xe.heap.size,0,none⟩=some (.int .i64 0):=oI;have z1:t8.cell? ⟨xe.heap.size,1,none⟩=some (.int .i64 0):=oI;have z2:t8.cell? ⟨xe.heap.size,2,none⟩=some (.int .i64 0):=oI;have z3:t8.cell? ⟨xe.heap.size,3,none⟩=some (.int .i64 0):=oI;have EO:t8.frozen? ⟨xe.heap.size,0,none⟩=false:=frozen_of_row t8 _ 0 _ _ kv;have EP:t8.frozen? ⟨xe.heap.size,1,none⟩=false:=frozen_of_row t8 _ 1 _ _ kv;have EQ:t8.frozen? ⟨xe.heap.size,2,none⟩=false:=frozen_of_row t8 _ 2 _ _ kv;have ER:t8.frozen? ⟨xe.heap.size,3,none⟩=false:=frozen_of_row t8 _ 3 _ _ kv;go_simp;refine hK.out _ _ ((((fy.out.setCell (p:=⟨xe.heap.size,0,none⟩) oH.out.1 _).setCell (p:=⟨xe.heap.size,1,none⟩) oH.out.1 _).setCell (p:=⟨xe.heap.size,2,none⟩) oH.out.1 _).setCell (p:=⟨xe.heap.size,3,none⟩) oH.out.1 _) (fun _=> ?_);clear hK K;refine af 23 ((((fy.out.setCell (p:=⟨xe.heap.size,0,none⟩) oH.out.1 _).setCell (p:=⟨xe.heap.size,1,none⟩) oH.out.1 _).setCell (p:=⟨xe.heap.size,2,none⟩) oH.out.1 _).setCell (p:=⟨xe.heap.size,3,none⟩) oH.out.1 _) (h:= ?_);refine wpAnyH_done ai ?_ _;go_wp2_with fail;go_meet;exact⟨rfl,Iw,Iz⟩
  ·skip;go_simp;obtain⟨WA,XX⟩: ∃W,(WC.alloc (.cells #[.int .i64 0,.int .i64 0,.int .i64 0,.int .i64 0] 152)).drew=W:=⟨_,rfl⟩
   rw[XX];have gA:Below WC.heap.size WC WA:=(by rw[←XX];have h:=((Below.refl _ _:Below WC.heap.size WC WC).alloc (by first | exact Nat.le_refl _ | exact g14.size) (.cells #[.int .i64 0,.int .i64 0,.int .i64 0,.int .i64 0] 152));exact⟨h.os,h.tape,h.output,h.size,h.block⟩);have lX:WA.heap[WC.heap.size]? =some (.cells #[.int .i64 0,.int .i64 0,.int .i64 0,.int .i64 0] 152 (0,0)):=(by rw[←XX];exact heap_alloc_new _ _);have Ql:=ae lX;have oH:Hid (WC.heap.size≤WC.heap.size∧WC.heap.size<WA.heap.size):=ae ⟨Nat.le_refl _,(cr lX)⟩;clear XX lX;refine hK.out _ _ gA (fun _=> ?_);clear hK K;refine aC 14 (fun K hK=> ?_);go_simp;refine(af9.out _ gA).mono ?_;rintro e xe ⟨rfl,D7⟩;have g14:=aM gA D7;have Iy:=ae D7;clear D7;go_wp2_with fail;refine hK.out _ _ g14 (fun _=> ?_);clear hK K;refine aC 15 (fun K hK=> ?_);go_simp;refine(abl.out xe g14).mono ?_;rintro e t8 ⟨v15,rfl,B6,rG⟩;have g15:=aM g14 rG;have fy:=ae g15;have HOS:=ae B6;have XW:=ae rG;clear rG B6;go_wp2_with fail;refine hK.out _ _ fy.out (fun _=> ?_);clear hK K;refine af 16 fy.out (h:=af 17 fy.out (h:=af 18 fy.out (h:=af 19 fy.out (h:=af 21 fy.out (h:= ?_)))));refine aC 22 (fun K hK=> ?_);go_simp;have kv:=(XW.out.block _ (Nat.lt_of_lt_of_le oH.out.2 Iy.out.size)).trans ((Iy.out.block _ oH.out.2).trans Ql.out);have z0:t8.cell? ⟨WC.heap.size,0,none⟩=some (.int .i64 0):=oI;have z1:t8.cell? ⟨WC.heap.size,1,none⟩=some (.int .i64 0):=oI;have z2:t8.cell? ⟨WC.heap.size,2,none⟩=some (.int .i64 0):=oI;have z3:t8.cell? ⟨WC.heap.size,3,none⟩=some (.int .i64 0):=oI;have EO:t8.frozen? ⟨WC.heap.size,0,none⟩=false:=frozen_of_row t8 _ 0 _ _ kv;have EP:t8.frozen? ⟨WC.heap.size,1,none⟩=false:=frozen_of_row t8 _ 1 _ _ kv;have EQ:t8.frozen? ⟨WC.heap.size,2,none⟩=false:=frozen_of_row t8 _ 2 _ _ kv;have ER:t8.frozen? ⟨WC.heap.size,3,none⟩=false:=frozen_of_row t8 _ 3 _ _ kv;go_simp;refine hK.out _ _ ((((fy.out.setCell (p:=⟨WC.heap.size,0,none⟩) oH.out.1 _).setCell (p:=⟨WC.heap.size,1,none⟩) oH.out.1 _).setCell (p:=⟨WC.heap.size,2,none⟩) oH.out.1 _).setCell (p:=⟨WC.heap.size,3,none⟩) oH.out.1 _) (fun _=> ?_);clear hK K;refine af 23 ((((fy.out.setCell (p:=⟨WC.heap.size,0,none⟩) oH.out.1 _).setCell (p:=⟨WC.heap.size,1,none⟩) oH.out.1 _).setCell (p:=⟨WC.heap.size,2,none⟩) oH.out.1 _).setCell (p:=⟨WC.heap.size,3,none⟩) oH.out.1 _) (h:= ?_);refine wpAnyH_done ai ?_ _;go_wp2_with fail;go_meet;exact⟨rfl,Iw,Iz⟩
 case rest=>
 obtain⟨uG,hOS,NS⟩:=hcut;subst uG;obtain⟨AL,cL,e10,hcL,hmL,dm⟩:=hOS.form;subst e10;have amP:0<LS.length:=by rw[←sH.out];unfold sS;rw[pg Id.out.1];simp
 obtain⟨gS,WX,hgS,_,_,_,_,_⟩:=dm 0 amP;subst WX;have aga:WC.heap.size≤gS:=(hOS.lt gS rfl).1;have HSC:Hid (∀n (hn:n<LS.length) (W:World),W.heap[gS]? =wc.heap[gS]? →W.cell? ⟨gS,5*n,none⟩=some (.int .i64 (LS[n].k:Nat))∧W.cell? ⟨gS,5*n+1,none⟩=some (.int .u8 (LS[n].b.toNat:Nat))∧W.cell? ⟨gS,5*n+2,none⟩=some (.int .i64 (LS[n].l:Nat))∧W.cell? ⟨gS,5*n+3,none⟩=some (.int .i64 (LS[n].d:Nat))∧W.cell? ⟨gS,5*n+4,none⟩=some (.int .i64 (LS[n].r:Nat))):=ae (fun n hn W hW=>by
  obtain⟨g',e',_,c0,c1,c2,c3,c4⟩:=dm n hn;injection e' with e';injection e' with e' _ _;subst e';exact⟨(World.cell?_of_block (a:=⟨gS,_,none⟩) hW).trans c0,(World.cell?_of_block (a:=⟨gS,_,none⟩) hW).trans c1,(World.cell?_of_block (a:=⟨gS,_,none⟩) hW).trans c2,(World.cell?_of_block (a:=⟨gS,_,none⟩) hW).trans c3,(World.cell?_of_block (a:=⟨gS,_,none⟩) hW).trans c4⟩)
 have HGS:Hid (WC.heap.size≤gS∧gS<wc.heap.size):=ae ⟨aga,hgS⟩;have avt:(LS.length:Int)≤(cL:Int):=aa;have avu:(LS.length:Int)≤9223372036854775807:=aa;have rH:=ae NS;have agb:C<WC.heap.size∧L<WC.heap.size:=⟨Gj.out.mod.Au,Gj.out.mod.xS⟩
 have XY:=ae agb;have LH:=ae (show p<WC.heap.size from HPX.out.lt);clear hOS hcL hmL dm hgS aga NS agb;go_upto_region 10 with(refine(Wt _).mono ?_;rintro e w8 ⟨g,o,cap,rfl,hE8,rI,SV,Bq⟩;have HE8:=ae hE8;have Cu:=ae rI;have V0:=ae (And.intro SV Bq);clear hE8 rI SV Bq)
 have HM8:Hid (MS (aj g) w8 C L k.lc k.lp k.pb a_ r1 (P1,ML) [g,o]):=ae (by
  have jS:=aM rH.out Cu.out;refine⟨Gj.out.mod.aA (jS.block _ XY.out.1) (jS.block _ XY.out.2),⟨o,cap,rfl,HE8.out⟩,?_,?_⟩;·have:=V0.out;have:=XY.out;have:=rH.out.size;simp only[List.mem_cons,List.not_mem_nil,or_false,not_or];omega
  ·have:=V0.out;have:=XY.out;have:=rH.out.size;simp only[List.mem_cons,List.not_mem_nil,or_false,not_or];omega)
 have HI8:Hid (NR k C L g [g,o] w8 w8 a_ r1 (P1,ML) (54*(b-a)+100)):=ae ⟨⟨_,HM8.out,fun i hi=> .inl hi⟩,aw.refl _ _,Gj.out.st,Gj.out.NH,⟨QN,by have:=Id.out;have:=HC.out.small;show 1+0+2*_≤_;omega⟩⟩;go_wp2_with fail;go_loopw [14,76] (fun pv iv wr=> ∃(i pl st:Nat) (r:R4) (x:fX),pv= .int .i64 (pl:Nat)∧iv= .int .i64 (i:Nat)∧Hid (NR k C L g [g,o] w8 wr st r x (54*(b-pl)+100))∧Hid (LS.drop i=(aV k.D (k.dict:Nat) k.nice b (b-pl) pl r).1∧jO k.lc k.lp k.pb k.D LS a (a_,r1,(P1,ML))=jO k.lc k.lp k.pb k.D (LS.drop i) pl (st,r,x))∧i≤LS.length∧pl≤b) (fun _ iv _=>LS.length-(intOf iv).toNat);case atStart=>exact⟨0,a,a_,r1,(P1,ML),rfl,rfl,HI8,ae ⟨by rw[←sH.out];rfl,rfl⟩,Nat.zero_le _,Nat.le_of_lt Id.out.1⟩
 case round=>
  obtain⟨i,pl,st,r,x,rfl,rfl,HI,HL,hi,amR⟩:=hrel;by_cases aH:i<LS.length;case neg=>
   have Jv: ¬(i:Int)<(LS.length:Int):=aa;have agc:LS.drop i=[]:=List.drop_eq_nil_of_le aa;have HPA:Hid (jO k.lc k.lp k.pb k.D LS a (a_,r1,(P1,ML))=(st,r,x)):=ae (by rw[HL.out.2,agc];rfl);obtain⟨X,hM,hX⟩:=HI.out.ms;obtain⟨oE,amS,rfl,hE⟩:=hM.io;have bL:=HI.out.ok;have HKE:Hid (1+x.2.k+4≤140737488355328):=ae (by obtain⟨_,h4⟩:=bL;omega);have ou:=ae (Ni g oE amS x.2 wr hE HKE.out);have HMM:=ae hM;clear aH agc hM hX hE bL hi;go_wp2_with fail;refine ou.out.mono ?_;rintro e w9 ⟨v9,rfl,V1,L6⟩;go_wp2_with fail;go_ret2;have vp:bx k a b (dr s)=(Rc.be (5+x.2.k) x.2.v,(st,r,x.1)):=(by rw[sk.out];unfold bx;rw[sH.out];show(Rc.be (5+(jO k.lc k.lp k.pb k.D LS a (a_,r1,(P1,ML))).2.2.2.k) _,_)=_;rw[HPA.out]);rw[vp];have ci:aw [C,L] WC wr:=by
    have h1:aw [C,L] WC w8:=aw.aF (aM rH.out Cu.out);refine h1.trans HI.out.only (fun i hi=> ?_);rcases List.mem_cons.1 hi with rfl | hi;·exact .inl ag
    ·rcases List.mem_cons.1 hi with rfl | hi;·exact .inl ag
     ·right;have:=V0.out;have:=rH.out.size;simp only[List.mem_cons,List.not_mem_nil,or_false]at hi;rcases hi with rfl | rfl<;>omega
   have uu:aw [C,L] WC w9:=ci.trans (aw.aF L6) (fun i hi=> .inl hi);have sf:w9.heap[p]? =WC.heap[p]? :=uu.block p LH.out (by simp only[List.mem_cons,List.not_mem_nil,or_false,not_or];exact abk.out);refine⟨v9,[C,L],rfl,V1.weaken ?_,⟨PF C,HPX.out.aA sf,C,L,rfl,rfl,⟨(HMM.out.mod).aA (L6.block _ HMM.out.mod.Au) (L6.block _ HMM.out.mod.xS),HI.out.st,HI.out.NH⟩⟩,?_,fun i hi=>XV.out i hi,by rw[Rc.dc];omega,by rw[Rc.dc];obtain⟨_,h4⟩:=HI.out.ok;omega⟩;·exact Nat.le_trans HOX.out.size ci.size
   ·refine HOX.out.trans uu (fun i hi=> ?_);rcases XV.out i hi with h | h;·exact .inl dD
    ·exact .inr h
  case pos=>
   have Jv:(i:Int)<(LS.length:Int):=aa;have XZ:pl<b:=by
    by_cases h:pl<b;·exact h
    ·have h1:=HL.out.1;rw[yH h]at h1;have h2:(LS.drop i).length=0:=(by rw[h1];rfl);rw[List.length_drop]at h2;omega
   have⟨S,hS⟩:=ex (im k.D (k.dict:Nat) k.nice b pl r);have bQ:=(pi (D:=k.D) (dict:=(k.dict:Nat)) (nice:=k.nice) (r:=r) XZ Id.out.2 HC.out.small (am HC.out.dict) HC.out.nice)
   have XN:=L3 (D:=k.D) (dict:=(k.dict:Nat)) (nice:=k.nice) (r:=r) XZ;have BO:=pg (D:=k.D) (dict:=(k.dict:Nat)) (nice:=k.nice) (r:=r) XZ;rw[hS]at bQ XN BO;have sY:LS.drop i=S::(aV k.D (k.dict:Nat) k.nice b (b-(pl+max S.l 1)) (pl+max S.l 1) (ek S r)).1:=(by rw[HL.out.1,BO]);have yU:=List.drop_eq_getElem_cons aH;have hSi:LS[i]=S:=(by rw[yU]at sY;injection sY);have qP:LS.drop (i+1)=(aV k.D (k.dict:Nat) k.nice b (b-(pl+max S.l 1)) (pl+max S.l 1) (ek S r)).1:=(by rw[yU]at sY;injection sY);have mh:(k.D.take pl).length=pl:=(by rw[List.length_take];have:=Id.out.2;omega);have dw:=bQ.fits;obtain⟨s',st',r',Z,NT,FE,_,_,_⟩:=Ct (g:=g) (lc:=k.lc) (lp:=k.lp) (pb:=k.pb) (a:=⟨k.D.take pl,st,r,x⟩) (k:=(S.k:Nat)) (b:=S.b) (l:=(S.l:Nat)) (d:=(S.d:Nat)) (q:=(S.r:Nat)) HI.out.NH (by show iW r ((k.D.take pl).length:Int) _ _ _ _=true;rw[mh];exact dw);have wm:r'=ek S r:=FE.trans (nZ S bQ.k r);have⟨M,hM⟩:=ex (max S.l 1);have hMi:max (S.l:Int) 1=(M:Int):=aa;rw[hM]at XN qP;have HPA:Hid (jO k.lc k.lp k.pb k.D LS a (a_,r1,(P1,ML))=jO k.lc k.lp k.pb k.D (LS.drop (i+1)) (pl+M) (st',r',Z)):=ae (by
    rw[HL.out.2,yU,hSi,←hM];exact vL NT)
   have qC:Hid (LS.drop (i+1)=(aV k.D (k.dict:Nat) k.nice b (b-(pl+M)) (pl+M) r').1):=ae (by rw[qP,wm]);have p7:1≤M∧M≤100000:=(by have:=bQ.short;have:=HC.out.small;omega);have hMb:(M:Int)≤100000:=aa;have aq2:(pl:Int)≤100000:=(by have:=HC.out.small;have:=Id.out.2;omega);have qw:(S.l:Int)≤273:=am bQ.short;obtain⟨X,hMS,hX⟩:=HI.out.ms;have hsw:w8.heap.size≤wr.heap.size:=HI.out.only.size;have SW:WC.heap.size≤w8.heap.size:=Nat.le_trans rH.out.size Cu.out.size;have abm: ∀j∈X,WC.heap.size≤j:=fun j hj=>by
    rcases hX j hj with h | h;·have:=V0.out;have:=rH.out.size;simp only[List.mem_cons,List.not_mem_nil,or_false]at h;rcases h with rfl | rfl<;>omega
    ·exact Nat.le_trans SW h
   have Qm:wr.heap[gS]? =wc.heap[gS]? :=(by refine(HI.out.only.block gS (Nat.lt_of_lt_of_le HGS.out.2 Cu.out.size) ?_).trans (Cu.out.block gS HGS.out.2);have:=V0.out;have:=HGS.out;have:=XY.out;simp only[List.mem_cons,List.not_mem_nil,or_false,not_or];omega);obtain⟨q0,q1,q2,q3,q4⟩:=HSC.out i aH wr Qm;rw[hSi]at q0 q1 q2 q3 q4;rw[Nat.mul_comm 5 i]at q0 q1 q2 q3 q4;have⟨W2,mc⟩:=ex (wr.alloc (.cells #[.int .i64 (S.k:Nat),.int .u8 (S.b.toNat:Nat),.int .i64 (S.l:Nat),.int .i64 (S.d:Nat),.int .i64 (S.r:Nat)] 183));have kL:W2.heap[wr.heap.size]? =some (.cells (cE [S]).toArray 183 (0,0)):=C5;have aD:Below wr.heap.size wr W2:=C0;have ki:Below WC.heap.size WC w8:=aM rH.out Cu.out;have b_:W2.heap[p]? =WC.heap[p]? :=(by refine(aD.block p (Nat.lt_of_lt_of_le LH.out (Nat.le_trans SW hsw))).trans ((HI.out.only.block p (Nat.lt_of_lt_of_le LH.out SW) ?_).trans (ki.block p LH.out));have:=V0.out;have:=LH.out;have:=rH.out.size;have:=abk.out;simp only[List.mem_cons,List.not_mem_nil,or_false,not_or];omega);have SU:fm W2 p k (PF C) had:=HPX.out.aA b_;have hD2:Bytes W2 k.A k.D:=by
    have h1:Below w0.heap.size w0 w8:=aM M3.out ki;have h2:Below w0.heap.size w0 wr:=h1.trans (HI.out.only.below h1.size (fun j hj=>by
     have:=V0.out;have:=af7.out;have:=M3.out.size;have:=rH.out.size;simp only[List.mem_cons,List.not_mem_nil,or_false]at hj;rcases hj with rfl | rfl | rfl | rfl<;>omega))
    exact HC.out.bytes.below (aM h2 aD)
   have JR:Hid (∀W,Below W2.heap.size W2 W→Calls prog 152 #[PF C,PF g,.slice k.A pl k.cD,tS (S.k:Nat) S.b (S.l:Nat) (S.d:Nat) (S.r:Nat)] W (Dt (s'.k≤2∧s'.r≤3∧s'.l≤273∧(s'.d:Int)≤4294967296∧st'<12∧dI r'∧(aj g).ok Z.2 (54*(b-(pl+M))+100)) (jR (.int .i64 0) (aj g) C L k.lc k.lp k.pb st' r' Z X W))):=ae (fun W hW=>by
    have hMW:MS (aj g) W C L k.lc k.lp k.pb st r x X:=(hMS.below aD).below hW;have hDW:Bytes W k.A (k.D.take pl):=(hD2.below hW).take pl;have h:=Xw hMW HC.out.lc HC.out.lp HC.out.pb HI.out.st HI.out.NH (k:=54*(b-(pl+M))+100) k.A (k.D.take pl) k.cD hDW (by rw[mh];have:=HC.out.cap;have:=Id.out.2;omega) (by rw[mh];have:=HC.out.small;have:=Id.out.2;omega) (fun a' ha'=>by
     rw[HC.out.addr]at ha';injection ha' with ha';subst ha'
     have h1:=HC.out.ay;have h2:=af7.out;have h3:=M3.out.size;simp only[List.mem_cons,not_or];exact⟨aa,aa,fun hj=>am (abm _ hj)⟩) (S.k:Nat) S.b (S.l:Nat) (S.d:Nat) (S.r:Nat) (by rw[mh];exact dw) NT ((aj g).le HI.out.ok aa)
    rw[mh]at h;exact h)
   have B9:=ae hX;have HXG:=ae abm;have HXL:Hid (∀j∈X,j<wr.heap.size):=ae (fun j hj=>(aj g).lt hMS.io j hj);have amW:Hid (C<wr.heap.size∧L<wr.heap.size):=ae ⟨hMS.mod.Au,hMS.mod.xS⟩;have abn:Hid (∀W:World,W.heap[p]? =W2.heap[p]? →W.heap[wr.heap.size]? =W2.heap[wr.heap.size]? →W.cell? ⟨p,0,none⟩=some (.slice k.A k.D.length k.cD)∧W.cell? ⟨p,11,none⟩=some (PF C)∧W.cell? ⟨wr.heap.size,0,none⟩=some (.int .i64 (S.k:Nat))∧W.cell? ⟨wr.heap.size,1,none⟩=some (.int .u8 (S.b.toNat:Nat))∧W.cell? ⟨wr.heap.size,2,none⟩=some (.int .i64 (S.l:Nat))∧W.cell? ⟨wr.heap.size,3,none⟩=some (.int .i64 (S.d:Nat))∧W.cell? ⟨wr.heap.size,4,none⟩=some (.int .i64 (S.r:Nat))):=ae (fun W h1 h2=>by
    have hP:=SU.aA h1;have hr:=h2.trans kL;exact⟨hP.data,hP.VZ,xE,xE,xE,xE,xE⟩)
   have xZ:Hid (∀w':World,gy (aj g) C L k.lc k.lp k.pb st' r' Z X W2.drew w'→w'.cell? ⟨p,0,none⟩=some (.slice k.A k.D.length k.cD)∧w'.cell? ⟨p,11,none⟩=some (PF C)∧w'.cell? ⟨wr.heap.size,0,none⟩=some (.int .i64 (S.k:Nat))∧w'.cell? ⟨wr.heap.size,1,none⟩=some (.int .u8 (S.b.toNat:Nat))∧w'.cell? ⟨wr.heap.size,2,none⟩=some (.int .i64 (S.l:Nat))∧w'.cell? ⟨wr.heap.size,3,none⟩=some (.int .i64 (S.d:Nat))∧w'.cell? ⟨wr.heap.size,4,none⟩=some (.int .i64 (S.r:Nat))):=ae (fun w' hw=>by
    obtain⟨X',_,ci,_⟩:=hw;have VO:p<wr.heap.size:=Nat.lt_of_lt_of_le LH.out (Nat.le_trans SW hsw);refine abn.out w' (ci.block p (Nat.lt_of_lt_of_le VO aD.size) ?_) (ci.block wr.heap.size (by show wr.heap.size<W2.heap.size;exact(cr kL)) ?_);·have:=abk.out;have h3:=LH.out;simp only[List.mem_cons,not_or];exact⟨this.1,this.2,fun hj=>am (HXG.out _ hj)⟩
    ·have:=amW.out;simp only[List.mem_cons,not_or];exact⟨aa,aa,fun hj=>am (HXL.out _ hj)⟩)
   have HT:=ae (And.intro aH (And.intro XN p7));have dW:=ae aD;have Ay:=ae mc;have hpd:(pl:Int)≤(k.D.length:Int):=am Id.out.2;have hpc:(pl:Int)≤(k.cD:Int):=(by have:=Id.out.2;have:=HC.out.cap;omega);have hdc:(k.D.length:Int)≤(k.cD:Int):=am HC.out.cap;obtain⟨p0,p11,b0,b1,b2,b3,b4⟩:=abn.out W2 rfl rfl;clear hS bQ XN BO sY yU hSi qP mh dw NT FE wm hM hMS hX hsw SW abm Qm kL aD ki b_ SU hD2 mc aH p7 amR hi XZ;go_upto_region 14 with fail;rw[Ay.out];have bw:Below W2.heap.size W2 W2.drew:=⟨rfl,rfl,rfl,Nat.le_refl _,fun _ _=>rfl⟩
   have Dz:=And.intro p0 (And.intro p11 (And.intro b0 (And.intro b1 (And.intro b2 (And.intro b3 b4)))));clear p0 p11 b0 b1 b2 b3 b4 q0 q1 q2 q3 q4;refine wp_region_held_drew (S:=fun w2=>w2.cell? ⟨p,0,none⟩=some (.slice k.A k.D.length k.cD)∧w2.cell? ⟨p,11,none⟩=some (PF C)∧w2.cell? ⟨wr.heap.size,0,none⟩=some (.int .i64 (S.k:Nat))∧w2.cell? ⟨wr.heap.size,1,none⟩=some (.int .u8 (S.b.toNat:Nat))∧w2.cell? ⟨wr.heap.size,2,none⟩=some (.int .i64 (S.l:Nat))∧w2.cell? ⟨wr.heap.size,3,none⟩=some (.int .i64 (S.d:Nat))∧w2.cell? ⟨wr.heap.size,4,none⟩=some (.int .i64 (S.r:Nat))) ai Dz (fun hS=> ?_);refine af 0 hS (h:=af 1 hS (h:=af 2 hS (h:=aL 3 hS (h:=af 4 hS (h:=af 5 hS (h:=af 6 hS (h:=af 7 hS (h:=aL 8 hS (h:=af 9 hS (h:=af 10 hS (h:=aL 11 hS (h:= ?_))))))))))));refine aC 12 (fun K hK=> ?_);go_simp;refine(JR.out _ bw).mono ?_;rintro e D9 ⟨⟨rfl,d_⟩,hQ⟩;have HWE:=ae d_;have HQQ:=ae hQ;clear d_ hQ;have g12:=xZ.out _ HWE.out;go_wp2_with fail;refine hK.out _ _ g12 (fun _=> ?_);clear hK K;refine af 13 g12 (h:= ?_);refine wpAnyH_done ai ?_ _;obtain⟨_,_,_,_,b2,_,_⟩:=xZ.out D9 HWE.out;have HI2:Hid (NR k C L g [g,o] w8 D9 st' r' Z (54*(b-(pl+M))+100)):=ae (by
    have amZ:Below wr.heap.size wr W2.drew:=aM dW.out bw;exact NR.put B9.out HI.out.only amZ HWE.out HQQ.out.2.2.2.2.1 HQQ.out.2.2.2.2.2.1 HQQ.out.2.2.2.2.2.2)
   have qD:Hid (i+1≤LS.length∧pl+M≤b):=ae ⟨am HT.out.1,am HT.out.2.1⟩;have e1:Hid ((pl:Int)+(M:Int)=((pl+M:Nat):Int)):=ae aa;have e2:Hid ((i:Int)+1=((i+1:Nat):Int)):=ae aa;clear hS g12 bw Dz abn xZ;go_wp2_with fail;go_roundw;case rel=>exact⟨i+1,pl+M,st',r',Z,by rw[←e1.out],by rw[←e2.out],HI2,ae ⟨qC.out,HPA.out⟩,qD.out.1,qD.out.2⟩
   case measure=>have:=HT.out.1;simp[intOf];omega
def pm(k:gG):UInt8:=UInt8.ofNat (k.lc+9*(k.lp+5*k.pb))
def cI(k:gG)(a b:Nat)(s:eZ)(had:Bool)(r:List UInt8):List UInt8:=
 (([ro a had s]++uz (b-a-1))++uz (r.length-1))++(if 192≤ro a had s then [pm k]else [])++r
def aJ(k:gG)(a b:Nat)(s:eZ)(had:Bool):List UInt8×eZ×Bool:=
 let r:=bx k a b (dr s)
 if b-a+3≤(cI k a b s had r.1).length∨65536<r.1.length then(dU k.D a b,none,had)else(cI k a b s had r.1,some r.2,true)
def NU(w:World)(p:Nat)(k:gG)(Y:List Nat)(r:List UInt8×eZ×Bool)(e:Ending)(w':World):Prop:=
 ∃v Y',e= .returned (.tuple #[v,.int .i64 0])∧Own w.heap.size w' v r.1∧Pk w' p k r.2.1 r.2.2 Y'∧aw (p::Y) w w'∧ ∀i∈Y',i∈Y∨w.heap.size≤i
theorem Own.qT{base:Nat}{v:Value}{l:List UInt8}(h:Own base w v l)(hb: ∀g,v.ownBlock=some g→w'.heap[g]? =w.heap[g]?):Own base w' v l:=by
 rcases h with⟨h1,h2 | ⟨g,cap,cur,h2,h3,h4,h5⟩⟩
 ·exact⟨h1,.inl h2⟩
 ·exact⟨h1,.inr ⟨g,cap,cur,h2,h3,(hb g ow).trans h4,h5⟩⟩
theorem NV{k:gG}{s:eZ}(c:PkC w0 k AF cF mp B bD oD)(hb:Below w0.heap.size w0 w)(h:Pk w p k s had Y)(hp:w0.heap.size≤p)(hY: ∀i∈Y,w0.heap.size≤i)(a b:Nat)(sU:a<b)(gZ:b≤k.D.length):
  Calls prog 72 #[PF p,.int .i64 (a:Nat),.int .i64 (b:Nat)] w (NU w p k Y (aJ k a b s had)):=by
 have HCT:=ae (Gd h a);have HTR:=ae (XU c hb h hp hY a b sU gZ);obtain⟨⟨R,s2⟩,hR⟩: ∃r,bx k a b (dr s)=r:=⟨_,rfl⟩
 have⟨x,hx⟩:=ex (ro a had s);obtain⟨T1,sh⟩: ∃T,uz (b-a-1)=T:=⟨_,rfl⟩
 obtain⟨T2,m7⟩: ∃T,uz (R.length-1)=T:=⟨_,rfl⟩
 have⟨P,hP⟩:=ex ((if 192≤x then [pm k]else []));have⟨O,hO⟩:=ex (((([x]++T1)++T2)++P)++R);have⟨vM,pn⟩:=ex (aJ k a b s had);rw[hx]at HCT;rw[hR]at HTR;have EM:cI k a b s had R=O:=by unfold cI;rw[hx,sh,m7,hP,hO]
 have nl:Hid (vM=if b-a+3≤O.length∨65536<R.length then(dU k.D a b,none,had)else(O,some s2,true)):=ae (by rw[←pn];unfold aJ;rw[hR];show(if b-a+3≤(cI k a b s had R).length∨_ then _ else _)=_;rw[EM]);rw[pn];have agh:=ae (fun W=>ng (b-a-1) (am c.small) W);have am2:Hid (5≤R.length→R.length+100≤140737488355328→ ∀W,Calls prog 108 #[.int .i64 (R.length:Nat)] W (Jk W T2)):=ae (fun h1 h2 W=>by
  have h:=ng (R.length-1) aa W;rw[show R.length-1+1=R.length by omega,m7]at h;exact h)
 rw[show((b-a-1+1:Nat):Int)=(b:Int)-(a:Int) by omega,sh]at agh;have HT1:Hid (T1.length=2):=ae (by rw[←sh];rfl);have qD:Hid (T2.length=2):=ae (by rw[←m7];rfl);have Sr:Hid (P.length≤1):=ae (by rw[←hP];split<;>simp);have HP:=ae hP;have⟨q,hq⟩:=ex (decide ((192:Int)≤(x.toNat:Int)));have HQ:Hid (q=true↔192≤x):=ae (by
  rw[←hq,decide_eq_true_iff,UInt8.le_iff_toNat_le];show _↔192≤x.toNat;omega)
 have HO:=ae hO;have HC:=ae c;have HB:=ae hb;have Z':=ae (And.intro hp hY);have Id:=ae (And.intro sU gZ);have AG:=ae h.lt;have hai:(a:Int)<(b:Int):=aa;have hdi:(k.D.length:Int)≤100000:=am c.small;have hbi:(b:Int)≤(k.D.length:Int):=aa;clear c hb h hp hY sU gZ hR hx EM pn sh m7 hP hO;go_enter func72,ntmps72;go_wp2_with fail;refine HCT.out.mono ?_;rintro e w1 ⟨rfl,rfl⟩;go_wp2_with fail;refine HTR.out.mono ?_;rintro e w2 ⟨v2,Y2,rfl,el,SU,fV,hY2,V2,hRm⟩;simp only at el SU V2 hRm;obtain⟨AR,cR,rfl,_,_,hBR⟩:=el.read;have⟨W3,mT⟩:=ex (w2.alloc (.cells #[B8 x] 5));have fE:Own w2.heap.size W3 (.slice (some ⟨w2.heap.size,0,none⟩) 1 1) [x]:=by rw[←mT];exact Own.lit w2 [x] (Nat.le_refl _) ag
 have bA:Below w2.heap.size w2 W3:=by rw[←mT];exact ar
 have tU:=ae hBR;have Qn:=ae SU;have kg:=ae fV;have HY2:=ae hY2;have HR5:=ae (And.intro V2 hRm);have Nz:=ae mT;have RY:=ae fE;have gF:=ae bA;have hRi:(R.length:Int)≤140737488355328:=aa;clear el SU fV hY2 V2 hRm hBR mT fE bA HCT HTR;go_wp2_with fail;rw[show w2.alloc (Obj.cells #[B8 x] 5)=W3 from Nz.out];refine(agh.out _).mono ?_;rintro e w4 ⟨v4,rfl,cY,bm⟩;obtain⟨A4,c4,rfl,_,_,uw⟩:=cY.read;have iV:=ae (aM gF.out bm);have agj:=ae (RY.out.below bm);have am4:=ae uw;clear cY bm uw;go_upto_region 6 with(at_builtin;refine ap ?_ (.tmp 26) (.tmp 30) ?_ w2.heap.size w4 (.slice (some ⟨w2.heap.size,0,none⟩) 1 1) [x] ?_ agj.out A4 T1 c4 ?_ am4.out (by rw[HT1.out];show 1+2≤140737488355328;decide) iV.out.size ?_;rfl;rfl;rfl;rfl;intro v5 w5 lZ je;have Qb:=ae lZ;have wC:=ae (ao iV.out je iV.out.size (fun g e=>(agj.out.ax g e).1));clear lZ je)
 go_wp2_with fail;refine(am2.out HR5.out.1 HR5.out.2 _).mono ?_;rintro e w6 ⟨v6,rfl,sF,lI⟩;obtain⟨A6,c6,rfl,_,_,mj⟩:=sF.read;have AC:=ae (aM wC.out lI);have agk:=ae (Qb.out.below lI);have am5:=ae mj;clear sF lI mj;go_upto_region 7 with(at_builtin;refine ap ?_ (.tmp 32) (.tmp 35) ?_ w2.heap.size w6 v5 ([x]++T1) ?_ agk.out A6 T2 c6 ?_ am5.out (by rw[List.length_append,HT1.out,qD.out];show 1+2+2≤140737488355328;decide) AC.out.size ?_;rfl;rfl;rfl;rfl;intro v7 w7 ut Br;have SX:=ae ut;have wl:=ae (ao AC.out Br AC.out.size (fun g e=>(agk.out.ax g e).1));clear ut Br)
 go_upto_if 38 with fail;go_cut [11]from 39 (fun s11 wx=>Own w2.heap.size wx s11 ((([x]++T1)++T2)++P)∧Below w2.heap.size w2 wx);case first=>
  cases q with
  | true=>
   have hx:=HQ.out.1 rfl;have D0:P=[pm k]:=(by rw[←HP.out,if_pos hx]);obtain⟨cv,SY,_⟩:=(Qn.out.below wl.out).ex;obtain⟨o4,o5,o6,o7,o8,o9⟩:=SY.opts;have o1:=SY.lc;have o2:=SY.lp;have o3:=SY.pb;have V3:=ae (Nj k.lc k.lp k.pb k.nice k.chunk k.block k.check k.chain k.dict HC.out.lc HC.out.lp HC.out.pb w7);clear hx SY;go_wp2_with fail;refine V3.out.mono ?_;rintro e w8 ⟨rfl,rI⟩;have⟨y,hy⟩:=ex (UInt8.ofNat (k.lc+9*(k.lp+5*k.pb)));have SU:P=[y]:=(by rw[D0,←hy];rfl);rw[hy];have⟨W9,hW9⟩:=ex (w8.alloc (.cells #[B8 y] 5));have HW9:=ae hW9;have HX9:Hid (Bytes W9 (some ⟨w8.heap.size,0,none⟩) [y]):=ae (by rw[←hW9];exact Bytes.one w8 y);have abo:Below w7.heap.size w7 W9:=(by rw[←hW9];exact rI.alloc rI.size _);have Bs:=ae (aM wl.out abo);have agl:=ae (SX.out.below abo);have am6:=ae SU;clear o1 o2 o3 o4 o5 o6 o7 o8 o9 D0 SU hy hW9 rI abo;go_wp2_with (at_builtin;rw[HW9.out];refine ap ?_ (.tmp 39) (.tmp 45) ?_ w2.heap.size W9 v7 (([x]++T1)++T2) ?_ agl.out (some ⟨w8.heap.size,0,none⟩) [y] 1 ?_ HX9.out (by rw[List.length_append,List.length_append,HT1.out,qD.out];show 1+2+2+1≤140737488355328;decide) Bs.out.size ?_;rfl;rfl;rfl;rfl;intro v10 V4 Gk agm;have SZ:=ae Gk;have rH:=ae (ao Bs.out agm Bs.out.size (fun g e=>(agl.out.ax g e).1));clear Gk agm)
   go_meet;exact⟨by rw[am6.out];exact SZ.out,rH.out⟩
  | false=>
   have hx: ¬192≤x:=fun h=>Bool.noConfusion (HQ.out.2 h);have D0:P=[]:=(by rw[←HP.out,if_neg hx]);have Bm:=ae D0;clear hx D0;go_wp2_with fail;go_meet;exact⟨by rw[Bm.out,List.append_nil];exact SX.out,wl.out⟩
 case rest=>
 obtain⟨Bq,rI⟩:=hcut;have HO8:=ae Bq;have Cu:=ae rI;clear Bq rI;go_upto_region 10 with(at_builtin;refine ap ?_ (.tmp 47) (.tmp 48) ?_ w2.heap.size wc u11 ((([x]++T1)++T2)++P) ?_ HO8.out AR R cR ?_ (tU.out.below Cu.out) (by have:=HR5.out.2;have:=Sr.out;rw[List.length_append,List.length_append,List.length_append,HT1.out,qD.out];show 1+2+2+P.length+R.length≤140737488355328;omega) Cu.out.size ?_;rfl;rfl;rfl;rfl;intro v9 w9 V1 JS;rw[HO.out]at V1;have HO9:=ae V1;have Bs:=ae (ao Cu.out JS Cu.out.size (fun g e=>(HO8.out.ax g e).1));clear V1 JS)
 obtain⟨A9,c9,hv9,_,V5,_⟩:=HO9.out.read;have S3:=Qn.out.below Bs.out;have vo:p<w2.heap.size:=Nat.lt_of_lt_of_le AG.out kg.out.size;have X7:Below w0.heap.size w0 w9:=by
  have h2:Below w0.heap.size w0 w2:=HB.out.trans (kg.out.below HB.out.size (fun i hi=>by
   rcases List.mem_cons.1 hi with rfl | hi;·exact Z'.out.1
   ·exact Z'.out.2 i hi))
  exact aM h2 Bs.out
 have agp:=ae (NI S3 HC.out.addr (HC.out.bytes.below X7) (by have:=HC.out.ay;have:=Z'.out.1;omega) HC.out.cap HC.out.small a b Id.out.1 Id.out.2);have hOi:(O.length:Int)≤9223372036854775807:=by have h:=HR5.out.2;have h2:=Sr.out;rw[←HO.out,List.length_append,List.length_append,List.length_append,List.length_append,HT1.out,qD.out];show((1+2+2+P.length+R.length:Nat):Int)≤_;omega
 by_cases h1:b-a+3≤O.length;·have gl:Hid (b-a+3≤O.length∨65536<R.length):=ae (.inl h1);have h1i:(b:Int)-(a:Int)+3≤(O.length:Int):=aa;subst hv9;clear h1 S3 vo X7 V5;·skip;go_wp2_with fail;refine agp.out.mono ?_;rintro e V4 ⟨v10,rfl,Gk,S5,Gl⟩;have SZ:=ae Gk;have abp:=ae S5;have S6:=ae Gl;clear Gk S5 Gl;go_wp2_with fail;go_ret2;have gY:vM=(dU k.D a b,none,had):=(by rw[nl.out];exact if_pos gl.out);rw[gY];refine⟨v10,[],rfl,SZ.out.weaken (Nat.le_trans kg.out.size Bs.out.size),abp.out,?_,fun i hi=>by cases hi⟩;exact(kg.out.trans (aw.aF Bs.out) (fun i hi=> .inl hi)).trans S6.out (fun i hi=> .inl Qx)
 ·have h1i: ¬(b:Int)-(a:Int)+3≤(O.length:Int):=by omega
  by_cases h2:65536<R.length;·have gl:Hid (b-a+3≤O.length∨65536<R.length):=ae (.inr h2);have h2i:(65536:Int)<(R.length:Int):=aa;subst hv9;clear h1 h2 S3 vo X7 V5;go_wp2_with fail;refine agp.out.mono ?_;rintro e V4 ⟨v10,rfl,Gk,S5,Gl⟩;have SZ:=ae Gk;have abp:=ae S5;have S6:=ae Gl;clear Gk S5 Gl;go_wp2_with fail;go_ret2;have gY:vM=(dU k.D a b,none,had):=(by rw[nl.out];exact if_pos gl.out);rw[gY];refine⟨v10,[],rfl,SZ.out.weaken (Nat.le_trans kg.out.size Bs.out.size),abp.out,?_,fun i hi=>by cases hi⟩;exact(kg.out.trans (aw.aF Bs.out) (fun i hi=> .inl hi)).trans S6.out (fun i hi=> .inl Qx)
  ·have gl:Hid (¬(b-a+3≤O.length∨65536<R.length)):=ae (fun h=>h.elim h1 h2);have h2i: ¬(65536:Int)<(R.length:Int):=aa;obtain⟨cv,hPw,hCw⟩:=S3.ex;have c12:=hPw.afT;have f12:=hPw.frozen 12;have LH:=ae hPw;have XY:=ae hCw;have At:=ae vo;have HV9:=ae hv9;subst hv9;clear h1 h2 S3 vo X7 V5 hPw hCw;go_wp2_with fail;go_ret2;have gY:vM=(O,some s2,true):=(by rw[nl.out];exact if_neg gl.out);rw[gY];have hpO:=(show Pk w9 p k (some s2) had Y2 from⟨cv,LH.out,XY.out⟩).own HO9.out;refine⟨_,Y2,rfl,((HO9.out.qT (fun g hg=>ah _ _ _ _ (by show g≠p;intro e;subst e;exact hpO _ hg ag))).weaken kg.out.size),⟨cv,LH.out.abj true,?_⟩,?_,HY2.out⟩;·refine XY.out.aA fun i hi=>ah _ _ _ _ ?_;show i≠p;intro e;subst e;exact XY.out.apart LH.out ak ak hi
   ·exact(kg.out.trans (aw.aF Bs.out) (fun i hi=> .inl hi)).setCell (.inl ag) _
section
open Go Go.RowKit
variable{F:Fence}{n:Nat}{P:Program}
def agq(F:Fence)(n:Nat)(P:Program)(g:Nat)(lb:Array Value)(b1 b2:Nat)(L:List (Nat×Nat))(w:World):Prop:=
 ∀(l:Nat) (J:List (Nat×Nat)→World→Prop) (W:World),(∀s W,J s W→W.heap[b1]? =w.heap[b1]? ∧W.heap[b2]? =w.heap[b2]?)→
  (∀pre x t W1,L=pre++x::t→J pre W1→YieldAt F (n-1) P l #[.int .i64 (x.1:Nat),.int .i64 (x.2:Nat)] W1 fun e W'=>e= .returned (.bool true)∧J (pre++[x]) W')→
  J [] W→
  CallsIn F n P g (#[.func (.yield l) #[] #[]]++lb) W fun e W'=>(∃v,e= .returned v)∧J L W'
def X8(I:List (Nat×Nat)→World→Prop)(xs:List (Nat×Nat))(W:World):Exit→Act→World→Prop
 | .normal,_,W'=>KeepsOthers W W'∧I xs W'
 | _,_,_=>False
theorem Ea{g:Operand}{ps:Array Tmp}{assign body:Code}{Q:Exit→Act→World→Prop}{a:Act}{w:World}
  (kv:F.round=none) (h1:1≤n) {gf:Nat} {lb:Array Value} (hg:a.eval g= .func (.func gf) #[] lb) (hFg:F.fn gf) (eg: ∀args w,(callFunc gf args).run P w= .ok (.enter gf args) w)
  {L:List (Nat×Nat)} {b1 b2:Nat} {w0:World} (Bj:agq F (n-1) P gf lb b1 b2 L w0) (VO:ps.size=2)
  (I:List (Nat×Nat)→World→Prop)
  (hIa: ∀s W o,I s W→I s (W.alloc o)) (DM: ∀s W l o o',I s W→w.heap.size≤l→W.heap[l]? =some o→o.isCells=false→I s (W.putObj l o')) (hIb: ∀s W,I s W→W.heap[b1]? =w0.heap[b1]? ∧W.heap[b2]? =w0.heap[b2]?) (h0:I [] w) (a₁:Nat×Nat→Act)
  (nh: ∀(l:Nat) (x:Nat×Nat) (W:World) (K:Act→World→Prop),K (a₁ x) W→
   assign.wpIn (F.inRound l) (n-1-1) P (Exit.then K (fun _ _ _=>False)) {tmps:=(ps.zip #[.int .i64 (x.1:Nat),.int .i64 (x.2:Nat)]).foldl (fun t (p,v)=>t.setIfInBounds p v) a.tmps,defers:=[]} W)
  (yl: ∀(l:Nat) (pre:List (Nat×Nat)) (x:Nat×Nat) (t:List (Nat×Nat)) (W:World),L=pre++x::t→I pre W→body.wpIn (F.inRound l) (n-1-1) P (X8 I (pre++[x]) W) (a₁ x) W)
  (qG: ∀(D:Nat) (W:World),w.heap.size≤D→I L W→W.heap[D]? =some (.deferred (some []))→Q .normal {a with defers:={target:= .collected D,args:= #[]}::a.defers} W):
  (Code.rangeFunc g ps assign body).wpIn F n P Q a w:=by
 refine wpIn_rangeFunc fun fn ot=> ?_;rw[kv];obtain⟨ji,iO⟩: ∃rec:LoopState→Loop,rec=fun st=>{state:=st,pending:=none,fn,tmps:=a.tmps,params:=ps,assign,body,defers:=w.heap.size}:=⟨_,rfl⟩
 have⟨W1,fv⟩:=ex ((w.alloc (.deferred (some []))).alloc (.loop (ji .ready)));have LQ:W1.heap[w.heap.size+1]? =some (.loop (ji .ready)):=by rw[←fv];have:=World.alloc_heap_new (w.alloc (.deferred (some []))) (.loop (ji .ready));rwa [World.size_alloc]at this
 have VP:W1.heap[w.heap.size]? =some (.deferred (some [])):=by rw[←fv];exact(Below.heap_alloc _ _ _ ag).trans (World.alloc_heap_new w _)
 have Xx:I [] W1:=CZ
 refine⟨w.heap.size+1,[{target:= .collected w.heap.size,args:= #[]}],W1,{target:= .fn (.func gf) lb,args:= #[.func (.yield (w.heap.size+1)) #[] #[]]},W1,gf,
  #[.func (.yield (w.heap.size + 1)) #[] #[]] ++ lb, W1, ?_, ?_, ?_, ?_, fun _ => h1, ?_⟩
 ·rw[←fv,iO];exact run_enterLoop_outer _ _ _ _ _
 ·simp only[resolve,hg];simp[go_sem]
 ·intro f' R2;simp[Target.leads]at R2;subst R2;exact hFg
 ·simp[invoke,go_sem,eg]
 ·refine(Bj (w.heap.size+1)
   (fun pre W=>I pre W∧W.heap[w.heap.size+1]? =some (.loop (ji .ready))∧W.heap[w.heap.size]? =some (.deferred (some [])))
   W1 (fun s W hs=>hIb s W hs.1) ?_ ⟨Xx,LQ,VP⟩).mono ?_
  ·rintro pre x t W jN ⟨hi,hl,hk⟩;have aH:w.heap.size+1<W.heap.size:=(cr hl)
   have hy:=run_yield (P:=P) (args:= #[.int .i64 (x.1:Nat),.int .i64 (x.2:Nat)]) hl (by rw[iO];simp[VO]);rw[iO]at hy;refine⟨fn,_,assign,body,hy,roundIn_of_wpIn ot (nh _ x W _ ⟨_,run_beginRound hl (by rw[iO]),?_⟩)⟩;have wY:(W.putObj (w.heap.size+1) (.loop {ji .ready with state:= .busy})).heap[w.heap.size+1]? =some (.loop {ji .ready with state:= .busy}):=World.putObj_heap_same aH;have l6:(W.putObj (w.heap.size+1) (.loop {ji .ready with state:= .busy})).heap[w.heap.size]? =some (.deferred (some [])):=(World.putObj_heap_other aa).trans hk;refine wpIn_mono (yl _ pre x t _ jN (DM _ _ _ _ _ hi aa hl rfl)) ?_;rintro e a3 W3 hp;cases e with
   | normal=>
    obtain⟨mi,VN⟩:=hp;have qu:=mi.same _ _ wY rfl;have yV:=run_endRound (P:=P) none qu;rw[iO]at yV qu;refine⟨_,_,yV,rfl,DM _ _ _ _ _ VN aa qu rfl,?_,(World.putObj_heap_other aa).trans (mi.same _ _ l6 rfl)⟩;rw[iO];exact World.putObj_heap_same (cr qu)
   | ret=>exact hp.elim
   | exit id=>exact hp.elim
   | goto t=>exact hp.elim
   | panic ch=>exact hp.elim
   | outgrown=>exact hp.elim
  ·rintro e W2 ⟨⟨v,rfl⟩,hi,hl,hk⟩;exact⟨none,_,Ir,qG _ _ (Nat.le_refl _) (DM _ _ _ _ _ hi aa hl rfl) ((World.putObj_heap_other aa).trans hk)⟩
end
section
open Go.RowKit Go.Shelf
attribute [local go_sem] Oper.semAt_some
def partsOf(n c:Nat):Nat→Nat→List (Nat×Nat)
 | 0,_=>[]
 | f+1,a=>if a<n then(a,min (a+c) n)::partsOf n c f (a+c)else []
theorem sZ(n c:Nat)(hc:1≤c): ∀(f g a:Nat),n-a≤f→n-a≤g→partsOf n c f a=partsOf n c g a
 | 0,0,a,_,_=>rfl
 | 0,g+1,a,h,_=>by unfold partsOf;rw[if_neg aa]
 | f+1,0,a,_,h=>by unfold partsOf;rw[if_neg aa]
 | f+1,g+1,a,h1,h2=>by
  unfold partsOf;by_cases hp:a<n;·rw[if_pos hp,if_pos hp,sZ n c hc f g _ aa aa]
  ·rw[if_neg hp,if_neg hp]
def bc(n c a:Nat):List (Nat×Nat):=partsOf n c (n-a) a
theorem iq{n c a:Nat}(hc:1≤c)(h:a<n):bc n c a=(a,min (a+c) n)::bc n c (a+c):=by
 unfold bc;obtain⟨f,hf⟩: ∃f,n-a=f+1:=⟨n-a-1,aa⟩
 rw[hf];conv=>lhs;unfold partsOf
 rw[if_pos h,sZ n c hc f (n-(a+c)) _ aa aa]
theorem cJ{n c a:Nat}(h: ¬a<n):bc n c a=[]:=by unfold bc;rw[show n-a=0 by omega];rfl
theorem NW(F:Fence)(m:Nat)(ot:F.fn 105)(kv:F.round=none)(hm:1≤m)(n c b1 b2:Nat)(hc:1≤c)(Lq:c≤65536)(hn:n≤4611686018427387904)(w:World)(jA:aT b1 w (.int .i64 (n:Nat)))(fL:aT b2 w (.int .i64 (c:Nat))):
  agq F m prog 105 #[PF b1,PF b2] b1 b2 (bc n c 0) w:=by
 obtain⟨f1,f2,f4,f3⟩:=F;obtain rfl:f3=none:=kv;intro l J W VQ hY h0;have HC:Hid (∀s W,J s W→W.cell? ⟨b1,0,none⟩=some (.int .i64 (n:Nat))∧W.cell? ⟨b2,0,none⟩=some (.int .i64 (c:Nat))):=ae (fun s W h=>by
  obtain⟨k1,k2⟩:=VQ s W h;exact⟨(jA.aA k1).cell,(fL.aA k2).cell⟩)
 have HY:=ae hY;have Na:=ae h0;have pX:(n:Int)≤4611686018427387904:=aa;have pW:(c:Int)≤65536:=aa;have Sm:=ae (And.intro hc hn);obtain⟨c1,c2⟩:=HC.out _ _ h0;clear jA fL VQ hY h0 hc;refine callsIn_of_wp func105 rfl ot ?_ rfl;simp only[ntmps105,List.size_toArray,List.length_cons,List.length_nil,Nat.reduceAdd,Nat.reduceSub,Array.replicate_succ,Array.replicate_zero,List.push_toArray,List.append_toArray,List.nil_append,List.cons_append]
 gi_wp2
 gi_loopw [4] (fun v wr=> ∃(pre:List (Nat×Nat)) (a:Nat),v= .int .i64 (a:Nat)∧Hid (bc n c 0=pre++bc n c a)∧a≤n+65536∧J pre wr) (fun v _=>n+65536-(intOf v).toNat)
 case atStart=>exact⟨[],0,rfl,ae rfl,Nat.zero_le _,Na.out⟩
 case round=>
  obtain⟨pre,a,rfl,HL,ha,wB⟩:=hrel;clear c1 c2;obtain⟨c1,c2⟩:=HC.out _ _ wB;have HJS:=ae wB;have hai:(a:Int)≤4611686018427453440:=aa;by_cases han:a<n
  ·have e1:(a:Int)<(n:Int):=(by omega);have h1c:=Sm.out.1;have gl:=iq h1c han;have⟨M,hM⟩:=ex (min (a+c) n);rw[hM]at gl;have hMi:min ((a:Int)+(c:Int)) (n:Int)=(M:Int):=aa;obtain⟨fn,tmps,assign,body,hy,hR⟩:=HY.out pre (a,M) (bc n c (a+c)) wr (by rw[HL.out,gl]) wB;have Sc:Hid (bc n c 0=(pre++[(a,M)])++bc n c (a+c)):=ae (by rw[HL.out,gl];simp);have e2:Hid (((a:Int)+(c:Int))=((a+c:Nat):Int)):=ae aa;have Eb:a+c≤n+65536∧a<a+c:=aa;clear hM gl wB h1c;have vq:IntKind.i64.wrap ((a:Int)+(c:Int))=(a:Int)+(c:Int):=IntWalk.i64_in _ aa
   gi_wp2
   refine hR.mono ?_;rintro e W3 ⟨rfl,EW⟩;obtain⟨c1,c2⟩:=HC.out _ _ EW;have HJ3:=ae EW;clear EW
   gi_wp2
   go_roundw;case rel=>exact⟨pre++[(a,M)],a+c,by rw[←e2.out],Sc,Eb.1,HJ3.out⟩
   case measure=>simp[intOf];omega
  ·have e1: ¬(a:Int)<(n:Int):=(by omega);have HE:Hid (pre=bc n c 0):=ae (by rw[HL.out,cJ han,List.append_nil]);clear han wB
   gi_wp2
   go_end0;exact⟨⟨_,rfl⟩,by rw[←HE.out];exact HJS.out⟩
def NY(n c:Nat)(w:World)(e:Ending)(w':World):Prop:=e= .returned (.func (.func 105) #[] #[PF w.heap.size,PF (w.heap.size+1)])∧(w.alloc (.cells #[.int .i64 (n:Nat)] 3)).alloc (.cells #[.int .i64 (c:Nat)] 3)=w'
theorem NZ(n c:Nat)(w:World):Calls prog 71 #[.int .i64 (n:Nat),.int .i64 (c:Nat)] w (NY n c w):=by go_enter func71,ntmps71;go_wp2_with fail;go_ret;exact⟨rfl,rfl⟩
end
theorem yW(hc:1≤c): ∀(f a:Nat),n-a≤f→ ∀x∈bc n c a,x.1<x.2∧x.2≤n
 | 0,a,h,x,hx=>by rw[cJ aa]at hx;cases hx
 | f+1,a,h,x,hx=>by
  by_cases ha:a<n
  ·rw[iq hc ha]at hx;rcases List.mem_cons.1 hx with rfl | hx;·show a<min (a+c) n∧min (a+c) n≤n;omega
   ·exact yW hc f (a+c) aa x hx
  ·rw[cJ ha]at hx;cases hx
theorem np{n c:Nat}(hc:1≤c): ∀(f a:Nat),n-a≤f→(bc n c a).length≤n-a
 | 0,a,h=>by rw[cJ aa];exact Nat.zero_le _
 | f+1,a,h=>by
  by_cases ha:a<n;·rw[iq hc ha];have:=np (n:=n) hc f (a+c) aa;simp only[List.length_cons];omega
  ·rw[cJ ha];exact Nat.zero_le _
theorem vN{n c:Nat}(hc:1≤c): ∀(f a:Nat),n-a≤f→(bc n c a).length*c≤(n-a)+(c-1)
 | 0,a,h=>by rw[cJ aa];simp
 | f+1,a,h=>by
  by_cases ha:a<n
  ·rw[iq hc ha];by_cases hb:a+c<n;·have:=vN (n:=n) hc f (a+c) aa;simp only[List.length_cons,Nat.add_mul,Nat.one_mul];omega
   ·rw[cJ hb];simp only[List.length_cons,List.length_nil,Nat.zero_add,Nat.one_mul];omega
  ·rw[cJ ha];simp
theorem po(sU:a<b)(hb:b≤D.length):(dU D a b).length=b-a+3:=by unfold dU;rw[List.length_append,List.length_cons,List.length_take,List.length_drop];have:(uz (b-a-1)).length=2:=rfl;omega
theorem pq{k:gG}{s:eZ}(sU:a<b)(hb:b≤k.D.length):(aJ k a b s had).1.length≤b-a+3:=by
 have e:aJ k a b s had=if b-a+3≤(cI k a b s had (bx k a b (dr s)).1).length∨65536<(bx k a b (dr s)).1.length then(dU k.D a b,none,had)else(cI k a b s had (bx k a b (dr s)).1,some (bx k a b (dr s)).2,true):=rfl;rw[e];split;·show(dU k.D a b).length≤_;rw[po sU hb];exact Nat.le_refl _
 ·rename_i h;show(cI k a b s had (bx k a b (dr s)).1).length≤_;rw[not_or]at h;omega
def aU(k:gG):List (Nat×Nat)→eZ×Bool→List UInt8×eZ×Bool
 | [],z=>([],z)
 | x::l,z=>((aJ k x.1 x.2 z.1 z.2).1++(aU k l (aJ k x.1 x.2 z.1 z.2).2).1,(aU k l (aJ k x.1 x.2 z.1 z.2).2).2)
theorem vO(k:gG)(x:Nat×Nat): ∀(l:List (Nat×Nat)) (z:eZ×Bool),aU k (l++[x]) z=((aU k l z).1++(aJ k x.1 x.2 (aU k l z).2.1 (aU k l z).2.2).1,(aJ k x.1 x.2 (aU k l z).2.1 (aU k l z).2.2).2)
 | [],z=>by show((aJ k x.1 x.2 z.1 z.2).1++[],(aJ k x.1 x.2 z.1 z.2).2)=([]++(aJ k x.1 x.2 z.1 z.2).1,_);rw[List.append_nil,List.nil_append];rfl
 | y::l,z=>by have h:=vO k x l (aJ k y.1 y.2 z.1 z.2).2;show((aJ k y.1 y.2 z.1 z.2).1++(aU k (l++[x]) (aJ k y.1 y.2 z.1 z.2).2).1,(aU k (l++[x]) (aJ k y.1 y.2 z.1 z.2).2).2)=_;rw[h,←List.append_assoc];rfl
theorem nt{k:gG}(hc:1≤c)(hn:n=k.D.length): ∀(f a:Nat) (z:eZ×Bool),n-a≤f→(aU k (bc n c a) z).1.length≤(n-a)+3*(bc n c a).length
 | 0,a,z,h=>by rw[cJ aa];exact Nat.zero_le _
 | f+1,a,z,h=>by
  by_cases ha:a<n;·rw[iq hc ha];have h1:=nt hc hn f (a+c) (aJ k a (min (a+c) n) z.1 z.2).2 aa;have h2:=pq (k:=k) (a:=a) (b:=min (a+c) n) (s:=z.1) (had:=z.2) aa aa;show((aJ k a (min (a+c) n) z.1 z.2).1++(aU k (bc n c (a+c)) (aJ k a (min (a+c) n) z.1 z.2).2).1).length≤_;rw[List.length_append,List.length_cons];omega
  ·rw[cJ ha];exact Nat.zero_le _
theorem yX{k:gG}: ∀(l:List (Nat×Nat)) (z:eZ×Bool),(∀x∈l,x.1<x.2∧x.2≤k.D.length)→(aU k l z).1.length≤l.length*(k.D.length+3)
 | [],_,_=>Nat.zero_le _
 | x::l,z,h=>by have h1:=yX l (aJ k x.1 x.2 z.1 z.2).2 (fun y hy=>h y (by simp[hy]));obtain⟨h3,h4⟩:=h x ag;have h2:=pq (k:=k) (a:=x.1) (b:=x.2) (s:=z.1) (had:=z.2) h3 h4;show((aJ k x.1 x.2 z.1 z.2).1++(aU k l (aJ k x.1 x.2 z.1 z.2).2).1).length≤_;rw[List.length_append,List.length_cons,Nat.add_mul,Nat.one_mul];omega
def gu(k:gG):List UInt8:=(aU k (bc k.D.length k.chunk.toNat 0) (none,false)).1++[0]
theorem iY{F:Fence}{ops:Array Oper}{rest:List Oper}{o:Oper}{a:Act}{Q:Exit→Act→World→Prop}(mb:o.guard=none)(s x:Operand)
  (ho:o.op= .call {callee:= .builtin .append,args:= #[s,x],argTypes:= #[22,22]})
  (base:Nat) (w:World) (v:Value) (xs:List UInt8) (hs:a.eval s=v) (aK:Own base w v xs) (A:Option Addr) (l:List UInt8) (c:Nat) (hx:a.eval x= .slice A l.length c) (hB:Bytes w A l)
  (dl:xs.length+l.length≤140737488355328) (bR:base≤w.heap.size)
  (h: ∀v' w',Own base w' v' (xs++l)→w.grownBy w' v.ownBlock→wpListIn F n prog ops Q rest (a.put o.dst v') w'):wpListIn F n prog ops Q (o::rest) a w:=by
 refine wpListIn_plain mb fun K hK=> ?_;obtain⟨v',w',hr,h2,h3⟩:=fT base o.type w v xs aK A l c hB dl bR;unfold Oper.wpIn;refine⟨?_,?_⟩;·simp[Oper.about,ho,resolve,Target.leads,Sem.run_pure]
 ·rw[Oper.semAt_plain F _ _ (by rw[ho];intro c Sq;cases Sq)];simp[execOp,ho,resolve,invoke,builtin,hs,hx,hr,Result.andThen];exact hK _ _ (h v' w' h2 h3)
section
open Go.RowKit Go.Shelf
attribute [local go_sem] Oper.semAt_some
theorem Cv{w W:World}{vs:List Value}{t0 t1 t2:TypeId}{v1 v2:Value}(h:((w.alloc (.cells vs.toArray t0)).alloc (.cells #[v1] t1)).alloc (.cells #[v2] t2)=W):
  W.heap[w.heap.size]? =some (.cells vs.toArray t0 (0,0))∧W.heap[w.heap.size+1]? =some (.cells #[v1] t1 (0,0))∧W.heap[w.heap.size+1+1]? =some (.cells #[v2] t2 (0,0))∧Below w.heap.size w W∧W.heap.size=w.heap.size+1+1+1:=by
 subst h;have up: ∀{b:Nat} {W:World} {o':Obj} (o:Obj),W.heap[b]? =some o'→(W.alloc o).heap[b]? =some o':=fun o h=>(Below.heap_alloc _ _ _ (cr h)).trans h;have VY: ∀(W:World) (o:Obj) (b:Nat),b=W.heap.size→(W.alloc o).heap[b]? =some o:=fun W o b e=>C8;refine⟨up _ (up _ (VY _ _ _ rfl)),up _ (VY _ _ _ ag),VY _ _ _ ag,?_,ag⟩;refine Below.alloc ?_ av _;refine Below.alloc ?_ ag _;exact ar
structure PkO(k:gG)(o:Value):Prop where
 val:o=Bh (k.lc:Nat) (k.lp:Nat) (k.pb:Nat) k.nice k.chunk k.block k.check k.chain k.dict
 lc:k.lc≤4
 lp:k.lp≤4
 pb:k.pb≤4
 JQ:k.lc+k.lp≤4
 nice:2≤k.nice∧k.nice≤273
 chunk:1≤k.chunk∧k.chunk≤65536
 dict:4096≤k.dict∧k.dict≤67108864
end
end Go.Proofs.YtfcaoggfnkhfiaaGreatDoor
