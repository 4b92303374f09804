import Derived.Test.YtfcaoggfnkhfiaaGreatDoorZ27
import Derived.Deep.RegionHeld3
import Derived.Test.YtfcaoggfnkhfiaaGreatDoorZ28
import Derived.Lib.MinMax
import Derived.Shelf.Abstract
import Derived.Shelf.RegionOpen
import Derived.OwnWalkIn
import Derived.TacticsInMore
import Derived.LoopNIn
import Derived.LoopIn
import Derived.RangeFuncBox
import Derived.RangeFuncOwn
namespace Go.Proofs.YtfcaoggfnkhfiaaGreatDoor
set_option maxRecDepth 100000
set_option maxHeartbeats 8000000
open Go.RowKit Go.Proofs.Tryz
variable{D L P l:List UInt8}{N Q R X b g i:Nat}{t:TypeId}{u:Value}{W W' w:World}
def acI(w:World)(L:List UInt8)(r:Nat×Nat)(e:Ending)(w':World):Prop:= ∃g c,e= .returned (.tuple #[.slice (some ⟨g,0,none⟩) L.length c,acF r,.int .i64 0])∧L.length≤c∧c≤9223372036854775807∧(w.heap.size≤g∧g<w'.heap.size)∧kp w' g L∧Below w.heap.size w w'
theorem F_{vs us:List Value}{s:TypeId}(h:(w.alloc (.cells vs.toArray t)).alloc (.cells us.toArray s)=W):
  W.heap[w.heap.size]? =some (.cells vs.toArray t (0,0))∧W.heap[w.heap.size+1]? =some (.cells us.toArray s (0,0))∧Below w.heap.size w W∧W.heap.size=w.heap.size+2:=by
 subst h;have hb:Below (w.alloc (.cells vs.toArray t)).heap.size (w.alloc (.cells vs.toArray t)) ((w.alloc (.cells vs.toArray t)).alloc (.cells us.toArray s)):=ar;refine⟨(hb.block _ ag).trans (heap_alloc_new w _),?_,(ar).alloc ag _,ag⟩;have:=heap_alloc_new (w.alloc (.cells vs.toArray t)) (.cells us.toArray s);simpa using this
theorem ra{x y:Value}(h:W.heap[b]? =some (.cells [x,y].toArray t (0,0))):W.cell? ⟨b,0,none⟩=some x∧W.cell? ⟨b,1,none⟩=some y∧ ∀i,W.frozen? ⟨b,i,none⟩=false:=
 ⟨pT,pT,fun _=>frozen_of_row _ _ _ _ _ h⟩
def SS(R X N:Nat)(W:World):Prop:=R<W.heap.size∧W.cell? ⟨R,0,none⟩=some (.int .i64 (X:Nat))∧W.cell? ⟨R,1,none⟩=some (.int .i64 (N:Nat))
theorem SS.below(h:SS R X N W)(hb:Below W.heap.size W W'):SS R X N W':=⟨Nat.lt_of_lt_of_le h.1 hb.size,(hb.cell (p:=⟨R,0,none⟩) h.1).trans h.2.1,(hb.cell (p:=⟨R,1,none⟩) h.1).trans h.2.2⟩
theorem SS.set(h:SS R X N W)(hb:b≠R):SS R X N (W.setCell ⟨b,i,none⟩ u):=by have e:(W.setCell ⟨b,i,none⟩ u).heap[R]? =W.heap[R]? :=ah _ _ _ _ (fun e=>hb e.symm);exact⟨by simpa using h.1,(World.cell?_of_block (a:=⟨R,0,none⟩) e).trans h.2.1,(World.cell?_of_block (a:=⟨R,1,none⟩) e).trans h.2.2⟩
theorem Op.U5(o:Op)(D:List UInt8):o.sc D++List.replicate (aO (o.sc D).length) 0++iJ o.check D=o.ay D:=by unfold Op.ay;rw[List.append_assoc]
theorem Op.sd(o:Op)(D:List UInt8):(o.ay D).length=(o.sc D).length+aO (o.sc D).length+cM o.check:=by rw[←o.U5,List.length_append,List.length_append,List.length_replicate,eN]
theorem kp.set(h:kp w g L)(hb:b≠g):kp (w.setCell ⟨b,i,none⟩ u) g L:=fun j hj=>by have e:(w.setCell ⟨b,i,none⟩ u).heap[g]? =w.heap[g]? :=ah _ _ _ _ (fun e=>hb e.symm);obtain⟨h1,h2⟩:=h j hj;refine⟨(World.cell?_of_block (a:=⟨g,j,none⟩) e).trans h1,?_⟩;rw[←h2];unfold World.frozen?;simp only[e]
theorem KT(o:Op)(A:Option Addr)(D:List UInt8)(c:Nat)(w:World)(hf:o.jP=true)(hO:uY w o)(YN: ∀f∈o.l,f.ok)(hT:jg w)(hB:Bytes w A D)(hc:D.length≤c)(hm:c≤9223372036854775807)(hl:D.length≤100000):
  Calls prog 20 #[.slice A D.length c,o.v] w (acI w (o.ay D) (o.rc D)):=by
 have bL:=Op.Ok.of hf;obtain⟨dp,h3⟩:=Aa _ bL.may;have⟨W,hW⟩:=ex ((w.alloc (.cells #[.int .i64 o.lc,.int .i64 o.lp,.int .i64 o.pb,.int .i64 o.nice,.int .i64 o.chunk,.int .i64 o.block,.int .i64 o.check,o.ch,.int .u32 (o.dict:Nat)] 26)).alloc (.cells #[.int .i64 0,.int .i64 0] 51));obtain⟨aP,iO,fw,hzW⟩:=F_ (vs:=iG o.lc o.lp o.pb o.nice o.chunk o.block o.check o.ch o.dict) (us:=[.int .i64 0,.int .i64 0]) hW;have HC:=ae (fun(W':World) (h:Below W.heap.size W W')=>eb (o:=o) ((h.block _ (cr aP)).trans aP));have Cl:=ae (fun(W':World) (h:Below W.heap.size W W')=>(h.block _ (cr iO)).trans iO);have Qt:=ae (fun(W':World) (h:Below W.heap.size W W')=>ra ((h.block _ (cr iO)).trans iO));obtain⟨k0,k1,k2,k3,k4,k5,k6,k7,k8⟩:=HC.out W (Below.refl _ _);have Cz:=ae (zE o W (hO.below fw));have HSE:=ae (fun(W':World) (h:Below W.heap.size W W')=>J4 o.A o.l o.c W' ((hO.pD.below fw).below h) hO.few dp bL.may A D c ((hB.below fw).below h) aa);have aoT:=ae (fun(W':World) (h:Below W.heap.size W W')=>nC o.check A D c W' ((hT.below fw).below h) ((hB.below fw).below h) hc hm aa);have HPA:=ae (fun(A1:Option Addr) (c1:Nat) (W':World) (hb:Bytes W' A1 (dY o.l D)) (hA: ∀a,A1=some a→a.block<W'.heap.size) (cC:D.length≤c1)=>by
  have h:=N0 {o.k (dY o.l D)with A:=A1,cD:=c1} o.v W' (bL.pko _ _ _) hb hA (by show(dY o.l D).length≤c1;rw[dk];exact cC) (by show(dY o.l D).length≤100000;rw[dk];exact hl);rw[Y9]at h;exact(show Calls prog 35 #[.slice A1 (dY o.l D).length c1,o.v] W' (yY W' (o.packed D))from h))
 have At:=ae (o.nJ bL D);have G_:Hid (∀W':World,Below W.heap.size W W'→Calls prog 36 #[.agg #[.int .i64 ((o.packed D).length:Nat),.int .i64 (D.length:Nat),.slice o.A o.l.length o.c,.int .u32 (aR (bh o.dict):Nat)]] W' (yY W' (fD (o.head D)))):=ae (fun W' h=>by
  refine(show Calls prog 36 #[.agg #[.int .i64 ((o.packed D).length:Nat),.int .i64 (D.length:Nat),.slice o.A o.l.length o.c,.int .u32 (aR (bh o.dict):Nat)]] W' (CF W' (o.head D))from OO (o.head D) (o.gP bL D hl).1 o.A o.c W' ((hO.pD.below fw).below h) YN (by show o.l.length≤20;omega)).mono ?_;rintro e w' (⟨_,v,rfl,h1,h2⟩ | ⟨h,_⟩);·exact⟨v,rfl,h1,h2⟩
  ·rw[(o.gP bL D hl).2]at h;cases h)
 have HHL:=ae (o.Ab bL D hl YN);have Kg:=ae (fun(W':World)=>tp o.dict hO.dict W');have p_:Hid (∀W':World,Calls prog 37 #[.int .i64 (bh o.dict:Nat)] W' fun e w'=>e= .returned (.int .u32 (aR (bh o.dict):Nat))∧W'=w'):=ae (fun W'=>by
  have h:=TW (bh o.dict:Nat) W';rw[if_neg aa,Int.toNat_natCast]at h;exact h)
 have HW:=ae hW;have dE:=ae fw;have HZ:=ae hzW;have HD:=ae hl;have hDi:(D.length:Int)≤100000:=aa;have si:o.l.length≤3:=h3;rw[hf]at Cz;clear aP iO hW fw hzW hO bL dp hT hB hf h3;go_enter func20,ntmps20;go_upto_region 1 with fail;rw[HW.out];clear HW;go_wp2_with fail;refine Cz.out.mono ?_;rintro e w1 ⟨rfl,az⟩;have a7:=ae az;clear az k0 k1 k2 k3 k4 k5 k6 k7 k8;obtain⟨k0,k1,k2,k3,k4,k5,k6,k7,k8⟩:=HC.out w1 a7.out;go_wp2_with fail;refine(HSE.out w1 a7.out).mono ?_;rintro e w2 ⟨v2,rfl,el,aD⟩;have dW:=ae (aM a7.out aD);obtain⟨A2,c2,rfl,cU,fJ,fC⟩:=el.read;have Pm: ∀a,A2=some a→a.block<w2.heap.size:=fun a ha=>(el.ax a.block (by rw[ha];rfl)).2;have hP:=HPA.out A2 c2 w2 fC Pm (by rw[dk]at cU;exact cU);have qJ:(dY o.l D).length=D.length:=dk _ _;have HP:=ae hP;clear hP aD el cU fJ fC Pm k0 k1 k2 k3 k4 k5 k6 k7 k8;obtain⟨k0,k1,k2,k3,k4,k5,k6,k7,k8⟩:=HC.out w2 dW.out;rw[qJ];rw[qJ]at HP;clear qJ;go_wp2_with fail;refine HP.out.mono ?_;rintro e w3 ⟨v3,rfl,fE,bA⟩;have gF:=ae (aM dW.out bA);obtain⟨A3,c3,rfl,oj,EX,ln⟩:=fE.read;have H3:=ae (And.intro ln (And.intro oj EX));clear bA HP fE oj EX ln k0 k1 k2 k3 k4 k5 k6 k7 k8;obtain⟨k0,k1,k2,k3,k4,k5,k6,k7,k8⟩:=HC.out w3 gF.out;have HQ:Hid (∀W':World,Below w3.heap.size w3 W'→W'.cell? ⟨w.heap.size,7,none⟩=some (.slice o.A o.l.length o.c)∧W'.cell? ⟨w.heap.size,8,none⟩=some (.int .u32 (o.dict:Nat))):=ae (fun W' h=>by
  obtain⟨_,_,_,_,_,_,_,q7,q8⟩:=HC.out W' (aM gF.out h);exact⟨q7,q8⟩)
 have bw:=a8 w3;obtain⟨PL,hPL⟩: ∃n,(o.packed D).length=n:=⟨_,rfl⟩
 have aoV:(PL:Int)≤400001:=by have:=At.out;have:=HD.out;omega
 rw[hPL]at G_ ⊢;have aoW:=ae hPL;clear hPL k0 k1 k2 k3 k4 k5 k6 k7 k8;go_upto_region 9 with fail;refine wp_region_held_drew (S:=fun W=>Below w3.heap.size w3 W) ai bw (fun hS=> ?_);refine af 0 hS (h:=af 1 hS (h:=af 2 hS (h:=af 3 hS (h:=af 4 hS (h:=cw 5 rfl (fun w hSw=>by have q:=(HQ.out w hSw).1;go_simp;all_goals(with_reducible rfl)) hS (h:=af 6 hS (h:=cw 7 rfl (fun w hSw=>by have q:=(HQ.out w hSw).2;go_simp;all_goals(with_reducible rfl)) hS (h:= ?_))))))));refine aC 8 (fun K hK=> ?_);go_simp;refine(Kg.out _).mono ?_;rintro e x8 ⟨rfl,rfl⟩;go_wp2_with fail;refine hK.out _ _ bw (fun _=> ?_);clear hK K;refine aC 9 (fun K hK=> ?_);go_simp;refine(p_.out _).mono ?_;rintro e x9 ⟨rfl,rfl⟩;go_wp2_with fail;refine hK.out _ _ bw (fun _=> ?_);clear hK K;refine af 10 bw (h:= ?_);refine aC 11 (fun K hK=> ?_);go_simp;refine(G_.out _ (aM gF.out bw)).mono ?_;rintro e x11 ⟨v4,rfl,cY,bm⟩;have g11:Below w3.heap.size w3 x11:=bw.trans bm;have H4:=ae (And.intro (show Own w3.heap.size x11 v4 (fD (o.head D))from cY) g11);clear cY bm;go_wp2_with fail;refine hK.out _ _ g11 (fun _=> ?_);clear hK K;refine af 12 g11 (h:=af 13 g11 (h:=af 14 g11 (h:=af 15 g11 (h:=af 16 g11 (h:= ?_)))));refine wpAnyH_done ai ?_ _;clear hS bw g11 HQ G_;have iV:=ae (aM gF.out H4.out.2);go_upto_region 13 with(at_builtin;refine ap rfl (.tmp 58) (.tmp 59) rfl w3.heap.size x11 v4 (fD (o.head D)) rfl H4.out.1 A3 (o.packed D) c3 (by rw[aoW.out];rfl) (H3.out.1.below H4.out.2) (by have:=HHL.out;have:=At.out;have:=HD.out;omega) H4.out.2.size ?_;intro v5 w5 lZ je;have H5:=ae (And.intro lZ (ao H4.out.2 je H4.out.2.size (fun g e=>(H4.out.1.ax g e).1)));clear lZ je)
 obtain⟨A5,c5,rfl,Hd,Wh,qZ⟩:=H5.out.1.read;have wC:=ae (aM gF.out H5.out.2);have H5b:=ae (And.intro qZ (And.intro Hd Wh));obtain⟨U,hU⟩: ∃n,(fD (o.head D)++o.packed D).length=n:=⟨_,rfl⟩
 have HU:=ae (show(o.sc D).length=U from hU);have hUi:(U:Int)≤401000:=by have:=HHL.out;have:=At.out;have:=HD.out;rw[List.length_append]at hU;omega
 rw[hU];clear hU qZ Hd Wh;obtain⟨k0,k1,k2,k3,k4,k5,k6,k7,k8⟩:=HC.out w5 wC.out;go_wp2_with fail;refine(aoT.out w5 wC.out).mono ?_;rintro e w6 ⟨A6,c6,rfl,zC,hm6,mj,lI⟩;have AC:=ae (aM wC.out lI);have H56:=ae lI;have H6:=ae (And.intro mj (And.intro zC hm6));have dl:(iJ o.check D).length=cM o.check:=eN _ _;have XI:cM o.check≤32:=by unfold cM;repeat (first | omega | split)
 rw[dl];obtain⟨Z,hZ⟩: ∃n,cM o.check=n:=⟨_,rfl⟩
 rw[hZ]at dl XI ⊢;have HZZ:=ae (And.intro hZ dl);obtain⟨X,hX⟩: ∃n,U+Z=n:=⟨_,rfl⟩
 have rq:(U:Int)+(Z:Int)=(X:Int):=aa;have hXi:(X:Int)≤402000:=aa;have HX:=ae hX;clear hX;clear lI zC hm6 mj dl hZ k0 k1 k2 k3 k4 k5 k6 k7 k8;go_upto_region 15 with fail;obtain⟨w7,hw7⟩: ∃W',w6.alloc (.cells #[.int .i64 (X:Nat),.int .i64 (D.length:Nat)] 51)=W':=⟨_,rfl⟩
 obtain⟨MA,mM⟩:=gz (vs:=[.int .i64 (X:Nat),.int .i64 (D.length:Nat)]) hw7;rw[hw7];have hS7:SS w6.heap.size X D.length w7:=⟨(cr MA),(ra MA).1,(ra MA).2.1⟩
 have wl:=ae (aM AC.out mM);have aoY:=ae mM;have HUN:=ae (show U≤1000000000 by omega);have AG:=ae (show w.heap.size+1<W.heap.size by have:=HZ.out;omega);have DP:=ae (show w.heap.size+1≠w6.heap.size by have:=AG.out;have:=AC.out.size;omega);have bw:=a8 w7;have HS7:=ae hS7;obtain⟨z,hz⟩: ∃n,aO U=n:=⟨_,rfl⟩
 have Qr:=ae (show z≤3 by rw[←hz];unfold aO;omega);have hzr:=fun w=>vW U HUN.out w;rw[hz]at hzr;have HZR:=ae hzr;have HJ:=ae (fun(g8:Nat) (W8 W9:World) (h8:Below w7.heap.size w7 W8) (ho:Own w7.heap.size W8 (.slice (some ⟨g8,0,none⟩) z z) (List.replicate z 0)) (h9:W8.alloc (.cells #[.slice A5 U c5,.slice (some ⟨g8,0,none⟩) z z,.slice A6 Z c6] 22)=W9)=>(show Calls prog 24 #[.slice (some ⟨W8.heap.size,0,none⟩) 3 3,.slice none 0 0] W9 (uW W9 (o.ay D))from by
  obtain⟨r9,b9⟩:=gz (vs:=[.slice A5 U c5,.slice (some ⟨g8,0,none⟩) z z,.slice A6 Z c6]) h9;have h79:Below w7.heap.size w7 W9:=aM h8 b9;have h69:=aM aoY.out h79;have h59:=aM H56.out h69;have hl:=o.U5 D;have gZ:(o.ay D).length=U+z+Z:=by rw[←hl,List.length_append,List.length_append,List.length_replicate,HU.out,hz,HZZ.out.2]
  refine Ui (l0:=o.sc D) (l1:=List.replicate z 0) (l2:=iJ o.check D) (c0:=c5) (c1:=z) (c2:=c6) W9 (H5b.out.1.below h59) ((lQ ho).below b9) (H6.out.1.below h69) ?_ ?_ ?_ (o.ay D) (by rw[←hl,HU.out,hz]) (by rw[gZ];have:=Qr.out;omega) (by rw[gZ];have:=HHL.out;have:=At.out;have:=HU.out;unfold Op.sc at this;rw[List.length_append]at this;omega);·rw[HU.out,cell_of_row W9 _ _ _ _ _ r9];rfl
  ·rw[List.length_replicate,cell_of_row W9 _ _ _ _ _ r9];rfl
  ·rw[HZZ.out.2,cell_of_row W9 _ _ _ _ _ r9];rfl))
 have HBL:Hid ((o.ay D).length=(o.ay D).length):=ae rfl;clear MA hw7 mM hz hzr hS7 hUi hXi rq XI aoV hDi;refine wp_region_held_drew (S:=SS w6.heap.size X D.length) ai (HS7.out.below bw) (fun hS=> ?_);refine af 0 hS (h:=af 1 hS (h:=af 2 hS (h:=af 5 hS (h:=cw 8 rfl (fun w hSw=>by obtain⟨_,q0,q1⟩:=hSw;go_simp;all_goals(with_reducible rfl)) hS (h:= ?_)))));refine aC 3 (fun K hK=> ?_);go_simp;refine(HZR.out _).mono ?_;rintro e x3 ⟨rfl,rfl⟩;go_wp2_with fail;refine hK.out _ _ (HS7.out.below bw) (fun _=> ?_);clear hK K;refine aC 4 (fun K hK=> ?_);refine gV rfl (.tmp 76) (.tmp 76) rfl w7.heap.size z w7.drew rfl rfl (am Qr.out) (Nat.le_refl _) ?_;intro w8 Bq SV;have g8:Below w7.heap.size w7 w8:=bw.trans (ao (Below.refl _ _) SV (Nat.le_refl _) (fun g e=>gw));have H8:=ae (And.intro Bq g8);clear Bq SV;refine dM ?_;refine hK.out _ _ (HS7.out.below g8) (fun _=> ?_);clear hK K;refine aC 6 (fun K hK=> ?_);go_simp;obtain⟨w9,M4⟩: ∃W',w8.alloc (.cells #[.slice A5 U c5,.slice (some ⟨w7.heap.size,0,none⟩) z z,.slice A6 Z c6] 22)=W':=⟨_,rfl⟩
 rw[M4];have HJ9:=ae (HJ.out _ _ _ H8.out.2 H8.out.1 M4);have g9:Below w7.heap.size w7 w9:=g8.trans ((gz (vs:=[.slice A5 U c5,.slice (some ⟨w7.heap.size,0,none⟩) z z,.slice A6 Z c6]) M4).2.mono g8.size);clear M4;refine hK.out _ _ (HS7.out.below g9) (fun _=> ?_);clear hK K;refine aC 7 (fun K hK=> ?_);go_simp;refine HJ9.out.mono ?_;rintro e V4 ⟨g,cap,rfl,y1,y2,y3,y4,y5,y6⟩;have g10:Below w7.heap.size w7 V4:=aM g9 y6;have H10:=ae (And.intro y1 (And.intro y2 (And.intro (Nat.le_trans g9.size y3) (And.intro y4 y5))));have NS:=aM wl.out g10;have rH:=ae NS;have Za:=ae (HS7.out.below g10);obtain⟨x0,x1,xf⟩:=Qt.out V4 NS;have xf0:=xf 0;have xf1:=xf 1;clear y1 y2 y3 y4 y5 y6 NS xf;go_wp2_with fail;refine hK.out _ _ Za.out (fun _=> ?_);clear hK K;refine af 9 Za.out (h:= ?_);refine aC 10 (fun K hK=> ?_);go_simp;refine hK.out _ _ ((Za.out.set DP.out).set DP.out) (fun _=> ?_);clear hK K;refine af 11 ((Za.out.set DP.out).set DP.out) (h:= ?_);refine wpAnyH_done ai ?_ _;clear x0 x1 xf0 xf1 hS bw g8 g9 g10;obtain⟨e0,e1,_⟩:=ra (heap_set (heap_set (Cl.out V4 rH.out) 0 (.int .i64 (X:Nat))) 1 (.int .i64 (D.length:Nat)));have HRV:=ae (show acF (o.rc D)= .agg #[.int .i64 (X:Nat),.int .i64 (D.length:Nat)] by rw[←HX.out,←HU.out,←HZZ.out.1];rfl);have EL:w.heap.size+1≠g:=K9;have HG:=ae (show w.heap.size≤g∧g<((V4.setCell ⟨w.heap.size+1,0,none⟩ (.int .i64 (X:Nat))).setCell ⟨w.heap.size+1,1,none⟩ (.int .i64 (D.length:Nat))).heap.size from⟨K9,by simpa using H10.out.2.2.2.1⟩);have IZ:=ae ((H10.out.2.2.2.2.set (i:=0) (u:= .int .i64 (X:Nat)) EL).set (i:=1) (u:= .int .i64 (D.length:Nat)) EL);have OV:=ae (Below.setCell (p:=⟨w.heap.size+1,1,none⟩) (Below.setCell (p:=⟨w.heap.size+1,0,none⟩) (aM dE.out rH.out) ag (.int .i64 (X:Nat))) ag (.int .i64 (D.length:Nat)));clear EL;go_wp2_with fail;exact bodyPost_ret (v:= .tuple #[.slice (some ⟨g,0,none⟩) (o.ay D).length cap,.agg #[.int .i64 (X:Nat),.int .i64 (D.length:Nat)],.int .i64 0]) (by simp[results,results20,go_sem,e0,e1]) rfl ⟨g,cap,by rw[HRV.out],H10.out.1,H10.out.2.1,HG.out,IZ.out,OV.out⟩
def U6(w:World)(a k n:Nat)(L:List UInt8)(e:Ending)(w':World):Prop:= ∃A' c',e= .returned (.slice A' n c')∧(n≤c'∧c'≤9223372036854775807)∧w'=w.setCell ⟨a,0,none⟩ (.int .i64 ((k+n:Nat):Int))∧Bytes w' A' L
theorem KU(a b:Nat)(A:Option Addr)(B:List UInt8)(c k n:Nat)(w:World)(ha:w.heap[a]? =some (.cells #[.int .i64 (k:Nat)] 3 (0,0)))(hb:w.cell? ⟨b,0,none⟩=some (.slice A B.length c))(dH:b≠a)(hB:Bytes w A B)(hA: ∀x,A=some x→x.block<a)(hkn:k+n≤B.length)(hc:B.length≤c)(hm:c≤9223372036854775807)(hl:B.length≤1000000):
  Calls prog 95 #[.int .i64 (n:Nat),.pointer (some ⟨a,0,none⟩),.pointer (some ⟨b,0,none⟩)] w (U6 w a k n ((B.drop k).take n)):=by
 have h0:w.cell? ⟨a,0,none⟩=some (.int .i64 (k:Nat)):=by rw[cell_of_row w _ _ _ _ _ ha];rfl
 have hf:=frozen_of_row w a 0 _ _ ha;have⟨q,hq⟩:=ex (k+n);have rq:(k:Int)+(n:Int)=(q:Int):=aa;have axI:(q:Int)-(n:Int)=(k:Int):=aa;have hkq:(k:Int)≤(q:Int):=aa;have hqc:(q:Int)≤(c:Int):=aa;have hqi:(q:Int)≤1000000:=aa;have pW:(c:Int)≤9223372036854775807:=aa;have HT:Hid (Bytes (w.setCell ⟨a,0,none⟩ (.int .i64 (q:Int))) (if c=k then A else A.map fun x=>x.add k) ((B.drop k).take n)):=ae (by
  have gZ:Below a w (w.setCell ⟨a,0,none⟩ (.int .i64 (q:Int))):=Below.setCell (p:=⟨a,0,none⟩) (Below.refl _ _) (Nat.le_refl _) _;exact((hB.low gZ hA).cutFrom aa hc).take n)
 have HN:=ae (show n≤c-k∧c-k≤9223372036854775807 by omega);have HQ:=ae hq;have Zb:=ae (show q-k=n by omega);clear ha hB hA hkn hc hm hl hq;go_enter func95,ntmps95;go_wp2_with fail;case inl=>go_ret;have hT:=HT.out;rw[if_pos h]at hT;exact⟨A,0,by rw[←Zb.out];rfl,am HN.out,by rw[HQ.out],hT⟩
 case inr=>go_ret;have hT:=HT.out;rw[if_neg h]at hT;exact⟨_,c-k,by rw[←Zb.out];rfl,HN.out,by rw[HQ.out],hT⟩
def acJ(B:List UInt8)(check:Int)(mem:Nat)(r:List UInt8×Nat×(Nat×Nat)×Nat):Prop:=
 (∃er,KS B mem ([],0,er)∧er≠0∧r=([],0,(0,0),er))∨
 (∃D u,KS B mem (D,u,0)∧u≤1000000000∧D.length≤1000000∧((B.length<u+aO u+cM check∧u≤B.length∧r=([],0,(0,0),2))∨
  (u+aO u+cM check≤B.length∧(B.drop u).take (aO u)=List.replicate (aO u) 0∧(B.drop (u+aO u)).take (cM check)=iJ check D∧r=(D,u+aO u+cM check,(u+cM check,D.length),0))))
theorem Bytes.U7{A:Option Addr}{x y:Int}(h:Bytes W A l)(hr:W.heap[R]? =some (.cells [Value.int .i64 x,Value.int .i64 y].toArray t (0,0)))(i:Nat)(v:Value):Bytes (W.setCell ⟨R,i,none⟩ v) A l:=by
 rcases h with h | ⟨b,off,rfl,h2,h3⟩
 ·exact .inl h
 ·by_cases h0:l.length=0;·exact .inl (List.eq_nil_of_length_eq_zero h0)
  ·have hb:b≠R:=by
    rintro rfl;have h4:=h3 0 aa;rw[cell_of_row W _ _ _ _ _ hr]at h4;match off,h4 with
    | 0,h4=>simp at h4
    | 1,h4=>simp at h4
    | n+2,h4=>simp at h4
   exact .inr ⟨b,off,rfl,by simpa using h2,fun k hk=>(World.cell?_of_block (a:=⟨b,_,none⟩) (ah _ _ _ _ hb)).trans (h3 k hk)⟩
def vf(w:World)(r:List UInt8×Nat×(Nat×Nat)×Nat)(e:Ending)(w':World):Prop:=
 ∃A c,e= .returned (.tuple #[.slice A r.1.length c,.int .i64 (r.2.1:Nat),acF r.2.2.1,.int .i64 (r.2.2.2:Nat)])∧(r.1.length≤c∧c≤9223372036854775807)∧Bytes w' A r.1∧Below w.heap.size w w'
def NX(a:Nat)(w2:World)(k:Nat)(W:World):Prop:=W.heap[a]? =some (.cells #[.int .i64 (k:Nat)] 3 (0,0))∧Below a w2 W
theorem NX.below{a k:Nat}{w2:World}(h:NX a w2 k W)(hb:Below W.heap.size W W'):NX a w2 k W':=
 have hl:=Nat.le_of_lt (cr h.1)
 ⟨(hb.block _ (cr h.1)).trans h.1,h.2.trans (hb.mono hl)⟩
def acK(a:Nat)(w2 W:World)(k n:Nat)(L:List UInt8)(e:Ending)(w':World):Prop:= ∃A' c',e= .returned (.slice A' n c')∧(n≤c'∧c'≤9223372036854775807)∧NX a w2 (k+n) w'∧Bytes w' A' L∧ ∀g l,g≠a→Bytes W (some ⟨g,0,none⟩) l→Bytes w' (some ⟨g,0,none⟩) l
theorem Bytes.Zc(h:Bytes W (some ⟨g,0,none⟩) l)(hs:W.heap.size≤W'.heap.size)(he:W'.heap[g]? =W.heap[g]?):Bytes W' (some ⟨g,0,none⟩) l:=by
 rcases h with h | ⟨b,off,e,h2,h3⟩
 ·exact .inl h
 ·injection e with e;injection e with e1 e2;subst e1;subst e2;exact .inr ⟨_,_,rfl,Nat.lt_of_lt_of_le h2 hs,fun k hk=>(World.cell?_of_block (a:=⟨_,_,none⟩) he).trans (h3 k hk)⟩
theorem vf.err{w':World}{er:Nat}(hb:Below w.heap.size w w'):vf w ([],0,(0,0),er) (.returned (.tuple #[.slice none 0 0,.int .i64 0,.agg #[.int .i64 0,.int .i64 0],.int .i64 (er:Nat)])) w':=⟨none,0,rfl,⟨Nat.le_refl _,aa⟩,.nil,hb⟩
theorem se(A B:Option Addr)(l m:List UInt8)(c d n:Nat)(w:World)(h1:Bytes w A l)(h2:Bytes w B m)(hl:l.length=n)(hm:m.length=n)(he:l=m):Calls prog 92 #[.slice A n c,.slice B n d] w fun e w'=>e= .returned (.bool true)∧w=w':=by have h:=cS A B l m c d w h1 h2;rw[hl,hm,he,beq_self_eq_true]at h;exact h
theorem KV(A:Option Addr)(B:List UInt8)(c:Nat)(check:Int)(mem:Nat)(w:World)(r:List UInt8×Nat×(Nat×Nat)×Nat)(hr:acJ B check mem r)(tR:bG check=true)(hT:jg w)(hB:Bytes w A B)(hA: ∀a,A=some a→a.block<w.heap.size)(hc:B.length≤c)(hm:c≤9223372036854775807)(hl:B.length≤1000000)(Jz:mem<18446744073709551616):
  Calls prog 65 #[.slice A B.length c,.int .i64 check,.int .u64 (mem:Nat)] w (vf w r):=by
 have⟨W,hW⟩:=ex ((w.alloc (.cells #[.slice A B.length c] 22)).alloc (.cells #[.int .i64 0,.int .i64 0] 51));obtain⟨aP,iO,fw,hzW⟩:=F_ (vs:=[.slice A B.length c]) (us:=[.int .i64 0,.int .i64 0]) hW;have Cl:=ae (fun(W':World) (h:Below W.heap.size W W')=>(h.block _ (cr iO)).trans iO);have V9:Hid (∀W':World,Below W.heap.size W W'→W'.cell? ⟨w.heap.size,0,none⟩=some (.slice A B.length c)):=ae (fun W' h=>by
  have h2:=(h.block _ (cr aP)).trans aP;rw[cell_of_row W' _ _ _ _ _ h2];rfl)
 have Cz:=ae (kZ check W);have HRP:=ae (fun(W':World) (h:Below W.heap.size W W') (q:List UInt8×Nat×Nat) (hq:KS B mem q)=>Hc A B c mem W' q hq ((hB.below fw).below h) (fun a ha=>Nat.lt_of_lt_of_le (hA a ha) (Nat.le_trans fw.size h.size)) hc hm hl Jz);have Wi:=ae (fun(W':World) (h:Below W.heap.size W W')=>(hT.below fw).below h);have HW:=ae hW;have dE:=ae fw;have HZ:=ae hzW;have HB:=ae (And.intro hB (And.intro hA (And.intro hc (And.intro hm hl))));have hrz:=Cl.out W (Below.refl _ _);rw[tR]at Cz;have hx:=V9.out W (Below.refl _ _);clear aP iO hW fw hzW hB hA hc hm hl Jz tR hT hrz;rcases hr with⟨er,h1,dH,rfl⟩ | ⟨D,u,h1,hu,hD,hr⟩
 ·have HP:=ae (fun W' h=>HRP.out W' h _ h1);obtain⟨ei,Qs⟩: ∃x:Int,(er:Int)=x:=⟨_,rfl⟩
  have aoS:(ei==0)=false:=C1;have HEI:=ae Qs;clear h1 dH Qs HRP;go_enter func65,ntmps65;go_upto_region 1 with fail;rw[HW.out];clear HW;go_wp2_with fail;refine Cz.out.mono ?_;rintro e w1 ⟨rfl,az⟩;have a7:=ae az;clear az hx;have hx:=V9.out w1 a7.out;go_wp2_with fail;refine(HP.out w1 a7.out).mono ?_;rintro e w2 ⟨A2,c2,rfl,_,_,aD⟩;have dW:=ae (aM a7.out aD);obtain⟨x0,x1,xf⟩:=ra (Cl.out w2 dW.out);have xf0:=xf 0;have xf1:=xf 1;rw[HEI.out];clear aD xf hx;obtain⟨e0,e1,_⟩:=ra (heap_set (heap_set (Cl.out w2 dW.out) 0 (.int .i64 0)) 1 (.int .i64 0));have Ya:=ae (Below.setCell (p:=⟨w.heap.size+1,1,none⟩) (Below.setCell (p:=⟨w.heap.size+1,0,none⟩) (aM dE.out dW.out) ag (.int .i64 0)) ag (.int .i64 0));go_wp2_with fail;exact bodyPost_ret (v:= .tuple #[.slice none 0 0,.int .i64 0,.agg #[.int .i64 0,.int .i64 0],.int .i64 ei]) Dg rfl (by rw[←HEI.out];exact vf.err Ya.out)
 ·have HP:=ae (fun W' h=>HRP.out W' h _ h1);obtain⟨z,hz⟩: ∃n,aO u=n:=⟨_,rfl⟩
  obtain⟨y,hy⟩: ∃n,cM check=n:=⟨_,rfl⟩
  have Pb:z≤3:=by rw[←hz];unfold aO;omega
  have aij:y≤32:=by
   rw[←hy];unfold cM;split;·omega
   ·split;·omega
    ·split<;>omega
  rw[hz,hy]at hr;have HZE:=ae (fun W=>vW u hu W);have HSI:=ae (fun(W':World) (h:Below W.heap.size W W')=>TS check W' (Wi.out W' h));rw[hz]at HZE;rw[hy]at HSI;have HNU:=ae (And.intro hu (And.intro hD (And.intro Pb (And.intro aij hy))));have hui:(u:Int)≤1000000000:=aa;have VT:(z:Int)≤3:=aa;have hyi:(y:Int)≤32:=aa;have hBi:(B.length:Int)≤1000000:=am HB.out.2.2.2.2;clear h1 HRP hu hD Pb aij hz hy;go_enter func65,ntmps65;go_upto_region 1 with fail;rw[HW.out];clear HW;go_wp2_with fail;refine Cz.out.mono ?_;rintro e w1 ⟨rfl,az⟩;have a7:=ae az;clear az hx;have hx:=V9.out w1 a7.out;go_wp2_with fail;refine(HP.out w1 a7.out).mono ?_;rintro e w2 ⟨A2,c2,rfl,⟨cU,fJ⟩,fC,aD⟩;have dW:=ae (aM a7.out aD);have H2:=ae (And.intro fC (And.intro cU fJ));clear aD hx cU fJ fC HP Cz;go_upto_region 8 with fail;obtain⟨w3,IW⟩: ∃W',w2.alloc (.cells #[.int .i64 (u:Nat)] 3)=W':=⟨_,rfl⟩
  obtain⟨nX,bA⟩:=gz (vs:=[.int .i64 (u:Nat)]) IW;rw[IW];obtain⟨a,ha⟩: ∃n,w2.heap.size=n:=⟨_,rfl⟩
  rw[ha]at nX bA ⊢;have HA:=ae ha;have HN3:=ae (show NX a w2 u w3 from⟨nX,bA⟩);have gF:=ae (dW.out.trans (bA.mono (by rw[←ha];exact dW.out.size)));clear IW nX bA ha;go_wp2_with fail;refine(HZE.out _).mono ?_;rintro e x3 ⟨rfl,rfl⟩;go_wp2_with fail;refine(HSI.out w3 gF.out).mono ?_;rintro e w4 ⟨rfl,bm⟩;have VC:=ae (HN3.out.below bm);have iV:=ae (aM gF.out bm);have hx:=V9.out w4 iV.out;have dm:w4.cell? ⟨a,0,none⟩=some (.int .i64 (u:Nat)):=by rw[cell_of_row w4 _ _ _ _ _ VC.out.1];rfl
  clear bm;rcases hr with⟨aH,hub,rfl⟩ | ⟨hle,ail,rq,rfl⟩
  ·have Jv:(B.length:Int)-(u:Int)<(z:Int)+(y:Int):=(by omega);have aim:(u:Int)≤(B.length:Int):=aa;obtain⟨x0,x1,xf⟩:=ra (Cl.out w4 iV.out);have xf0:=xf 0;have xf1:=xf 1;obtain⟨e0,e1,_⟩:=ra (heap_set (heap_set (Cl.out w4 iV.out) 0 (.int .i64 0)) 1 (.int .i64 0));have Ya:=ae (Below.setCell (p:=⟨w.heap.size+1,1,none⟩) (Below.setCell (p:=⟨w.heap.size+1,0,none⟩) (aM dE.out iV.out) ag (.int .i64 0)) ag (.int .i64 0));clear aH hub xf;go_wp2_with fail;exact bodyPost_ret (v:= .tuple #[.slice none 0 0,.int .i64 0,.agg #[.int .i64 0,.int .i64 0],.int .i64 2]) Dg rfl (vf.err Ya.out)
  ·have ao0:(z:Int)+(y:Int)≤(B.length:Int)-(u:Int):=(by omega);have aim:(u:Int)≤(B.length:Int):=aa;have Sc:=ae hle;have Jf:=ae ail;have HSU:=ae rq;have mg:Hid (∀(k n:Nat) (W':World),NX a w2 k W'→k+n≤B.length→Calls prog 95 #[.int .i64 (n:Nat),.pointer (some ⟨a,0,none⟩),.pointer (some ⟨w.heap.size,0,none⟩)] W' (acK a w2 W' k n ((B.drop k).take n))):=ae (fun k n W' h hk=>by
    have aD:Below w2.heap.size w2 W':=(by rw[HA.out];exact h.2);have ki:=aM dW.out aD;have aH:w.heap.size<a:=(by rw[←HA.out];have h1:=dW.out.size;have h2:=HZ.out;omega);refine(KU a w.heap.size A B c k n W' h.1 (V9.out W' ki) aa (HB.out.1.below (aM dE.out ki)) (fun x hx=>Nat.lt_trans (HB.out.2.1 x hx) aH) hk HB.out.2.2.1 HB.out.2.2.2.1 HB.out.2.2.2.2).mono ?_;rintro e w' ⟨A',c',e1,h1,rfl,h3⟩;exact⟨A',c',e1,h1,⟨heap_set (L:=[.int .i64 (k:Nat)]) h.1 0 (.int .i64 ((k+n:Nat):Int)),h.2.trans (Below.setCell (p:=⟨a,0,none⟩) (Below.refl _ _) (Nat.le_refl _) _)⟩,h3,fun g l hg hl=>hl.Zc ag (ah _ _ _ _ hg)⟩)
   have HSM:=ae (fun(W':World) (h:NX a w2 (u+z+y) W')=>(show Calls prog 39 #[.int .i64 check,.slice A2 D.length c2] W' (bF W' (iJ check D))from by
    have aD:Below w2.heap.size w2 W':=(by rw[HA.out];exact h.2);exact nC check A2 D c2 W' (Wi.out W' (aM dW.out aD)) (H2.out.1.below aD) H2.out.2.1 H2.out.2.2 (am HNU.out.2.1)))
   have HAL:=ae (show a≤w4.heap.size from Nat.le_of_lt (cr VC.out.1));clear hle ail rq;go_upto_region 11 with fail;clear ao0 aim hx dm;go_cut [53]from 47 (fun s53 wx=>s53= .bool false∧NX a w2 (u+z) wx);case first=>
    refine wp_region_held_drew (S:=fun _=>True) ai trivial (fun hS=> ?_);refine af 0 hS (h:=af 1 hS (h:=af 3 hS (h:= ?_)));refine wpAnyH_ready (rs:=[2,4]) ai ag ?_;refine(AllReadyH.cons rfl (fun K hK=> ?_) (AllReadyH.cons rfl (fun K hK=> ?_) AllReadyH.nil));·skip;go_simp;refine(mg.out u z w4.drew (VC.out.below (a8 w4)) (am Sc.out)).mono ?_;rintro e x2 ⟨A5,c5,rfl,Hd,hn5,qZ,_⟩;have H5:=ae (And.intro hn5 qZ);clear Hd hn5 qZ;go_wp2_with fail;refine hK.out _ _ trivial (fun _=> ?_);clear hK K;refine aC 4 (fun K hK=> ?_);refine gV rfl (.tmp 50) (.tmp 50) rfl a z x2 rfl rfl (am HNU.out.2.2.1) (Nat.le_of_lt (cr H5.out.1.1)) ?_;intro x4 cY et;have bm:Below x2.heap.size x2 x4:=ao (Below.refl _ _) et (Nat.le_refl _) (fun g e=>gw);have iX:=ae (se A5 (some ⟨x2.heap.size,0,none⟩) _ _ c5 z z x4 (H5.out.2.below bm) (lQ cY) (by rw[Jf.out,List.length_replicate]) sr Jf.out);have Vx:=ae (H5.out.1.below bm);clear cY et bm;refine dM ?_;refine hK.out _ _ trivial (fun _=> ?_);clear hK K;refine aC 5 (fun K hK=> ?_);go_simp;refine iX.out.mono ?_;rintro e x5 ⟨rfl,rfl⟩;go_wp2_with fail;refine hK.out _ _ trivial (fun _=> ?_);clear hK K;refine af 6 trivial (h:= ?_);refine wpAnyH_done ai ?_ _;go_wp2_with fail;go_meet;exact⟨rfl,Vx.out⟩
    ·skip;refine gV rfl (.tmp 50) (.tmp 50) rfl a z w4.drew rfl rfl (am HNU.out.2.2.1) HAL.out ?_;intro x2 cY et;have bm:Below w4.drew.heap.size w4.drew x2:=ao (Below.refl _ _) et (Nat.le_refl _) (fun g e=>gw);have HN5:=ae ((VC.out.below (a8 w4)).below bm);have Ba:=ae cY;clear cY et bm;refine dM ?_;refine hK.out _ _ trivial (fun _=> ?_);clear hK K;refine aC 2 (fun K hK=> ?_);go_simp;refine(mg.out u z x2 HN5.out (am Sc.out)).mono ?_;rintro e x4 ⟨A5,c5,rfl,Hd,hn5,qZ,hkp⟩;have Vx:=ae hn5;have iX:=ae (se A5 (some ⟨w4.drew.heap.size,0,none⟩) _ _ c5 z z x4 qZ (hkp _ _ (Nat.ne_of_gt (cr VC.out.1)) (lQ Ba.out)) (by rw[Jf.out,List.length_replicate]) sr Jf.out);clear Hd hn5 qZ;go_wp2_with fail;refine hK.out _ _ trivial (fun _=> ?_);clear hK K;refine aC 5 (fun K hK=> ?_);go_simp;refine iX.out.mono ?_;rintro e x5 ⟨rfl,rfl⟩;go_wp2_with fail;refine hK.out _ _ trivial (fun _=> ?_);clear hK K;refine af 6 trivial (h:= ?_);refine wpAnyH_done ai ?_ _;go_wp2_with fail;go_meet;exact⟨rfl,Vx.out⟩
   case rest=>
   obtain⟨h53,mv⟩:=hcut;subst h53;have HN7:=ae mv;clear mv;go_wp2_with fail;refine(mg.out (u+z) y wc HN7.out Sc.out).mono ?_;rintro e w8 ⟨A8,c8,rfl,hc8,hn8,hB8,_⟩;have HN8:=ae hn8;have Cu:=ae hB8;clear hc8 hn8 hB8;go_wp2_with fail;refine(HSM.out w8 HN8.out).mono ?_;rintro e w9 ⟨A9,c9,rfl,V5,_,Qq,L6⟩;have HN9:=ae (HN8.out.below L6);have hy:=HNU.out.2.2.2.2;have qJ:(iJ check D).length=y:=(by rw[eN];exact hy);rw[qJ];have iX:=ae (se A8 A9 _ _ c8 c9 y w9 (Cu.out.below L6) Qq (by rw[HSU.out];exact qJ) qJ HSU.out);clear L6 Qq V5 hy qJ;go_wp2_with fail;refine iX.out.mono ?_;rintro e V4 ⟨rfl,rfl⟩;obtain⟨uy,huy⟩: ∃n,u+y=n:=⟨_,rfl⟩
   have rq:(u:Int)+(y:Int)=(uy:Int):=aa;have ao1:(uy:Int)≤1000000100:=aa;have HUY:=ae huy;obtain⟨t,ht⟩: ∃n,u+z+y=n:=⟨_,rfl⟩
   have Vy:=ae ht;have U8:w9.cell? ⟨a,0,none⟩=some (.int .i64 (t:Nat)):=(by rw[←ht,cell_of_row w9 _ _ _ _ _ HN9.out.1];rfl);have acM:Below w2.heap.size w2 w9:=(by rw[HA.out];exact HN9.out.2);have Bs:=ae (aM dW.out acM);obtain⟨x0,x1,xf⟩:=ra (Cl.out w9 Bs.out);have xf0:=xf 0;have xf1:=xf 1;have DP:Hid (∀(W':World) (i:Nat) (v:Value),(W'.setCell ⟨w.heap.size+1,i,none⟩ v).cell? ⟨a,0,none⟩=W'.cell? ⟨a,0,none⟩):=ae (fun W' i v=>World.cell?_of_block (a:=⟨a,0,none⟩) (ah _ _ _ _ (by have h1:=HA.out;have h2:=dW.out.size;have h3:=HZ.out;show a≠w.heap.size+1;omega)));have H_:=ae U8;have ao2:=ae acM;clear huy ht xf acM hui VT hyi hBi;go_upto_region 15 with fail;clear rq ao1 U8;have rq:IntKind.i64.wrap ((u:Int)+(y:Int))=(uy:Int):=(by have h1:=HUY.out;have h2:=HNU.out;rw[IntWalk.i64_in _ aa];omega);refine wp_region_held_drew (S:=fun W=>W.cell? ⟨a,0,none⟩=some (.int .i64 (t:Nat))) ai H_.out (fun hS=> ?_);refine af 0 hS (h:=af 1 hS (h:=af 2 hS (h:=af 3 hS (h:=af 4 hS (h:=af 5 hS (h:=af 6 hS (h:=af 7 hS (h:=af 8 hS (h:=af 9 hS (h:= ?_))))))))));refine aC 10 (fun K hK=> ?_);go_simp;refine hK.out _ _ ((DP.out _ _ _).trans ((DP.out _ _ _).trans H_.out)) (fun _=> ?_);clear hK K;refine af 11 ((DP.out _ _ _).trans ((DP.out _ _ _).trans H_.out)) (h:= ?_);refine wpAnyH_done ai ?_ _;clear hS x0 x1 xf0 xf1;obtain⟨e0,e1,_⟩:=ra (heap_set (heap_set (Cl.out w9 Bs.out) 0 (.int .i64 (uy:Nat))) 1 (.int .i64 (D.length:Nat)));have Ya:=ae (Below.setCell (p:=⟨w.heap.size+1,1,none⟩) (Below.setCell (p:=⟨w.heap.size+1,0,none⟩) (aM dE.out Bs.out) ag (.int .i64 (uy:Nat))) ag (.int .i64 (D.length:Nat)));have y_:=ae (H2.out.1.below ao2.out);go_wp2_with fail;refine bodyPost_ret (v:= .tuple #[.slice A2 D.length c2,.int .i64 (t:Nat),.agg #[.int .i64 (uy:Nat),.int .i64 (D.length:Nat)],.int .i64 0]) Dg rfl ⟨A2,c2,by rw[←HUY.out,←Vy.out];rfl,⟨H2.out.2.1,H2.out.2.2⟩,?_,Ya.out.drew⟩;exact(Bytes.U7 (x:=(uy:Nat)) (y:=0) (Bytes.U7 (x:=0) (y:=0) y_.out (Cl.out w9 Bs.out) 0 _) (heap_set (Cl.out w9 Bs.out) 0 (.int .i64 (uy:Nat))) 1 _).drew
theorem U9{o:Op}(h:o.Ok)(D:List UInt8)(hD:D.length≤100000)(hf: ∀f∈o.l,f.ok)(E:List UInt8):gO (fD (o.head D)++E)=(o.head D,(fD (o.head D)).length,0):=
 PC _ _ (o.gP h D hD).1 hf (o.gP h D hD).2
theorem acN{d fuel:Nat}{r:List UInt8×Nat×Nat}(iz:1≤d)(jz:d<4294967296)(hf:L.length<fuel)(h1:bV L (d:Nat) fuel 0 Uz=r)(h2:gU L (d:Nat) fuel 0 Uz):UcR L d r:=fun A c W hB hA hc hm hl=>by have h:=KG A L c (d:Nat) W hB hA hc hm aa aa aa hf h2;rw[h1]at h;exact h
theorem Va{o:Op}(h:o.Ok)(D:List UInt8)(hD:D.length≤100000)(hf: ∀f∈o.l,f.ok)(E:List UInt8)(mem:Nat)(hm:aR (bh o.dict)≤mem)(hu:UcR (o.packed D++E) (aR (bh o.dict)) (dY o.l D,(o.packed D).length,0)):KS (o.sc D++E) mem (D,(o.sc D).length,0):=by
 have hd:=kI o.dict h.dict.2;have h4:=h.dict.1;have dp:=(Aa _ h.may).1;have qp:=o.nJ h D;have hhl:=o.Ab h D hD hf;have hB:o.sc D++E=fD (o.head D)++(o.packed D++E):=by unfold Op.sc;rw[List.append_assoc]
 have qJ:=dk o.l D;refine .inr (.inr ⟨o.head D,(fD (o.head D)).length,dY o.l D,(o.packed D).length,0,?_,?_,?_,.inr ⟨rfl,h.may,rfl,?_,?_,?_,?_,?_⟩⟩);·rw[hB];exact U9 h D hD hf _
 ·rw[hB,List.length_append];show 1≤aR (bh o.dict)∧aR (bh o.dict)<4294967296∧aR (bh o.dict)≤mem∧_;omega
 ·rw[hB,List.drop_left];exact hu
 ·show((D.length:Nat):Int)=((dY o.l D).length:Nat);rw[qJ]
 ·rw[qJ];omega
 ·omega
 ·omega
 ·show(D,(o.sc D).length,0)=(lL o.l (dY o.l D),(fD (o.head D)).length+(o.packed D).length,0);rw[Gz _ _ dp];unfold Op.sc;rw[List.length_append]
theorem Zd{o:Op}(h:o.Ok)(D:List UInt8)(hD:D.length≤100000)(E:List UInt8):UcR (o.packed D++E) (aR (bh o.dict)) (dY o.l D,(o.packed D).length,0):=by have hd:=kI o.dict h.dict.2;have h4:=h.dict.1;obtain⟨b1,b2⟩:=Ph (k:=o.k (dY o.l D)) (dict:=((aR (bh o.dict):Nat):Int)) (h.bk _ (by rw[dk];exact hD)) h.chunk (by show((o.dict:Nat):Int)≤_;omega) E (Nat.lt_succ_self _);exact acN aa aa (Nat.lt_succ_self _) b1 b2
theorem Ze{o:Op}(h:o.Ok)(D:List UInt8)(hD:D.length≤100000)(hf: ∀f∈o.l,f.ok)(E:List UInt8)(mem:Nat)(hm:aR (bh o.dict)≤mem):KS (o.sc D++E) mem (D,(o.sc D).length,0):=Va h D hD hf E mem hm (Zd h D hD E)
theorem Op.EF{o:Op}(h:o.Ok)(D:List UInt8)(hD:D.length≤100000)(hf: ∀f∈o.l,f.ok):9≤(o.sc D).length∧(o.sc D).length≤500000:=by
 have h1:=o.nJ h D;have h2:=o.Ab h D hD hf;have h3:=(jI (o.head D) (o.gP h D hD).1 hf (o.gP h D hD).2)
 unfold Op.sc;rw[List.length_append];omega
theorem aio{o:Op}(h:o.Ok)(D:List UInt8)(hD:D.length≤100000)(hf: ∀f∈o.l,f.ok)(E:List UInt8)(mem:Nat)(hrp: ∀E',KS (o.sc D++E') mem (D,(o.sc D).length,0)):acJ (o.ay D++E) o.check mem (D,(o.ay D).length,o.rc D,0):=by
 have hu:=o.EF h D hD hf;have hB:o.ay D++E=o.sc D++(List.replicate (aO (o.sc D).length) 0++(iJ o.check D++E)):=by unfold Op.ay;simp only[List.append_assoc]
 have hs:=eN o.check D;refine .inr ⟨D,(o.sc D).length,by rw[hB];exact hrp _,aa,aa,.inr ⟨?_,?_,?_,?_⟩⟩;·rw[List.length_append,o.sd];omega
 ·rw[hB,List.drop_left,List.take_left' sr]
 ·rw[hB,←List.drop_drop,List.drop_left,List.drop_left' sr,List.take_left' hs]
 ·rw[o.sd];rfl
theorem Zf{o:Op}(h:o.Ok)(D:List UInt8)(hD:D.length≤100000)(hf: ∀f∈o.l,f.ok)(E:List UInt8)(mem:Nat)(hm:aR (bh o.dict)≤mem):acJ (o.ay D++E) o.check mem (D,(o.ay D).length,o.rc D,0):=aio h D hD hf E mem fun E'=>Ze h D hD hf E' mem hm
theorem PE{k:gG}(hc:1≤k.chunk)(hQ:Q=(k.D.length+k.chunk.toNat-1)/k.chunk.toNat):(gu k).length≤k.D.length+3*Q+1:=by
 have cC:1≤k.chunk.toNat:=aa;have h1:=nt (k:=k) (n:=k.D.length) cC rfl (k.D.length-0) 0 (none,false) (Nat.le_refl _);have h2:=vN (n:=k.D.length) cC (k.D.length-0) 0 (Nat.le_refl _);have h3:(bc k.D.length k.chunk.toNat 0).length≤Q:=by rw[hQ];rw[Nat.le_div_iff_mul_le aa];omega
 unfold gu;rw[List.length_append];show _+1≤_;omega
theorem Vb(f:bS)(h:qY f):(uU f).length≤6:=by
 have h1:(Vl.put 9 f.id.toNat).length=1:=by rw[Vl.du (by have:=h.2.1;have:=h.2.2.1;omega)];rfl
 have h2:(Vl.put 9 (dQ f).length).length=1:=by rw[Vl.du (am h.2.2.2.2)];rfl
 have h3:=h.2.2.2.2;simp only[uU,List.length_append];omega
theorem PG(l:List bS)(h: ∀f∈l,qY f):(ea l).length≤6*l.length:=by
 induction l with
 | nil=>simp[ea]
 | cons f l ih=>
  have h1:=Vb f (h f ag);have h2:=ih (fun g hg=>h g (by simp[hg]));simp only[ea,List.flatMap_cons,List.length_append,List.length_cons]at h2 ⊢;omega
theorem Ac(h:eO)(bL:h.ok)(hf: ∀f∈h.l,f.ok)(hv:ie h=true):(fD h).length≤54∧(fD h).length%4=0:=by
 obtain⟨hg,h3,_,_⟩:=pE h bL hf hv;obtain⟨e1,e2,_,_⟩:=jI h bL hf hv;have a1:=fQ h.p;have a2:=fQ h.q;have a3:=PG _ hg;have a6:(bE h).length=(jo h.p).length+(jo h.q).length+(ea (h.l++[bT h.d])).length+2:=by simp only[bE,tz,List.length_cons,List.length_append]
 rw[List.length_append,List.length_singleton]at a3;have e5:(di (bE h)).length≤(bE h).length+3:=K8;omega
theorem CQ(c:Int):cM c%4=0∧cM c≤32:=by
 unfold cM;split;·decide
 ·split;·decide
  ·split<;>decide
theorem Op.tK{o:Op}(h:o.Ok)(D:List UInt8)(hD:D.length≤100000)(hf: ∀f∈o.l,f.ok)(hQ:Q=(D.length+o.chunk.toNat-1)/o.chunk.toNat):
  (o.ay D).length≤D.length+3*Q+93∧(o.ay D).length%4=0∧9≤(o.ay D).length:=by
 have h1:=Ac (o.head D) (o.gP h D hD).1 hf (o.gP h D hD).2;have h2:=PE (k:=o.k (dY o.l D)) h.chunk.1 (Q:=Q) (by rw[hQ];show _=((dY o.l D).length+o.chunk.toNat-1)/o.chunk.toNat;rw[dk]);have h3:=CQ o.check;have h4:(o.k (dY o.l D)).D.length=D.length:=dk _ _;have h5:=o.EF h D hD hf;have h6:(o.sc D).length=(fD (o.head D)).length+(gu (o.k (dY o.l D))).length:=by unfold Op.sc Op.packed;rw[List.length_append]
 rw[h4]at h2;rw[o.sd];unfold aO;omega
def Ah(r:Nat×Nat):Int×Int:=((r.1:Int),(r.2:Int))
def Op.recs(o:Op)(D:List UInt8):List (Int×Int):=(gD o.block.toNat D).map fun P=>Ah (o.rc P)
def Op.qA(o:Op)(D:List UInt8):List (List UInt8):=(gD o.block.toNat D).map o.ay
def Op.idx(o:Op)(D:List UInt8):List UInt8:=gi (o.recs D)
def Op.c8(o:Op):UInt8:=UInt8.ofNat o.check.toNat
def Op.lu(o:Op)(D:List UInt8):List UInt8:=jJ o.c8 ((o.idx D).length/4-1)
def Op.st(o:Op)(D:List UInt8):List UInt8:=lO o.c8++((o.qA D).flatten++(o.idx D++o.lu D))
theorem MD{o:Op}(h:bG o.check=true):((o.c8.toNat:Nat):Int)=o.check∧bG ((o.c8.toNat:Nat):Int)=true:=by
 have e:((o.c8.toNat:Nat):Int)=o.check:=by
  unfold Op.c8;rcases nB o.check with h1 | h1 | h1 | h1 | h1;·rw[h1];rfl
  ·rw[h1];rfl
  ·rw[h1];rfl
  ·rw[h1];rfl
  ·rw[h1]at h;cases h
 exact⟨e,by rw[e];exact h⟩
theorem mR(l:List (Int×Int)):(gi l).length%4=0∧8≤(gi l).length∧(gi l).length≤20*l.length+18:=by
 have h1:=nK l.length;have h2:=pK l;have e:(gi l).length=((jY l.length).length+(jr l).length)+aO ((jY l.length).length+(jr l).length)+4:=by unfold gi di ew;simp only[List.length_append,List.length_replicate,bX]
 rw[e];unfold aO;omega
theorem KZ(l:List (Int×Int)): ∃t,gi l=0::t:=⟨_,by unfold gi di ew jY;rfl⟩
structure Sg(o:Op)(D:List UInt8):Prop where
 jP:o.jP=true
 ay:1≤o.block
 len:D.length≤300
 pD: ∀f∈o.l,f.ok
theorem Sg.ok{o:Op}(h:Sg o D):o.Ok:=Op.Ok.of h.jP
theorem Sg.b1{o:Op}(h:Sg o D):1≤o.block.toNat:=am h.ay
theorem Sg.part{o:Op}(h:Sg o D)(hP:P∈gD o.block.toNat D):1≤P.length∧P.length≤3000:=by have:=Un h.b1 D P hP;have:=h.len;omega
theorem I_{o:Op}(h:o.Ok)(hP:P.length≤3000)(hf: ∀f∈o.l,f.ok):9≤(o.rc P).1∧(o.rc P).1≤500032∧(o.rc P).2≤3000:=by have h1:=o.EF h P aa hf;have h2:=CQ o.check;show 9≤(o.sc P).length+cM o.check∧(o.sc P).length+cM o.check≤500032∧P.length≤3000;omega
theorem lf{o:Op}(h:Sg o D):(o.recs D).all jZ=true∧(∀r∈o.recs D,Vh r)∧(o.recs D).length≤3000:=by
 refine⟨?_,?_,?_⟩;·rw[List.all_eq_true];intro r hr;obtain⟨P,hP,rfl⟩:=List.mem_map.1 hr;have h1:=I_ h.ok (h.part hP).2 h.pD;show(iw ((o.rc P).1:Int)&&decide (0≤((o.rc P).2:Int)))=true;unfold iw;simp;omega
 ·intro r hr;obtain⟨P,hP,rfl⟩:=List.mem_map.1 hr;have h1:=I_ h.ok (h.part hP).2 h.pD;show -9223372036854775808≤((o.rc P).1:Int)∧((o.rc P).1:Int)≤9223372036854775807∧ -9223372036854775808≤((o.rc P).2:Int)∧((o.rc P).2:Int)≤9223372036854775807;omega
 ·unfold Op.recs;rw[List.length_map];have:=tC h.b1 D;have:=h.len;omega
theorem Zl{o:Op}(h:Sg o D)(E:List UInt8):tL (o.idx D++E)=(o.recs D,(o.idx D).length,0):=
 Vk _ E (by have:=(lf h).2.2;omega) (lf h).1 (lf h).2.1
theorem lg(H R:List UInt8)(a n:Nat)(h:a+n≤H.length):part (H++R) a n=part H a n:=by unfold part;rw[List.drop_append_of_le_length aa,List.take_append_of_le_length jL]
theorem tO(H R:List UInt8)(i:Nat)(h:i<H.length):(H++R).getD i 0=H.getD i 0:=by rw[List.getD_eq_getElem?_getD,List.getD_eq_getElem?_getD,List.getElem?_append_left h]
theorem EG(H R:List UInt8)(h:H.length=12):bY (H++R)=bY H:=by
 have h1: ¬(H++R).length<12:=by rw[List.length_append];omega
 have h2: ¬H.length<12:=aa;unfold bY;rw[if_neg h1,if_neg h2,lg H R 0 6 aa,lg H R 8 4 aa,lg H R 6 2 aa,tO H R 6 aa,tO H R 7 aa]
theorem EH(H R:List UInt8)(h:H.length=12):bZ (H++R)=bZ H:=by
 have h1: ¬(H++R).length<12:=by rw[List.length_append];omega
 have h2: ¬H.length<12:=aa;unfold bZ;rw[if_neg h1,if_neg h2,lg H R 10 2 aa,lg H R 0 4 aa,lg H R 4 6 aa,lg H R 4 4 aa,tO H R 8 aa,tO H R 9 aa]
theorem Zm{o:Op}(h:bG o.check=true)(R:List UInt8):bY (lO o.c8++R)=(o.check,0):=by rw[EG _ _ (fg _),PR _ (MD h).2,(MD h).1]
theorem Zn{o:Op}(h:Sg o D)(R:List UInt8):bZ (o.lu D++R)=(o.check,((o.idx D).length:Int),0):=by have h1:=mR (o.recs D);have h2:=(lf h).2.2;have h3:=MD h.ok.check;have e:(o.idx D).length=(gi (o.recs D)).length:=rfl;unfold Op.lu;rw[EH _ _ (eh _ _),PV _ _ aa h3.2,h3.1];rw[show 4*(((o.idx D).length/4-1:Nat):Int)+4=((o.idx D).length:Int) by omega]
theorem PW{o:Op}(h:o.Ok)(D:List UInt8)(hD:D.length≤100000)(hf: ∀f∈o.l,f.ok): ∃b t,o.ay D=b::t∧b≠0:=by
 obtain⟨h1,h2⟩:=o.gP h D hD;obtain⟨e1,e2,e3,_⟩:=jI (o.head D) h1 hf h2;have e4:=Ac (o.head D) h1 hf h2;obtain⟨t,ht⟩: ∃t,di (bE (o.head D))=0::t:=⟨_,by unfold di bE;rfl⟩
 rw[ht]at e1 e2 e3;refine⟨UInt8.ofNat ((0::t).length/4),_,by unfold Op.ay Op.sc fD gv;rw[ht];rfl,?_⟩;intro e;have:=congrArg UInt8.toNat e;rw[UInt8.toNat_ofNat']at this;have h0:(0:UInt8).toNat=0:=rfl;omega
theorem EI{o:Op}(h:Sg o D):(o.st D).length%4=0∧32≤(o.st D).length:=by
 have h1:=mR (o.recs D);have hb:((o.qA D).flatten).length%4=0:=by
  have key: ∀l:List (List UInt8),(∀P∈l,P.length≤3000)→((l.map o.ay).flatten).length%4=0:=by
   intro l;induction l with
   | nil=>intro _;rfl
   | cons P l ih=>
    intro hl;have h2:=ih fun Q hQ=>hl Q (List.mem_cons_of_mem _ hQ);have h3:=hl P (List.mem_cons_self);have h4:=(o.tK h.ok P aa h.pD rfl).2.1;rw[List.map_cons,List.flatten_cons,List.length_append];omega
  exact key _ fun P hP=>(h.part hP).2
 have e:(o.idx D).length=(gi (o.recs D)).length:=rfl;unfold Op.st Op.lu;rw[List.length_append,List.length_append,List.length_append,fg,eh];omega
theorem Ai{o:Op}(h:Sg o D):(o.st D).length≤50000:=by
 have h1:=mR (o.recs D);have hb:((o.qA D).flatten).length≤97*D.length:=by
  have key: ∀l:List (List UInt8),(∀P∈l,1≤P.length∧P.length≤3000)→((l.map o.ay).flatten).length≤97*l.flatten.length:=by
   intro l;induction l with
   | nil=>intro _;exact Nat.le_refl _
   | cons P l ih=>
    intro hl;have h2:=ih fun Q hQ=>hl Q (List.mem_cons_of_mem _ hQ);have h3:=hl P (List.mem_cons_self);have hc:=h.ok.chunk;have hq:(P.length+o.chunk.toNat-1)/o.chunk.toNat≤P.length:=(by refine Nat.le_trans (Nat.div_le_div_right (show P.length+o.chunk.toNat-1≤P.length+(o.chunk.toNat-1) by omega)) ?_;rw[Nat.div_le_iff_le_mul_add_pred aa];have:1*P.length≤o.chunk.toNat*P.length:=Nat.mul_le_mul_right _ aa;omega);have h4:=(o.tK h.ok P aa h.pD rfl).1;rw[List.map_cons,List.flatten_cons,List.flatten_cons,List.length_append,List.length_append];omega
  have:=key _ fun P hP=>h.part hP;rw[uZ h.b1]at this;exact this
 have h2:(o.recs D).length≤300:=by unfold Op.recs;rw[List.length_map];have:=tC h.b1 D;have:=h.len;omega
 have e:(o.idx D).length=(gi (o.recs D)).length:=rfl;have h3:=h.len;unfold Op.st Op.lu;rw[List.length_append,List.length_append,List.length_append,fg,eh];omega
theorem Vo(o:Op)(D:List UInt8)(E:List UInt8):(o.st D++E).head?=some 253:=rfl
inductive pL(mem:Nat):List UInt8→List UInt8→List UInt8×Nat→Prop
 | last (o:Op) (D:List UInt8) (z:Nat) (out:List UInt8):Sg o D→(D.length≠0→aR (bh o.dict)≤mem)→z%4=0→pL mem (o.st D++List.replicate z 0) out (out++D,0)
 | bad (o:Op) (D:List UInt8) (z:Nat) (E out:List UInt8):Sg o D→(D.length≠0→aR (bh o.dict)≤mem)→z%4≠0→E.head?≠some 0→pL mem (o.st D++(List.replicate z 0++E)) out ([],6)
 | step (o:Op) (D:List UInt8) (z:Nat) (E out:List UInt8) (r:List UInt8×Nat):Sg o D→(D.length≠0→aR (bh o.dict)≤mem)→z%4=0→E.head?≠some 0→E.length≠0→pL mem E (out++D) r→pL mem (o.st D++(List.replicate z 0++E)) out r
section
open Go.RowKit Go.Shelf
attribute [local go_sem] Oper.semAt_some
abbrev Pt(n:Nat):Type:={x:Nat×Nat // x.1+x.2≤n∧1≤x.2}
def Pt.of{D:List UInt8}(x:Pt D.length):List UInt8:=(D.drop x.1.1).take x.1.2
def acS{n:Nat}(b off c:Nat)(x:Pt n):Array Value:= #[.slice (some ⟨b,off+x.1.1,none⟩) x.1.2 (c-x.1.1)]
def Vp(bn:Nat)(wr:World):Nat:=match wr.cell? ⟨bn,0,none⟩with
 | some (.slice _ n _)=>n
 | _=>0
theorem Hm{bn n c:Nat}{A:Option Addr}{wr:World}(h:wr.cell? ⟨bn,0,none⟩=some (.slice A n c)):Vp bn wr=n:=by unfold Vp;rw[h]
theorem Hn(F:Fence)(m:Nat)(ot:F.fn 33)(kv:F.round=none)(hm:1≤m)(D:List UInt8)(b off c s bn bs:Nat)(A:Option Addr)(hA:D.length≠0→A=some ⟨b,off,none⟩)(hc:D.length≤c)(qn:c≤9223372036854775807)(hl:D.length≤1000000000)(hs:1≤s)(LZ:s≤9223372036854775807)(w:World)
  (P8:bn<w.heap.size) (dH:bn≠bs) (G':w.cell? ⟨bn,0,none⟩=some (.slice A D.length c)) (aix:w.frozen? ⟨bn,0,none⟩=false) (hcs:w.heap[bs]? =some (.cells #[.int .i64 (s:Nat)] 3 (0,0))) (_hbs:bs<w.heap.size):
  ahg F m prog 33 #[PF bn,PF bs] (acS (n:=D.length) b off c) bn bs (fun xs=>xs.map Pt.of=gD s D) D.length w:=by
 obtain⟨f1,f2,f4,f3⟩:=F;obtain rfl:f3=none:=kv;intro l J W hW hJa hJb hY h0;have Cd:Hid (∀t W',J t W'→W'.cell? ⟨bs,0,none⟩=some (.int .i64 (s:Nat))):=ae (fun t W' h=>by
  have e:=(hJb t W' h).trans hcs;rw[cell_of_row W' _ _ _ _ _ e];rfl)
 have hcW:=(hW.cell (p:=⟨bn,0,none⟩) P8).trans G';have hfW:=(hW.frozen (p:=⟨bn,0,none⟩) P8).trans aix;have HY:=ae hY;have HJ:=ae hJa;have Na:=ae h0;have DP:=ae dH;have c1:=Cd.out _ _ h0;have DJ:=ae (And.intro hA (And.intro hc (And.intro qn (And.intro hs hl))));have hsi:(1:Int)≤(s:Int):=aa;have aya:(s:Int)≤9223372036854775807:=aa;clear hY hJa hJb h0 G' aix hcs hA dH;refine callsIn_of_wp func33 rfl ot ?_ rfl;simp only[ntmps33,List.size_toArray,List.length_cons,List.length_nil,Nat.reduceAdd,Nat.reduceSub,Array.replicate_succ,Array.replicate_zero,List.push_toArray,List.append_toArray,List.nil_append,List.cons_append]
 gi_wp2
 gi_loopw [4] (fun _ wr=> ∃(pre:List (Pt D.length)) (a:Nat) (A':Option Addr),Hid (gD s D=pre.map Pt.of++gD s (D.drop a))∧a≤D.length∧pre.length≤a∧(D.length-a≠0→A'=some ⟨b,off+a,none⟩)∧wr.cell? ⟨bn,0,none⟩=some (.slice A' (D.length-a) (c-a))∧wr.frozen? ⟨bn,0,none⟩=false∧J pre wr) (fun _ wr=>Vp bn wr)
 case atStart=>exact⟨[],0,A,ae rfl,Nat.zero_le _,Nat.le_refl _,DJ.out.1,hcW,hfW,Na.out⟩
 case round=>
  obtain⟨pre,a,A',HL,ha,hpa,hA',Lq,qK,wB⟩:=hrel;clear hcW hfW c1;have c1:=Cd.out _ _ wB;have HLF:=ae (Hm Lq);by_cases han:a<D.length
  ·have e0:=hA' aa;subst e0;have AK:(0:Int)<((D.length-a:Nat):Int):=aa;have⟨k,hk⟩:=ex (min s (D.length-a));have Js:min (s:Int) ((D.length-a:Nat):Int)=(k:Int):=aa;have iy:1≤k∧a+k≤D.length:=am DJ.out;obtain⟨x,hx⟩: ∃x:Pt D.length,x=⟨(a,k),iy.2,iy.1⟩:=⟨_,rfl⟩
   obtain⟨fn,tmps,assign,body,hy,hR⟩:=HY.out pre x wr wB aa;have hex:acS b off c x= #[.slice (some ⟨b,off+a,none⟩) k (c-a)]:=(by rw[hx];rfl);rw[hex]at hy;have gl:Hid (gD s D=(pre++[x]).map Pt.of++gD s (D.drop (a+k))):=ae (by
    have h1:=DJ.out;rw[HL.out,CJ h1.2.2.2.1 jL,List.map_append,List.append_assoc];have ex:Pt.of x=(D.drop a).take s:=(by rw[hx];show(D.drop a).take k=_;rw[←hk,←List.take_take,←List.length_drop,List.take_length]);have ed:(D.drop a).drop s=D.drop (a+k):=by
     rw[List.drop_drop];rcases Nat.lt_or_ge s (D.length-a)with h | h;·rw[show k=s by omega]
     ·rw[List.drop_eq_nil_of_le aa,List.drop_eq_nil_of_le aa]
    rw[←ex,ed];rfl)
   have Sl:c-a≤9223372036854775807:=aa;have hkc:k≤c-a:=am DJ.out;have hkl:k≤D.length-a:=aa;have HK:=ae (And.intro iy (And.intro hkc hkl));clear hx hex hk iy
   gi_wp2
   refine hR.mono ?_;rintro e W3 ⟨rfl,EW,mi⟩;have apd:=mi.1.trans Lq;have ape:=mi.2.trans qK;have c3:=Cd.out _ _ EW;have HJ3:=ae EW;clear EW mi Lq qK c1 wB hR hy;have l6:=HK.out.2.1;have mi:=HK.out.2.2
   gi_wp2
   have hcell:=World.cell?_setCell_same' W3 ⟨bn,0,none⟩ (.slice (if c-a=k then some ⟨b,off+a,none⟩else some ⟨b,off+a+k,none⟩) (D.length-a-k) (c-a-k)) (by rw[apd];rfl);have h1:=HK.out;have h2:=DJ.out;refine⟨⟨pre++[x],a+k,_,gl,h1.1.2,by rw[List.length_append];show pre.length+1≤a+k;omega,fun h=> ?_,by rw[Nat.sub_add_eq,Nat.sub_add_eq];exact hcell,by rw[World.frozen?_setCell];exact ape,HJ.out _ _ _ HJ3.out⟩,?_⟩;·rw[if_neg aa,Nat.add_assoc]
   ·rw[Hm hcell,HLF.out];omega
  ·have e1: ¬(0:Int)<((D.length-a:Nat):Int):=(by omega);have HE:Hid (pre.map Pt.of=gD s D):=ae (by rw[HL.out,GP jL,List.append_nil]);have HJS:=ae wB;clear han wB
   gi_wp2
   go_end0;exact⟨⟨_,rfl⟩,pre,HE.out,HJS.out⟩
def Zo(A:Option Addr)(n c:Nat)(s:Int)(w:World)(e:Ending)(w':World):Prop:=e= .returned (.func (.func 33) #[] #[PF w.heap.size,PF (w.heap.size+1)])∧(w.alloc (.cells #[.slice A n c] 22)).alloc (.cells #[.int .i64 s] 3)=w'
theorem Ho(A:Option Addr)(n c:Nat)(s:Int)(w:World):Calls prog 19 #[.slice A n c,.int .i64 s] w (Zo A n c s w):=by go_enter func19,ntmps19;go_wp2_with fail;go_ret;exact⟨rfl,rfl⟩
end
section
theorem KeepsOthers.ME{a b:World}(h:Below a.heap.size a b):KeepsOthers a b:=
 ⟨h.size,fun j _ hj _=>(h.block j (cr hj)).trans hj⟩
structure E4{α:Type}(n:Nat)(W0:World)(fb:α→List UInt8)(fr:α→Int×Int)(pre:List α)(W:World):Prop where
 ex: ∃vB vR,W.heap[n]? =some (.cells #[vB] 27 (0,0))∧W.heap[n+1]? =some (.cells #[vR] 28 (0,0))∧tV (n+4) W vB vR (pre.map fb) (pre.map fr)
 n2:W.heap[n+3]? =W0.heap[n+3]?
 below:Below n W0 W
 sz:n+4≤W.heap.size
variable{α:Type}{n:Nat}{W0:World}{fb:α→List UInt8}{fr:α→Int×Int}
theorem E4.go(pre:List α)(W W':World)(h:E4 n W0 fb fr pre W)(hb:Below W.heap.size W W'):E4 n W0 fb fr pre W':=by obtain⟨vB,vR,h1,h2,h3⟩:=h.ex;have hs:=h.sz;exact⟨⟨vB,vR,(hb.block _ aa).trans h1,(hb.block _ aa).trans h2,h3.below hb⟩,(hb.block _ aa).trans h.n2,h.below.trans (hb.mono aa),Nat.le_trans hs hb.size⟩
theorem E4.alloc(pre:List α)(W:World)(o:Obj)(h:E4 n W0 fb fr pre W):E4 n W0 fb fr pre (W.alloc o):=h.go _ _ _ (ar)
theorem E4.put(hW:W0.heap.size=n+4)(pre:List α)(W:World)(l:Nat)(o o':Obj)(h:E4 n W0 fb fr pre W)(hl:W0.heap.size≤l)(Ap:W.heap[l]? =some o)(ho:o.isCells=false):E4 n W0 fb fr pre (W.putObj l o'):=by obtain⟨vB,vR,h1,h2,h3⟩:=h.ex;have up: ∀{i:Nat},i≠l→(W.putObj l o').heap[i]? =W.heap[i]? :=fun e=>World.putObj_heap_other e;exact⟨⟨vB,vR,(up aa).trans h1,(up aa).trans h2,h3.put o' Ap ho⟩,(up aa).trans h.n2,h.below.grown (grownBy_putObj' W l o') (am h.sz) (fun k e=>tZ),by rw[World.putObj_size];exact h.sz⟩
theorem E4.acT:jm (n+2) (E4 n W0 fb fr):=fun pre W v h=>by obtain⟨vB,vR,h1,h2,h3⟩:=h.ex;have hs:(W.setCell ⟨n+2,0,none⟩ v).heap.size=W.heap.size:=World.size_setCell _ _ _;have up: ∀{i:Nat},i≠n+2→(W.setCell ⟨n+2,0,none⟩ v).heap[i]? =W.heap[i]? :=fun e=>ah _ _ _ _ e;exact⟨⟨vB,vR,(up aa).trans h1,(up aa).trans h2,h3.set (p:=⟨n+2,0,none⟩) (by show n+2<n+4;omega) v⟩,(up aa).trans h.n2,h.below.setCell (by show n≤n+2;omega) v,by rw[hs];exact h.sz⟩
theorem E4.push{pre:List α}{x:α}{W W1 W2 W3 W4:World}(h:E4 n W0 fb fr pre W)(az:Below W.heap.size W W1){vB vR E5 Qu:Value}{vs:List Value}
  (h1:W1.heap[n]? =some (.cells #[vB] 27 (0,0))) (h2:W1.heap[n+1]? =some (.cells #[vR] 28 (0,0))) (hT:tV (n+4) W1 vB vR (pre.map fb) (pre.map fr))
  (hv:ey 22 (n+4) W1 vB vs) (hvl:vs.length=(pre.map fb).length) (hve: ∀(i:Nat) v L,vs[i]? =some v→(pre.map fb)[i]? =some L→By (n+4) W1 vB vR v L)
  {u:Value} (hu:By (n+4) W1 vB vR u (fb x)) (hn:ey 22 (n+4) W2 E5 (vs++[u])) (hg:W1.grownBy W2 vB.ownBlock) (ho:E5.ownBlock=vB.ownBlock∨E5.ownBlock=some W1.heap.size)
  (mT:Below W2.heap.size (W2.setCell ⟨n,0,none⟩ E5) W3)
  (hr:dz 51 (n+4) W4 Qu (pre.map fr++[fr x])) (et:W3.grownBy W4 vR.ownBlock) (cY:Qu.ownBlock=vR.ownBlock∨Qu.ownBlock=some W3.heap.size):
  KeepsOthers W (W4.setCell ⟨n+1,0,none⟩ Qu)∧fp (n+2) W (W4.setCell ⟨n+1,0,none⟩ Qu)∧E4 n W0 fb fr (pre++[x]) (W4.setCell ⟨n+1,0,none⟩ Qu):=by
 have hs:=h.sz;have s1:=az.size;have s2:=hg.size;have es:(W2.setCell ⟨n,0,none⟩ E5).heap.size=W2.heap.size:=World.size_setCell _ _ _;have s3:W2.heap.size≤W3.heap.size:=es▸mT.size;have s4:=et.size;have aiz:Below (W2.setCell ⟨n,0,none⟩ E5).heap.size (W2.setCell ⟨n,0,none⟩ E5) W3:=by rw[es];exact mT
 have m7:tV (n+4) W2 E5 vR (pre.map fb++[fb x]) (pre.map fr):=hT.ahh hv hvl hve hu hn hg ho;have lh:tV (n+4) W3 E5 vR (pre.map fb++[fb x]) (pre.map fr):=(m7.set (p:=⟨n,0,none⟩) (by show n<n+4;omega) E5).below aiz;have Ww:=lh.ahi hr et cY;have rB:vB.ownBlock≠some n∧vB.ownBlock≠some (n+1)∧vB.ownBlock≠some (n+2)∧vB.ownBlock≠some (n+3):=by refine⟨fun e=> ?_,fun e=> ?_,fun e=> ?_,fun e=> ?_⟩<;>(have:=(hv.lt _ e).1;omega)
 have rR:vR.ownBlock≠some n∧vR.ownBlock≠some (n+1)∧vR.ownBlock≠some (n+2)∧vR.ownBlock≠some (n+3):=by refine⟨fun e=> ?_,fun e=> ?_,fun e=> ?_,fun e=> ?_⟩<;>(have:=(hT.Kp.lt _ e).1;omega)
 have far: ∀i,i<n+4→i≠n→i≠n+1→(W4.setCell ⟨n+1,0,none⟩ Qu).heap[i]? =W.heap[i]? :=by intro i hi e0 e1;have q1:(W4.setCell ⟨n+1,0,none⟩ Qu).heap[i]? =W4.heap[i]? :=ah _ _ _ _ e1;have q2:W4.heap[i]? =W3.heap[i]? :=et.block i aa (fun e=>by have:=(hT.Kp.lt _ e.symm).1;omega);have q3:W3.heap[i]? =(W2.setCell ⟨n,0,none⟩ E5).heap[i]? :=mT.block i aa;have q4:(W2.setCell ⟨n,0,none⟩ E5).heap[i]? =W2.heap[i]? :=ah _ _ _ _ e0;have q5:W2.heap[i]? =W1.heap[i]? :=hg.block i aa (fun e=>by have:=(hv.lt _ e.symm).1;omega);exact q1.trans (q2.trans (q3.trans (q4.trans (q5.trans (az.block i aa)))))
 have eR:(W4.setCell ⟨n+1,0,none⟩ Qu).heap.size=W4.heap.size:=World.size_setCell _ _ _;have b0:W4.heap[n]? =some (.cells #[E5] 27 (0,0)):=by have q5:=(hg.block n aa (fun e=>rB.1 e.symm)).trans h1;have q4:(W2.setCell ⟨n,0,none⟩ E5).heap[n]? =some (.cells #[E5] 27 (0,0)):=heap_set q5 0 _;exact(et.block n aa (fun e=>rR.1 e.symm)).trans ((mT.block n aa).trans q4)
 have b1:W4.heap[n+1]? =some (.cells #[vR] 28 (0,0)):=by have q5:=(hg.block (n+1) aa (fun e=>rB.2.1 e.symm)).trans h2;have q4:(W2.setCell ⟨n,0,none⟩ E5).heap[n+1]? =W2.heap[n+1]? :=ah _ _ _ _ (by show n+1≠n;omega);exact(et.block (n+1) aa (fun e=>rR.2.1 e.symm)).trans ((mT.block (n+1) aa).trans (q4.trans q5))
 refine⟨?_,⟨World.cell?_of_block (a:=⟨n+2,0,none⟩) (far (n+2) aa aa aa),World.frozen?_of_block (a:=⟨n+2,0,none⟩) (far (n+2) aa aa aa)⟩,⟨⟨E5,Qu,?_,heap_set b1 0 _,?_⟩,(far (n+3) aa aa aa).trans h.n2,?_,by rw[eR];omega⟩⟩;·exact((((KeepsOthers.ME az).trans (KeepsOthers.of_grownBy hg (fun j o hj ho=>hv.isCells hj ho))).trans (KeepsOthers.setCell _ _ _)).trans (KeepsOthers.ME aiz)).trans ((KeepsOthers.of_grownBy et (fun j o hj ho=>tA lh.Kp hj ho)).trans (KeepsOthers.setCell _ _ _))
 ·exact(ah _ _ _ _ (by show n≠n+1;omega)).trans b0
 ·rw[List.map_append,List.map_append];exact Ww.set (p:=⟨n+1,0,none⟩) (by show n+1<n+4;omega) Qu
 ·have eW:Below n W0 W1:=h.below.trans (az.mono aa);have fC:Below n W0 W2:=eW.grown hg aa (fun g e=>by have:=(hv.lt g e).1;omega);have ln:Below n W0 W3:=(fC.setCell (by show n≤n;omega) E5).trans (mT.mono aa);exact((ln.grown et aa (fun g e=>by have:=(lh.Kp.lt g e).1;omega)).setCell (by show n≤n+1;omega) Qu)
end
end Go.Proofs.YtfcaoggfnkhfiaaGreatDoor
