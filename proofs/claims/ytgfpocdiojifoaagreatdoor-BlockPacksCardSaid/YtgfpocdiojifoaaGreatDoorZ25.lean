import Derived.Test.YtgfpocdiojifoaaGreatDoorZ24
import Derived.Deep.CutBlock
import Derived.Deep.DeepCutAuto
namespace Go.Proofs.YtgfpocdiojifoaaGreatDoor
set_option maxRecDepth 100000
set_option maxHeartbeats 8000000
open Go.RowKit Go.Proofs.Tryz
variable{l:List UInt8}{bo c f i k r:Nat}{A:Option Addr}{w w':World}
def AG(w:World)(h:el)(e:Ending)(w':World):Prop:=
 (gB h=true∧ ∃v,e= .returned (.tuple #[v,.int .i64 0])∧Own w.heap.size w' v (eF h)∧Below w.heap.size w w')∨
 (gB h=false∧e= .returned (.tuple #[.slice none 0 0,.int .i64 1])∧Below w.heap.size w w')
theorem Nl(h:el)(aR:h.ok)(A:Option Addr)(c:Nat)(w:World)(hF0:dX w A h.l)(On: ∀f∈h.l,f.ok)(hl:h.l.length≤20):
  Calls prog 15 #[ym h A c] w (AG w h):=by
 have Kr:Below w.heap.size w (w.alloc (ja h A c)):=ap;have hcs:=p7 w h A c;have HV:=hdd (I9 h aR A c (w.alloc (ja h A c)) (hF0.below Kr) hl);have sI:=hdd (ox h aR On);have HOP:=hdd (show bQ h=0::UInt8.ofNat (dp h)::fA h from rfl);have Lz:=hdd (show dp h=h.l.length+(if h.p= -1 then 0 else 64)+(if h.q= -1 then 0 else 128)from rfl);have mU:=hdd (show fA h=em h.p++em h.q++dc (h.l++[bm h.d])from rfl);have HBH:=hdd (show dB h=(km (bQ h)).set 0 (UInt8.ofNat ((km (bQ h)).length/4))from rfl);have HPH:=hdd (show eF h=dB h++lV (dB h)from rfl);have Iv:w.heap.size<(w.alloc (ja h A c)).heap.size:=ae;obtain⟨p,q,l,d⟩:=h;obtain⟨o1,o2,o3,o4,o5⟩: -9223372036854775808≤p∧p≤9223372036854775807∧ -9223372036854775808≤q∧q≤9223372036854775807∧d<4294967296:=aR;simp only[ja,ym]at HV hcs Kr Iv Lz mU sI;have J9:=hdd hcs;have IJ:=hdd Kr;clear hcs Kr;cases hv:gB ⟨p,q,l,d⟩with
 | false=>
  rw[hv]at HV;go_enter func15,ntmps15;go_wp2_with fail;refine HV.out.mono ?_;rintro e w1 ⟨rfl,aC⟩;go_wp2_with fail;go_ret2;exact .inr ⟨hv,rfl,aO IJ.out aC⟩
 | true=>
  rw[hv]at HV;obtain⟨g1,g2,g3,g4⟩:=sI.out hv;have HG:Hid (∀f∈l++[bm d],sH f):=hdd g1;have g2:l.length≤3:=g2;have g3:p= -1∨1≤p:=g3;have g4:q= -1∨0≤q:=g4;have sQ:(l.length:Int)≤3:=aa;clear g1;go_enter func15,ntmps15;go_wp2_with fail;refine HV.out.mono ?_;rintro e w1 ⟨rfl,aC⟩;have cu:Hid (Below w.heap.size w w1):=hdd (aO IJ.out aC);have HK:=hdd (fun(wx:World) (hb:Below w1.heap.size w1 wx)=>
   (show wx.cell? ⟨w.heap.size,0,none⟩=some (.int .i64 p)∧wx.cell? ⟨w.heap.size,1,none⟩=some (.int .i64 q)∧wx.cell? ⟨w.heap.size,2,none⟩=some (.slice A l.length c)∧wx.cell? ⟨w.heap.size,3,none⟩=some (.int .u32 (d:Nat))from
    have lt0:=Iv;have lt1:w.heap.size<w1.heap.size:=Nat.lt_of_lt_of_le Iv aC.size;have up:=fun i=>(hb.cell (p:=⟨w.heap.size,i,none⟩) lt1).trans (aC.cell (p:=⟨w.heap.size,i,none⟩) lt0)
    ⟨(up 0).trans J9.out.1,(up 1).trans J9.out.2.1,(up 2).trans J9.out.2.2.1,(up 3).trans J9.out.2.2.2⟩))
  obtain⟨_,_,k2,_⟩:=HK.out w1 (Below.refl _ _);have al1:Hid (w.heap.size<w1.heap.size):=hdd (Nat.lt_of_lt_of_le Iv aC.size);clear aC Iv;have hw8:IntKind.u8.wrap (l.length:Int)=(l.length:Int):=u7;have hX0:l6 (w1.heap.size+1) ((w1.alloc (.cells #[.int .u8 0,.int .u8 (l.length:Int)] 5)).alloc (.cells #[.slice (some ⟨w1.heap.size,0,none⟩) 2 2] 22)) (.slice (some ⟨w1.heap.size,0,none⟩) 2 2):=by have h:=heap_alloc_last (w1.alloc (.cells #[.int .u8 0,.int .u8 (l.length:Int)] 5)) (.cells #[.slice (some ⟨w1.heap.size,0,none⟩) 2 2] 22);rw[World.size_alloc]at h;exact h
  have N7:((UInt8.ofNat l.length).toNat:Int)=(l.length:Int):=k9;have hO0:Own w1.heap.size ((w1.alloc (.cells #[.int .u8 0,.int .u8 (l.length:Int)] 5)).alloc (.cells #[.slice (some ⟨w1.heap.size,0,none⟩) 2 2] 22)) (.slice (some ⟨w1.heap.size,0,none⟩) 2 2) [0,UInt8.ofNat l.length]:=by have h:=(Own.lit w1 [0,UInt8.ofNat l.length] (Nat.le_refl _) ae).alloc (.cells #[.slice (some ⟨w1.heap.size,0,none⟩) 2 2] 22);rw[←N7];exact h
  have tS:Below w1.heap.size w1 ((w1.alloc (.cells #[.int .u8 0,.int .u8 (l.length:Int)] 5)).alloc (.cells #[.slice (some ⟨w1.heap.size,0,none⟩) 2 2] 22)):=(ap).alloc ae _;have Ym:Hid (CE (w1.heap.size+1) w1.heap.size w1 [0,UInt8.ofNat l.length] ((w1.alloc (.cells #[.int .u8 0,.int .u8 (l.length:Int)] 5)).alloc (.cells #[.slice (some ⟨w1.heap.size,0,none⟩) 2 2] 22))):=hdd ⟨_,hX0,hO0,tS⟩;obtain⟨j0,_,_,_⟩:=HK.out _ tS;clear hX0 hO0 tS N7;go_upto_region 5 with fail;generalize(w1.alloc (.cells #[.int .u8 0,.int .u8 (l.length:Int)] 5)).alloc (.cells #[.slice (some ⟨w1.heap.size,0,none⟩) 2 2] 22)=w2 at*;go_upto_if 22 with fail;go_cut []from 11 (fun wx=>CE (w1.heap.size+1) w1.heap.size w1 (0::UInt8.ofNat (l.length+(if p= -1 then 0 else 64))::em p) wx);case first=>
   by_cases hp:p= -1;·subst hp;go_wp2_with fail;go_meet;exact Ym.out
   ·have FT:1≤p:=(by omega);have hpo:Hid (em p=Vl.put 9 p.toNat):=hdd (by unfold em;rw[if_neg hp]);have rz:Hid ((if p= -1 then 0 else 64)=(64:Nat)):=hdd (by rw[if_neg hp]);obtain⟨m,rfl⟩:=Int.eq_ofNat_of_zero_le (show 0≤p by omega);obtain⟨g,cc,hx,ho,hb,hg,Lm,fY,KT,_,BT,uz,_⟩:=Ym.out.opened;have⟨s,hs⟩:=ex (l.length+64);have IU:bits .or .u8 (l.length:Int) 64=(s:Int):=(by rw[alZ l.length g2,hs]);have bJ:=yn hx ho hb hg Lm s aa;have HN:=hdd (vC (w1.heap.size+1) w1.heap.size _ _ m _ bJ.1 bJ.2.1 aa aa ae);obtain⟨j0',_,_,_⟩:=HK.out _ bJ.2.2;have Yo:=hx.cell;rw[show((UInt8.ofNat l.length).toNat:Int)=(l.length:Int) by rw[UInt8.toNat_ofNat'];omega]at fY;have iE:=hdd bJ.2.2;have HS:=hdd hs;have al2:(2:Int)≤(cc:Int):=aa;clear bJ hx ho hs hp hg hb;go_wp2_with fail;refine HN.out.mono ?_;rintro e w3 ⟨v3,rfl,Da,gW,aW,_,_⟩;go_wp2_with fail;go_meet;refine⟨v3,Da,?_,iE.out.trans aW⟩;rw[rz.out,hpo.out,HS.out];exact gW
  case rest=>
  have⟨s1,kG⟩:=ex (l.length+(if p= -1 then 0 else 64));have afv:s1=l.length∨s1=l.length+64:=by rw[←kG];split<;>simp
  rw[kG]at hcut;have nu:=hdd kG;have Nm:=hdd hcut;obtain⟨_,_,_,Yp⟩:=hcut;obtain⟨_,j1,_,_⟩:=HK.out _ Yp;clear Yp kG Ym j0;go_upto_if 35 with fail;go_cut []from 11 (fun wx=>CE (w1.heap.size+1) w1.heap.size w1 (0::UInt8.ofNat (s1+(if q= -1 then 0 else 128))::(em p++em q)) wx);case first=>
   by_cases hq:q= -1;·subst hq;have ho:em (-1)=[]:=rfl;go_wp2_with fail;go_meet;rw[ho,List.append_nil];exact Nm.out
   ·have hpo:Hid (em q=Vl.put 9 q.toNat):=hdd (by unfold em;rw[if_neg hq]);have rz:Hid ((if q= -1 then 0 else 128)=(128:Nat)):=hdd (by rw[if_neg hq]);obtain⟨m,rfl⟩:=Int.eq_ofNat_of_zero_le (show 0≤q by omega);obtain⟨g,cc,hx,ho,hb,hg,Lm,fY,KT,_,BT,uz,_⟩:=Nm.out.opened;have⟨s,hs⟩:=ex (s1+128);have IU:bits .or .u8 (s1:Int) 128=(s:Int):=by
     rcases afv with e | e;·rw[←hs,e];exact(Kz l.length g2).1
     ·rw[←hs,e];exact(Kz l.length g2).2
    have bJ:=yn hx ho hb hg Lm s aa;have HN:=hdd (vC (w1.heap.size+1) w1.heap.size _ _ m _ bJ.1 bJ.2.1 aa aa (by have:=fB p;simp;omega));obtain⟨_,j1',_,_⟩:=HK.out _ bJ.2.2;have Yo:=hx.cell;rw[show((UInt8.ofNat s1).toNat:Int)=(s1:Int) by rw[UInt8.toNat_ofNat'];omega]at fY;have⟨NN,hNN⟩:=ex ((em p).length+2);rw[hNN]at Yo BT;have Vo:(1:Int)<(NN:Int):=aa;have hNc:(NN:Int)≤(cc:Int):=aa;have iE:=hdd bJ.2.2;have HS:=hdd hs;clear bJ hx ho hs hq hg hb hNN BT afv;go_wp2_with fail;refine HN.out.mono ?_;rintro e w3 ⟨v3,rfl,Da,gW,aW,_,_⟩;go_wp2_with fail;go_meet;refine⟨v3,Da,?_,iE.out.trans aW⟩;rw[rz.out,hpo.out,HS.out];exact gW
  case rest=>
  clear Nm j1;have Ws:Hid (0::UInt8.ofNat (s1+(if q= -1 then 0 else 128))::(em p++em q)++dc (l++[bm d])=bQ ⟨p,q,l,d⟩):=hdd (by
   rw[HOP.out,Lz.out,mU.out,←nu.out];rfl)
  have rI:(0::UInt8.ofNat (s1+(if q= -1 then 0 else 128))::(em p++em q):List UInt8).length≤30:=by have h1:=fB p;have h2:=fB q;simp only[List.length_cons,List.length_append];omega
  generalize(0::UInt8.ofNat (s1+(if q= -1 then 0 else 128))::(em p++em q):List UInt8)=pre at*;have Nm:=hdd hcut;obtain⟨v0,vl,ho0,Yp⟩:=hcut;obtain⟨_,_,_,j3⟩:=HK.out _ Yp;have hFl:=(hF0.below cu.out).below Yp;have hFa:=hFl.below ((Below.refl wc.heap.size wc).alloc (Nat.le_refl _) (.cells #[.int .i64 33,.int .u32 (d:Nat)] 84));have pU:Below w1.heap.size w1 (wc.alloc (.cells #[.int .i64 33,.int .u32 (d:Nat)] 84)):=Yp.alloc Yp.size _;have gF:(wc.alloc (.cells #[.int .i64 33,.int .u32 (d:Nat)] 84)).cell? ⟨wc.heap.size,0,none⟩=some (.int .i64 33)∧(wc.alloc (.cells #[.int .i64 33,.int .u32 (d:Nat)] 84)).cell? ⟨wc.heap.size,1,none⟩=some (.int .u32 (d:Nat)):=⟨ae,ae⟩
  have zG:wc.heap.size<(wc.alloc (.cells #[.int .i64 33,.int .u32 (d:Nat)] 84)).heap.size:=ae;have hxa:=vl.below ((Below.refl wc.heap.size wc).alloc (Nat.le_refl _) (.cells #[.int .i64 33,.int .u32 (d:Nat)] 84));have CP:=ho0.alloc (.cells #[.int .i64 33,.int .u32 (d:Nat)] 84);go_upto_region 12 with fail;generalize wc.alloc (.cells #[.int .i64 33,.int .u32 (d:Nat)] 84)=wa at*;go_cut [54,55,56]from 57 (fun s54 s55 s56 wx=>s56= .int .i64 0∧s55= .int .i64 ((l.length:Int)+1)∧eo w1.heap.size wx s54 (l++[bm d])∧CE (w1.heap.size+1) w1.heap.size w1 pre wx);case first=>
   have HH:=hdd (fun(w':World) (hb:Below wa.heap.size wa w')=>(hb.cell (p:=⟨w.heap.size,2,none⟩) (Nat.lt_of_lt_of_le al1.out pU.size)).trans (HK.out wa pU).2.2.1);have yT:=hdd (fun(w':World) (hb:Below wa.heap.size wa w')=>(show w'.cell? ⟨wc.heap.size,0,none⟩=some (.int .i64 33)∧w'.cell? ⟨wc.heap.size,1,none⟩=some (.int .u32 (d:Nat))from⟨(hb.cell (p:=⟨wc.heap.size,0,none⟩) zG).trans gF.1,(hb.cell (p:=⟨wc.heap.size,1,none⟩) zG).trans gF.2⟩));have bE:Below wa.heap.size wa wa.drew:=iS wa;have hOL:bA.ok (bm d):=⟨by show(-9223372036854775808:Int)≤33;omega,by show(33:Int)≤9223372036854775807;omega,o5⟩
   have afw: ∀f∈([]++l)++[bm d],f.ok:=fun f hf=>(HG.out f (by simpa using hf)).1;have afx:(([]++l)++[bm d]).length=l.length+1:=ae;have fi:=hdd (fun(A7:Option Addr) (c7:Nat) (wx:World) (h1:eo wa.heap.size wx (.slice A7 (([]++l)++[bm d]).length c7) (([]++l)++[bm d])) (h2:Below wa.heap.size wa wx)=>(show eo w1.heap.size wx (.slice A7 (l.length+1) c7) (l++[bm d])∧CE (w1.heap.size+1) w1.heap.size w1 pre wx from⟨(by rw[afx]at h1;exact h1.weaken pU.size),v0,hxa.below h2,CP.below h2,aO pU h2⟩));clear afx;have ju:Hid (([]:List bA).length+l.length≤1000000∧([]++l:List bA).length+[bm d].length≤1000000):=hdd av;refine wp_region_held_drew (S:=fun w'=>Below wa.heap.size wa w') ak bE (fun hS=> ?_);refine af 0 hS (h:=bq 1 HH.out hS (h:=bq 3 yT.out hS (h:=af 7 hS (h:= ?_))));refine wpAnyH_ready (rs:=[2,4]) ak ae ?_;refine(AllReadyH.cons rfl (fun K hK=> ?_) (AllReadyH.cons rfl (fun K hK=> ?_) AllReadyH.nil));·skip;refine fN rfl (.const (.slice none 0 0)) (.tmp 50) rfl wa.heap.size wa.drew (.slice none 0 0) [] rfl (eo.nil _ _) A l c rfl (hFa.below bE) ju.out.1 bE.size ?_;intro v5 w5 iZ iM;have g5:Below wa.heap.size wa w5:=am bE iM bE.size (fun g e=>jX);refine dR ?_;refine hK.out _ _ g5 (fun _=> ?_);clear hK K;refine aG 4 (fun K hK=> ?_);go_simp;have g6:Below wa.heap.size wa (w5.alloc (.cells #[.int .i64 33,.int .u32 (d:Nat)] 84)):=g5.alloc g5.size _;refine hK.out _ _ g6 (fun _=> ?_);clear hK K;refine aG 5 (fun K hK=> ?_);refine fN rfl (.tmp 51) (.tmp 53) rfl wa.heap.size (w5.alloc (.cells #[.int .i64 33,.int .u32 (d:Nat)] 84)) v5 ([]++l) rfl (iZ.alloc _) (some ⟨w5.heap.size,0,none⟩) [bm d] 1 rfl (yl w5 (bm d) hOL) ju.out.2 g6.size ?_;intro v7 w7 tk Hz;have g7:Below wa.heap.size wa w7:=am g6 Hz g6.size (fun g e=>(iZ.lt g e).1);obtain⟨A7,c7,rfl,_,_,_⟩:=tk.read afw;have HX:=hdd (fi.out A7 c7 w7 tk g7);refine dR ?_;refine hK.out _ _ g7 (fun _=> ?_);clear hK K;refine aG 6 (fun K hK=> ?_);go_simp;refine hK.out _ _ g7 (fun _=> ?_);clear hK K;refine wpAnyH_done ak ?_ _;go_wp2_with fail;go_meet;exact⟨rfl,rfl,HX.out.1,HX.out.2⟩
   ·skip;go_simp;have g5:Below wa.heap.size wa (wa.drew.alloc (.cells #[.int .i64 33,.int .u32 (d:Nat)] 84)):=bE.alloc bE.size _;have hf5:=yl wa.drew (bm d) hOL;refine hK.out _ _ g5 (fun _=> ?_);clear hK K;refine aG 2 (fun K hK=> ?_);refine fN rfl (.const (.slice none 0 0)) (.tmp 50) rfl wa.heap.size (wa.drew.alloc (.cells #[.int .i64 33,.int .u32 (d:Nat)] 84)) (.slice none 0 0) [] rfl (eo.nil _ _) A l c rfl (hFa.below g5) ju.out.1 g5.size ?_;intro v5 w5 iZ iM;have g6:Below wa.heap.size wa w5:=am g5 iM g5.size (fun g e=>jX);have hf6:=hf5.below (am (Below.refl _ _) iM (Nat.le_refl _) (fun g e=>jX));refine dR ?_;refine hK.out _ _ g6 (fun _=> ?_);clear hK K;refine aG 5 (fun K hK=> ?_);refine fN rfl (.tmp 51) (.tmp 53) rfl wa.heap.size w5 v5 ([]++l) rfl iZ (some ⟨wa.drew.heap.size,0,none⟩) [bm d] 1 rfl hf6 ju.out.2 g6.size ?_;intro v7 w7 tk Hz;have g7:Below wa.heap.size wa w7:=am g6 Hz g6.size (fun g e=>(iZ.lt g e).1);obtain⟨A7,c7,rfl,_,_,_⟩:=tk.read afw;have HX:=hdd (fi.out A7 c7 w7 tk g7);refine dR ?_;refine hK.out _ _ g7 (fun _=> ?_);clear hK K;refine aG 6 (fun K hK=> ?_);go_simp;refine hK.out _ _ g7 (fun _=> ?_);clear hK K;refine wpAnyH_done ak ?_ _;go_wp2_with fail;go_meet;exact⟨rfl,rfl,HX.out.1,HX.out.2⟩
  case rest=>
  obtain⟨rfl,rfl,tk,ZM⟩:=hcut;have afy:=hdd (fun f hf=>(HG.out f hf).1);have hl7:(l++[bm d]).length≤4:=av;have afz:=ix (l++[bm d]) HG.out;obtain⟨A7,c7,rfl,hc7,Us,_⟩:=tk.read afy.out;clear gF zG hxa CP hFa hFl pU vl ho0 Yp j3 Nm;have hn7:(l++[bm d]).length=l.length+1:=ae;have hi7:((l.length:Int)+1)=((l++[bm d]).length:Int):=by rw[hn7];omega
  rw[hi7];clear hn7 hi7;generalize hL7:l++[bm d]=L7 at*;go_wp2_with fail;go_loopw [56] (fun i wr=> ∃j:Nat,j≤L7.length∧i= .int .i64 (j:Nat)∧Hid (eo w1.heap.size wr (.slice A7 L7.length c7) L7)∧Hid (CE (w1.heap.size+1) w1.heap.size w1 (pre++dc (L7.take j)) wr)) (fun i _=>L7.length-(intOf i).toNat);case atStart=>exact⟨0,aa,rfl,hdd tk,hdd (by simpa [dc]using ZM)⟩
  case round=>
   obtain⟨j,hj,rfl,XX,Ym⟩:=hrel;by_cases tT:j<L7.length
   ·have yL:(j:Int)<(L7.length:Int):=(by omega);have hF7:=XX.out.CD afy.out;obtain⟨b7,auN,rfl,F6,bx⟩:=hF7.addr aa;have SK:=bx j tT;have hgj:=HG.out L7[j] (List.getElem_mem tT);have iK:dc (L7.take (j+1))=dc (L7.take j)++(Vl.put 9 L7[j].id.toNat++(Vl.put 9 (dk L7[j]).length++dk L7[j])):=(by rw[List.take_succ_eq_append_getElem tT,mP];rfl);have TY:=ix (L7.take j) (fun f hf=>HG.out f (List.mem_of_mem_take hf));have gh:=SK.c0;have my:=SK.c1;have hCB:=I3 L7[j] SK.ok;generalize L7[j]=f at*;obtain⟨id,n⟩:=f;obtain⟨al6,Jb,aaf,fF,auO⟩:=hgj;simp only at gh my Jb aaf iK;obtain⟨mid,rfl⟩:=Int.eq_ofNat_of_zero_le Jb;rw[fF]at hCB;have F5:=hdd (show ∀w',Calls prog 46 #[.agg #[.int .i64 (mid:Int),.int .u32 (n:Nat)]] w' (lr w' (dk ⟨mid,n⟩) (.int .i64 0))from hCB);rw[Int.toNat_natCast]at iK;generalize dk ⟨mid,n⟩=PP at*;obtain⟨v,hx,ho,hb⟩:=Ym.out;have hV1:=(Vl.cQ 9 mid).2;have hV2:=(Vl.cQ 9 PP.length).2;have htk:(L7.take j).length≤4:=av;have⟨L0,hL0⟩:=ex (pre++dc (L7.take j));have auP:L0.length≤130:=(by rw[←hL0,List.length_append];omega);rw[hL0]at ho;have jb:Hid (pre++dc (L7.take (j+1))=L0++Vl.put 9 mid++Vl.put 9 PP.length++PP):=hdd (by rw[iK,←hL0];simp only[List.append_assoc]);have⟨ww,hww⟩:=ex (wr.alloc (.cells #[.int .i64 (mid:Int),.int .u32 (n:Nat)] 84));have SM:Below wr.heap.size wr ww:=(by rw[←hww];exact ap);have auQ:ww.heap.size=wr.heap.size+1:=(by rw[←hww];simp);have yE:ww.cell? ⟨wr.heap.size,0,none⟩=some (.int .i64 (mid:Int))∧ww.cell? ⟨wr.heap.size,1,none⟩=some (.int .u32 (n:Nat)):=(by rw[←hww];exact⟨ae,ae⟩);have afC:=aO hb SM;have HQ:=hdd yE;have HWW:=hdd hww;have ap1:w1.heap.size+1<wr.heap.size:=hx.lt;clear bx SK iK TY hCB al6 Jb fF hL0 yE;go_upto_region 15 with fail;clear hww;obtain⟨q0,q1⟩:=HQ.out;go_wp2_with fail;refine(F5.out ww).mono ?_;rintro e w3 ⟨vP,rfl,hoP,aW⟩;have Da:=(hx.below SM).below aW;have gW:=(ho.below SM).below aW;have Nn:Below w1.heap.size w1 w3:=aO afC aW;have SN:=(XX.out.below SM).below aW;have UW:w3.cell? ⟨wr.heap.size,0,none⟩=some (.int .i64 (mid:Int)):=(aW.cell (p:=⟨wr.heap.size,0,none⟩) (by show wr.heap.size<ww.heap.size;omega)).trans HQ.out.1;have QB: ∀g,v.ownBlock=some g→g<wr.heap.size:=fun g e=>(ho.aw g e).2;have afD: ∀g,vP.ownBlock=some g→wr.heap.size<g∧g<w3.heap.size:=fun g e=>ar (hoP.aw g e);have HVL:=hdd (And.intro QB afD);have Pn:=hdd (vC (w1.heap.size+1) w1.heap.size v L0 mid w3 Da gW aa aa aa);have al8:=hdd hoP;obtain⟨AP,cP,rfl,hcP,hmP,_⟩:=hoP.read;have auR:=Nn.size;clear QB afD q0 q1 afC SM hx ho hb;go_wp2_with fail;refine Pn.out.mono ?_;rintro e w4 ⟨v4,rfl,Zb,cH,bc,TV,yD⟩;have BZ: ∀g,(Value.slice AP PP.length cP).ownBlock=some g→g≠w1.heap.size+1∧v.ownBlock≠some g:=fun g e=>by have h1:=HVL.out.2 g e;exact⟨aa,fun e2=>ar (HVL.out.1 g e2)⟩
    have al9:=al8.out.aI (fun g e=>TV g (HVL.out.2 g e).2 (BZ g e).1 (BZ g e).2);have SP:=SN.aI (fun g e=>TV g (SN.lt g e).2 (SN.I8 Da g e) (SN.ne gW g e));have r8:Below w1.heap.size w1 w4:=Nn.trans bc;have K8:=hdd (vC (w1.heap.size+1) w1.heap.size v4 _ PP.length w4 Zb cH aa aa rf);have ama:=hdd (bc.size);clear TV Pn UW;go_wp2_with fail;refine K8.out.mono ?_;rintro e w5 ⟨v5,rfl,hx5,iZ,fj,hk5,ZR⟩;have Ev: ∀g,(Value.slice AP PP.length cP).ownBlock=some g→v4.ownBlock≠some g:=fun g e e2=>by
     rcases yD g e2 with h | h;·exact(BZ g e).2 h
     ·have:=(HVL.out.2 g e).2;omega
    have amb:=al9.aI (fun g e=>hk5 g (Nat.lt_of_lt_of_le (HVL.out.2 g e).2 ama.out) (BZ g e).1 (Ev g e));have aai:=SP.aI (fun g e=>hk5 g (SP.lt g e).2 (SP.I8 Zb g e) (SP.ne cH g e));have n7:Below w1.heap.size w1 w5:=r8.trans fj;obtain⟨A5,c5,e5,_,_,AD⟩:=amb.read;obtain⟨rfl,rfl⟩:AP=A5∧cP=c5:=by injection e5 with e1 e2 e3;exact⟨e1,e3⟩
    have⟨L5,hL5⟩:=ex (L0++Vl.put 9 mid++Vl.put 9 PP.length);have auS:L5.length≤150:=(by rw[←hL5];simp only[List.length_append];omega);rw[hL5]at iZ jb;have auT:=hx5.cell;have amd:Hid (L5.length+PP.length≤140737488355328):=hdd aa;clear hk5 BZ Ev hL5 K8 yD ZR SN SP cH gW Da Zb HVL;go_wp2_with (at_builtin;refine aj rfl (.tmp 78) (.tmp 79) rfl w1.heap.size _ v5 L5 rfl iZ AP PP cP rfl AD amd.out n7.size ?_;intro v6 w6 mV wU;have No:=hx5.grown wU (fun e=>hx5.ne iZ e);have auU:=No.cell;have auV:=No.frozen;have Np:Below w1.heap.size w1 w6:=am n7 wU n7.size (fun g e=>(iZ.aw g e).1);have afE:=aai.aI (fun g e=>wU.block g (aai.lt g e).2 (fun e2=>aai.ne iZ g e e2.symm));obtain⟨A6,c6,rfl,_,_,_⟩:=mV.read;rw[List.length_append]at mV)
    have ame:=afE.aI (w':=w6.setCell ⟨w1.heap.size+1,0,none⟩ (.slice A6 (L5.length+PP.length) c6)) (fun g e=>ag _ _ _ _ (fun e2=>afE.I8 No g e e2));exact⟨⟨j+1,aa,aq,hdd ame,hdd ⟨_,No.set _,by rw[jb.out];exact mV.IW No _,Below.setCell Np (by show w1.heap.size≤w1.heap.size+1;omega) _⟩⟩,gt⟩
   ·obtain rfl:j=L7.length:=(by omega);rw[List.take_length,Ws.out]at Ym;have hlen:0<(bQ ⟨p,q,l,d⟩).length∧(bQ ⟨p,q,l,d⟩).length≤130:=(by rw[←Ws.out,List.length_append];have h1:=afz;refine⟨?_,aa⟩;have h2:0<(bQ ⟨p,q,l,d⟩).length:=(by simp[bQ]);rw[←Ws.out,List.length_append]at h2;exact h2);have Zr:=hdd (show km (bQ ⟨p,q,l,d⟩)=bQ ⟨p,q,l,d⟩++List.replicate (bg (bQ ⟨p,q,l,d⟩).length) 0 from rfl);have hz4:bg (bQ ⟨p,q,l,d⟩).length<4:=rj;have hzq:((bQ ⟨p,q,l,d⟩).length+bg (bQ ⟨p,q,l,d⟩).length)%4=0:=rj;have afG: ∃r,bQ ⟨p,q,l,d⟩=0::r:=⟨_,rfl⟩
    generalize bg (bQ ⟨p,q,l,d⟩).length=Z at*;generalize bQ ⟨p,q,l,d⟩=BD at*;clear Ws afz rI tT;go_wp2_with fail;go_loopw [] (fun wr=> ∃t:Nat,t≤Z∧CE (w1.heap.size+1) w1.heap.size w1 (BD++List.replicate t 0) wr∧CF (w1.heap.size+1) wr=BD.length+t) (fun wr=>BD.length+Z-CF (w1.heap.size+1) wr);case atStart=>refine⟨0,aa,by simpa using Ym.out,?_⟩;obtain⟨v,hx,ho,_⟩:=Ym.out;obtain⟨A0,c0,rfl,_,_,_⟩:=ho.read;exact hx.len
    case round=>
     obtain⟨t,ht,afH,SQ⟩:=hrel;have⟨O,hO⟩:=ex (BD++List.replicate t (0:UInt8));have KF:O.length=BD.length+t:=(by rw[←hO];simp);rw[hO]at afH;obtain⟨v,hx,ho,hb⟩:=afH;obtain⟨g,cc,rfl,hg,alo,BT,uz,hcell,Vi⟩:=ho.opened aa;have Yo:=hx.cell;have Lm:g≠w1.heap.size+1:=fun e=>hx.ne ho (by rw[e];rfl);by_cases htz:t<Z
     ·have jt: ¬(O.length:Int)%4=0:=(by omega);have hoA:=ho.alloc (.cells #[.int .u8 0] 5);have hxA:l6 (w1.heap.size+1) (wr.alloc (.cells #[.int .u8 0] 5)) _:=hx.below (ap);have pN:Below w1.heap.size w1 (wr.alloc (.cells #[.int .u8 0] 5)):=hb.alloc hb.size _;have hBA:Bytes (wr.alloc (.cells #[.int .u8 0] 5)) (some ⟨wr.heap.size,0,none⟩) [0]:= .inr ⟨wr.heap.size,0,rfl,ae,by
       intro k hk;obtain rfl:k=0:=tP;simp⟩
      have ju:Hid (O.length+[(0:UInt8)].length≤140737488355328):=hdd av;have jb:Hid (O++[0]=BD++List.replicate (t+1) 0):=hdd Bj;have HOL:=hdd KF;have Xo:=hdd SQ;clear hO hcell Vi hx ho hzq hz4 SQ KF afG;go_wp2_with (at_builtin;refine aj rfl (.tmp 86) (.tmp 87) rfl w1.heap.size _ _ O rfl hoA (some ⟨wr.heap.size,0,none⟩) [0] 1 rfl hBA ju.out pN.size ?_;intro v8 w8 sa L6;have hx8:=hxA.grown L6 (fun e=>hxA.ne hoA e);have auW:=hx8.cell;have auX:=hx8.frozen;have qW:Below w1.heap.size w1 w8:=am pN L6 pN.size (fun g e=>(hoA.aw g e).1);obtain⟨A8,c8,rfl,_,_,_⟩:=sa.read;rw[show(O++[(0:UInt8)]).length=O.length+1 by simp]at sa)
      have VB:=hx8.set (.slice A8 (O.length+1) c8);have pM:=sa.IW hx8 (.slice A8 (O.length+1) c8);rw[jb.out]at pM;have BM:=VB.len;have KF:=HOL.out;have SQ:=Xo.out;exact⟨⟨t+1,aa,⟨_,VB,pM,Below.setCell qW (by show w1.heap.size≤w1.heap.size+1;omega) _⟩,by rw[BM];omega⟩,by rw[BM,SQ];omega⟩
     ·obtain rfl:t=Z:=(by omega);have jt:(O.length:Int)%4=0:=aa;have⟨M,hM⟩:=ex (O.length/4);have hMi:(O.length:Int)=4*(M:Int):=aa;have hMb:M<256:=aa;obtain⟨r0,wP⟩:=afG;obtain⟨r,hr⟩: ∃r,O=0::r:=⟨r0++List.replicate t 0,by rw[←hO,wP];rfl⟩
      have hPO:km BD=O:=(by rw[Zr.out];exact hO);have Df:Hid (dB ⟨p,q,l,d⟩=UInt8.ofNat M::r):=hdd (by
       rw[HBH.out,hPO,hM,hr];rfl)
      have FS:(4*(M:Int)+4)/4=(M:Int)+1:=aa;have hwm:IntKind.u8.wrap (M:Int)=(M:Int):=u7;have⟨NO,hNO⟩:=ex (O.length);have DS:(UInt8.ofNat M::r).length=NO:=(by rw[←hNO,hr];simp);rw[hNO]at hx ho BT Yo hMi jt;rw[hr]at ho;have bJ:=Nk hx ho hb hg Lm M hMb;have hf0:=Vi 0;have uB:wr.cell? ⟨g,0,none⟩=some (.int .u8 0):=(by have h:=hcell 0 (by rw[hr];simp);rw[h];simp[hr]);have auY:(0:Int)<(NO:Int):=aa;have al2:(NO:Int)≤(cc:Int):=aa;have iE:=hdd bJ;have amh:=bJ.1.cell;have auZ:NO≤1000:=aa;clear hPO hO hr wP htz hz4 hzq hcell Vi hx ho hb hM Zr SQ bJ KF hNO;rw[hMi]at jt;go_upto_region 25 with fail;obtain⟨hx5,iZ,fj⟩:=iE.out;generalize wr.setCell ⟨g,0,none⟩ (.int .u8 (M:Nat))=w5 at hx5 iZ fj ⊢;rw[←Df.out]at DS iZ;generalize dB ⟨p,q,l,d⟩=BH at*;have AD:Bytes w5 (some ⟨g,0,none⟩) BH:=by rw[←DS]at iZ;obtain⟨A6,c6,e6,_,_,oV⟩:=iZ.read;injection e6 with e1 e2 e3;rw[e1];exact oV
      have HS:=hdd (show ∀w',Bytes w' (some ⟨g,0,none⟩) BH→Calls prog 18 #[.int .i64 1,.slice (some ⟨g,0,none⟩) NO cc] w' (bS w' (lV BH))from fun w' h=>by
       have:=Fl (some ⟨g,0,none⟩) BH cc w' h aa uz;rwa [DS]at this)
      have hd5:Below w5.heap.size w5 w5.drew:=iS w5;have ami:Below w1.heap.size w1 w5.drew:=aO fj hd5;have YV:Hid (l6 (w1.heap.size+1) w5.drew (.slice (some ⟨g,0,none⟩) NO cc)):=hdd hx5;have HNS:Hid (BH.length+(lV BH).length≤140737488355328):=hdd (ar (gN BH));clear Yo amh uB hf0 FS hwm hMi jt;refine wp_region_held_drew (S:=fun w'=>l6 (w1.heap.size+1) w' (.slice (some ⟨g,0,none⟩) NO cc)∧Below w1.heap.size w1 w') ak ⟨YV.out,ami⟩ (fun hS=> ?_);refine bT 0 rfl (fun w hSw=>by have k:=hSw.1.cell;go_simp;all_goals(with_reducible rfl)) hS (h:=bT 1 rfl (fun w hSw=>by have k:=hSw.1.cell;go_simp;all_goals(with_reducible rfl)) hS (h:= ?_));refine aG 2 (fun K hK=> ?_);go_simp;refine(HS.out w5.drew (AD.below hd5)).mono ?_;rintro e w6 ⟨A6,c6,rfl,hc6,YW,Mb,oV⟩;have g6:Below w5.heap.size w5 w6:=aO hd5 oV;have No:=hx5.below g6;have mV:=iZ.below g6;have Np:=aO fj g6;go_wp2_with fail;refine hK.out _ _ ⟨No,Np⟩ (fun _=> ?_);clear hK K;refine aG 3 (fun K hK=> ?_);refine qK rfl (.tmp 97) (.tmp 99) rfl w1.heap.size w6 (.slice (some ⟨g,0,none⟩) NO cc) BH rfl mV A6 (lV BH) c6 rfl Mb HNS.out Np.size ?_;intro v7 w7 tk Hz;have hx7:=No.grown Hz (fun e=>No.ne mV e);have g7:Below w1.heap.size w1 w7:=am Np Hz Np.size (fun g e=>(mV.aw g e).1);refine dR ?_;refine hK.out _ _ ⟨hx7,g7⟩ (fun _=> ?_);clear hK K;refine aG 4 (fun K hK=> ?_);go_simp;refine hK.out _ _ ⟨hx7,g7⟩ (fun _=> ?_);clear hK K;refine aG 5 (fun K hK=> ?_);go_simp;refine hK.out _ _ ⟨hx7,g7⟩ (fun _=> ?_);clear hK K;refine wpAnyH_done ak ?_ _;go_wp2_with fail;go_ret2;exact .inl ⟨hv,_,rfl,by rw[HPH.out];exact tk.weaken cu.out.size,aO cu.out g7⟩
namespace Vl
def num(l:List UInt8):Nat→Nat
 | 0=>0
 | i+1=>num l i+(l.getD i 0).toNat%128*128^i
theorem Jf(l:List UInt8): ∀i,num l i<128^i
 | 0=>by show 0<1;omega
 | i+1=>by have h:=Jf l i;have h2:(l.getD i 0).toNat%128*128^i≤127*128^i:=Nat.mul_le_mul_right _ aa;show num l i+_<_;rw[Nat.pow_succ];omega
def go(l:List UInt8):Nat→Nat→Nat×Nat×Nat
 | 0,_=>(0,0,6)
 | f+1,i=>if l.length≤i then(0,0,2)else if 128≤(l.getD i 0).toNat then go l f (i+1)else if(l.getD i 0).toNat=0∧0<i then(0,0,6)else(num l (i+1),i+1,0)
def get(l:List UInt8):Nat×Nat×Nat:=go l 9 0
theorem aal(h:l.length≤i):go l (f+1) i=(0,0,2):=by rw[go,if_pos h]
theorem KG(h: ¬l.length≤i)(hb:128≤(l.getD i 0).toNat):go l (f+1) i=go l f (i+1):=by rw[go,if_neg h,if_pos hb]
theorem aam(h: ¬l.length≤i)(hb:(l.getD i 0).toNat=0)(hi:0<i):go l (f+1) i=(0,0,6):=by rw[go,if_neg h,if_neg aa,if_pos ⟨hb,hi⟩]
theorem CI(h: ¬l.length≤i)(hb: ¬128≤(l.getD i 0).toNat)(hi: ¬((l.getD i 0).toNat=0∧0<i)):go l (f+1) i=(num l (i+1),i+1,0):=by rw[go,if_neg h,if_neg hb,if_neg hi]
theorem SU(l:List UInt8)(more:List UInt8): ∀(f n i e:Nat),l.drop i=put f n++more→n<128^(f+1)→(0<i→0<n)→f+1≤e→go l e i=(num l i+n*128^i,i+(put f n).length,0)
 | 0,n,i,e,hd,hn,hp,he=>by
  obtain⟨e,rfl⟩: ∃e',e=e'+1:=⟨e-1,aa⟩
  have hn':n<128:=by simpa using hn
  have aF: ¬l.length≤i:=by intro h;rw[List.drop_eq_nil_of_le h]at hd;simp[put]at hd
  have hg:l.getD i 0=UInt8.ofNat n:=by have:(l.drop i)[0]? =some (UInt8.ofNat n):=(by rw[hd];rfl);rw[List.getElem?_drop]at this;simp only[Nat.add_zero]at this;rw[List.getD_eq_getElem?_getD,this];rfl
  have ht:(l.getD i 0).toNat=n:=Bk;rw[CI aF aa (by rw[ht];intro⟨h1,h2⟩;have:=hp h2;omega),num,ht,Nat.mod_eq_of_lt hn'];rfl
 | f+1,n,i,e,hd,hn,hp,he=>by
  obtain⟨e,rfl⟩: ∃e',e=e'+1:=⟨e-1,aa⟩
  have aF: ¬l.length≤i:=by intro h;rw[List.drop_eq_nil_of_le h]at hd;have:=(cQ (f+1) n).1;have h2:=congrArg List.length hd;simp at h2;omega
  by_cases hs:n<128;·rw[gO hs]at hd ⊢;have hg:l.getD i 0=UInt8.ofNat n:=(by have:(l.drop i)[0]? =some (UInt8.ofNat n):=(by rw[hd];rfl);rw[List.getElem?_drop]at this;simp only[Nat.add_zero]at this;rw[List.getD_eq_getElem?_getD,this];rfl);have ht:(l.getD i 0).toNat=n:=Bk;rw[CI aF aa (by rw[ht];intro⟨h1,h2⟩;have:=hp h2;omega),num,ht,Nat.mod_eq_of_lt hs];rfl
  ·rw[pm hs]at hd ⊢;have hg:l.getD i 0=UInt8.ofNat (n%128+128):=(by have:(l.drop i)[0]? =some (UInt8.ofNat (n%128+128)):=(by rw[hd];rfl);rw[List.getElem?_drop]at this;simp only[Nat.add_zero]at this;rw[List.getD_eq_getElem?_getD,this];rfl);have ht:(l.getD i 0).toNat=n%128+128:=Bk;have pL:l.drop (i+1)=put f (n/128)++more:=(by have:l.drop (i+1)=(l.drop i).drop 1:=(by rw[List.drop_drop]);rw[this,hd];rfl);have oT:n/128<128^(f+1):=(by rw[Nat.div_lt_iff_lt_mul aa];rw[Nat.pow_succ]at hn;exact hn);rw[KG aF aa,SU l more f (n/128) (i+1) e pL oT (fun _=>aa) aa,num,ht];have e1:(n%128+128)%128=n%128:=aa;have e2:n/128*128^(i+1)=n/128*128*128^i:=(by rw[Nat.pow_succ,Nat.mul_comm (128^i),Nat.mul_assoc]);have e3:n%128*128^i+n/128*128*128^i=n*128^i:=(by rw[←Nat.add_mul];congr 1;omega);rw[e1,e2,Nat.add_assoc,e3,List.length_cons];congr 2;omega
end Vl
theorem digit(N v t:Nat)(hv:v<256)(hN:N<128^t)(ht:t<9):
  bits .or .u64 (N:Int) (IntKind.u64.wrap (IntKind.u64.wrap (bits .and .u8 (v:Int) 127)*2^(7*t)))=((N+v%128*128^t:Nat):Int):=by
 have hp:(128:Nat)^t=2^(7*t):=by rw[Nat.pow_mul]
 have hle:2^(7*t)≤2^56:=Nat.pow_le_pow_right aa aa;have hand:bits .and .u8 (v:Int) 127=((v%128:Nat):Int):=by rw[show(127:Int)=((127:Nat):Int)from rfl,u8_and_nat _ _ aa aa];congr 1;exact Nat.and_two_pow_sub_one_eq_mod v 7
 have hd:v%128*2^(7*t)≤127*2^(7*t):=Nat.mul_le_mul_right _ aa;have e1:IntKind.u64.wrap ((v%128:Nat):Int)=((v%128:Nat):Int):=by rw[IntKind.wrap_u64];omega
 have e2:((v%128:Nat):Int)*2^(7*t)=((v%128*2^(7*t):Nat):Int):=ae;have e3:IntKind.u64.wrap ((v%128*2^(7*t):Nat):Int)=((v%128*2^(7*t):Nat):Int):=by rw[IntKind.wrap_u64];omega
 rw[hand,e1,e2,e3,u64_or_nat _ _ (by rw[hp]at hN;omega) aa,Nat.or_comm,Z4 _ _ _ (by rw[←hp];exact hN),hp,Nat.add_comm]
def Got(w:World)(r:Nat×Nat×Nat)(e:Ending)(w':World):Prop:=e= .returned (.tuple #[.int .u64 (r.1:Nat),.int .i64 (r.2.1:Nat),.int .i64 (r.2.2:Nat)])∧w=w'
theorem Nt(A:Option Addr)(l:List UInt8)(c:Nat)(w:World)(hB:Bytes w A l)(hl:l.length≤140737488355328):
  Calls prog 109 #[.slice A l.length c] w (Got w (Vl.get l)):=by
 go_enter func109,ntmps109;go_wp2_with fail;go_loopw [5,10] (fun nn i wr=> ∃t:Nat,t≤l.length∧t<9∧i= .int .i64 (t:Nat)∧nn= .int .u64 (Vl.num l t:Nat)∧Hid (Vl.get l=Vl.go l (9-t) t)∧w=wr) (fun _ i _=>l.length-(intOf i).toNat);case atStart=>exact⟨0,aa,aa,rfl,rfl,rfl,rfl⟩
 case round=>
  obtain⟨t,ht,ht9,rfl,rfl,JO,rfl⟩:=hrel;by_cases aF:t<l.length
  ·obtain⟨b,off,rfl,hb,hc⟩:=hB.addr aa;have hct:=hc t aF;have qQ:l[t]=l.getD t 0:=(by simp[List.getD,aF]);rw[qQ]at hct;have BM: ¬l.length≤t:=aa;have tr:(t:Int)<(l.length:Int):=aa;have K4:=(l.getD t 0).toNat_lt;have uS:=Vl.Jf l t;have Yq:9-t=(8-t)+1:=aa;rw[Yq]at JO;have HM:=hdd (fun h=>JO.out.trans (Vl.KG (f:=8-t) BM h));have aml:=hdd (fun h h2=>JO.out.trans (Vl.aam (f:=8-t) BM h h2));have Yr:=hdd (fun h h2=>JO.out.trans (Vl.CI (f:=8-t) BM h h2));have SV:=hdd (show Vl.num l (t+1)=Vl.num l t+(l.getD t 0).toNat%128*128^t from rfl);generalize(l.getD t 0).toNat=v at*;generalize hN:Vl.num l t=N at*;have C8:=hdd hN;have hNL:=hdd uS;clear hc qQ hB;generalize hL:l.length=L at*;have HL:=hdd hL;clear JO Yq uS hN hL;have HDG:=hdd (digit N v t K4 hNL.out ht9);go_upto_region 7 with(fail)
   rw[HDG.out];rw[←SV.out];generalize pu:Vl.num l (t+1)=N2 at*;have K8:=hdd pu;clear pu HDG hct;by_cases hv:128≤v
   ·have hvi:(128:Int)≤(v:Int):=(by omega);by_cases h8:t=8;·have h8i:((t:Int)+1==9)=true:=(by simp;omega);have HE:=hdd (show Vl.get l=(0,0,6) by rw[HM.out hv,h8];rfl);have H8:=hdd h8;clear h8;go_wp2_with fail;go_ret3;exact⟨oG,rfl⟩
    ·have h8i:((t:Int)+1==9)=false:=beq_eq_false_iff_ne.2 aa;have HE:=hdd (HM.out hv);go_wp2_with fail;go_roundw;case rel=>exact⟨t+1,ar HL.out,aa,congrArg (Value.int .i64) aa,by rw[K8.out],by show Vl.get l=_;rw[HE.out,show 9-(t+1)=8-t by omega],trivial⟩
     case measure=>have:=HL.out;simp[intOf]<;>omega
   ·have hvi: ¬(128:Int)≤(v:Int):=(by omega);by_cases uJ:v=0
    ·have amm:((v:Int)==0)=true:=(by simp[uJ]);by_cases ht0:0<t;·have amn:(0:Int)<(t:Int):=(by omega);have HE:=hdd (aml.out uJ ht0);have HV:=hdd uJ;clear uJ;go_wp2_with fail;go_ret3;exact⟨oG,rfl⟩
     ·have amn: ¬(0:Int)<(t:Int):=(by omega);have HE:=hdd (Yr.out hv aa);have HV:=hdd uJ;clear uJ;go_wp2_with fail;go_ret3;exact⟨oG,rfl⟩
    ·have amm:((v:Int)==0)=false:=beq_eq_false_iff_ne.2 aa;have HE:=hdd (Yr.out hv aa);go_wp2_with fail;go_ret3;exact⟨oG,rfl⟩
  ·have tr: ¬(t:Int)<(l.length:Int):=(by omega);have Yq:9-t=(8-t)+1:=aa;have HE:=hdd (show Vl.get l=(0,0,2) by rw[JO.out,Yq];exact Vl.aal aa);clear Yq JO;go_wp2_with fail;go_ret3;exact⟨oG,rfl⟩

theorem Vl.Fw(l:List UInt8): ∀f i,(Vl.go l f i).2.2=2∧(Vl.go l f i).1=0∧(Vl.go l f i).2.1=0∨(Vl.go l f i).2.2=6∧(Vl.go l f i).1=0∧(Vl.go l f i).2.1=0∨(Vl.go l f i).2.2=0∧(Vl.go l f i).2.1≤l.length∧0<(Vl.go l f i).2.1∧(Vl.go l f i).1<128^(i+f)
 | 0,i=> .inr (.inl ⟨rfl,rfl,rfl⟩)
 | f+1,i=>by
  rw[Vl.go];split;·exact .inl ⟨rfl,rfl,rfl⟩
  ·split;·have:=Vl.Fw l f (i+1);rwa [show i+1+f=i+(f+1) by omega]at this
   ·split;·exact .inr (.inl ⟨rfl,rfl,rfl⟩)
    ·refine .inr (.inr ⟨rfl,by show i+1≤_;omega,by show 0<i+1;omega,?_⟩);exact Nat.lt_of_lt_of_le (Vl.Jf l (i+1)) (Nat.pow_le_pow_right aa aa)
theorem Vl.AI(l:List UInt8):(Vl.get l).2.2=2∧(Vl.get l).1=0∧(Vl.get l).2.1=0∨(Vl.get l).2.2=6∧(Vl.get l).1=0∧(Vl.get l).2.1=0∨(Vl.get l).2.2=0∧(Vl.get l).2.1≤l.length∧0<(Vl.get l).2.1∧(Vl.get l).1<9223372036854775808:=Vl.Fw l 9 0
theorem Bytes.cut(h:Bytes w A l)(k:Nat):Bytes w (A.map fun x=>x.add k) (l.drop k):=by
 rcases Nat.eq_zero_or_pos l.length with h0 | h0;·rw[List.eq_nil_of_length_eq_zero h0,List.drop_nil];exact .nil
 ·obtain⟨b,off,rfl,_,_⟩:=h.addr h0;have e:(⟨b,off,none⟩:Addr).add k=⟨b,off+k,none⟩:=pD;show Bytes w (some ((⟨b,off,none⟩:Addr).add k)) _;rw[e];exact Bytes.drop k h
def eL(l:List UInt8):Option (Nat×List UInt8):=if(Vl.get l).2.2=0 then some ((Vl.get l).1,l.drop (Vl.get l).2.1)else none
theorem gT{l':List UInt8}{n:Nat}(h:eL l=some (n,l')):n<9223372036854775808∧l'.length<l.length∧ ∃k,k≤l.length∧0<k∧Vl.get l=(n,k,0)∧l'=l.drop k:=by
 unfold eL at h;rcases Vl.AI l with⟨h1,_⟩ | ⟨h1,_⟩ | ⟨h1,h2,h3,h4⟩
 ·rw[if_neg aa]at h;cases h
 ·rw[if_neg aa]at h;cases h
 ·rw[if_pos h1]at h;injection h with h;injection h with e1 e2;subst e1;subst e2;exact⟨h4,by rw[List.length_drop];omega,_,h2,h3,by rw[←h1],rfl⟩
theorem Nu(h:eL l=none):Vl.get l=(0,0,2)∨Vl.get l=(0,0,6):=by
 unfold eL at h;rcases Vl.AI l with⟨h1,h2,h3⟩ | ⟨h1,h2,h3⟩ | ⟨h1,_⟩
 ·exact .inl (Prod.ext h2 (Prod.ext h3 h1))
 ·exact .inr (Prod.ext h2 (Prod.ext h3 h1))
 ·rw[if_pos h1]at h;cases h
def gY(l:List UInt8):bA×List UInt8×Nat:=
 match eL l with
 | none=>(⟨0,0⟩,[],4)
 | some (id,l1)=>match eL l1 with
  | none=>(⟨0,0⟩,[],4)
  | some (n,l2)=>if l2.length<n then(⟨0,0⟩,[],4)else if 2147483648≤id then(⟨0,0⟩,[],5)else match ek (id:Int) (l2.take n)with
   | none=>(⟨0,0⟩,[],5)
   | some f=>(f,l2.drop n,0)
def cm(many:Nat):Nat→Nat→List UInt8→List bA→List bA×List UInt8×Nat
 | 0,_,l,acc=>(acc,l,0)
 | k+1,i,l,acc=>if(gY l).2.2≠0 then([],[],(gY l).2.2)else if((gY l).1.id==33) !=(i==many)then([],[],5)else cm many k (i+1) (gY l).2.1 (acc++[(gY l).1])
theorem mR(many k i:Nat)(l:List UInt8)(acc:List bA):cm many (k+1) i l acc=if(gY l).2.2≠0 then([],[],(gY l).2.2)else if((gY l).1.id==33) !=(i==many)then([],[],5)else cm many k (i+1) (gY l).2.1 (acc++[(gY l).1]):=rfl
def qM(here z:Bool)(l:List UInt8):Option (Int×List UInt8):=if here=true then(match eL l with
 | none=>none
 | some (n,l')=>if(z&&n==0)=true then none else some ((n:Int),l'))else some (-1,l)
def gC(s:Nat)(l:List UInt8):Option (Int×Int×List UInt8):=match qM (s/64%2==1) true l with
 | none=>none
 | some (p,l1)=>match qM (s/128==1) false l1 with
  | none=>none
  | some (q,l2)=>some (p,q,l2)
def dg:el:=⟨0,0,[],0⟩
def eG(s:Nat)(l:List UInt8):el×Nat:=match gC s l with
 | none=>(dg,4)
 | some (p,q,l2)=>if(cm (s%4) (s%4+1) 0 l2 []).2.2≠0 then(dg,(cm (s%4) (s%4+1) 0 l2 []).2.2)
  else if(cm (s%4) (s%4+1) 0 l2 []).2.1.all (· ==0)=false then(dg,5)
  else(⟨p,q,(cm (s%4) (s%4+1) 0 l2 []).1.take (s%4),((cm (s%4) (s%4+1) 0 l2 []).1.getD (s%4) ⟨0,0⟩).n⟩,0)
def part(l:List UInt8)(a n:Nat):List UInt8:=(l.drop a).take n
theorem Fx(l:List UInt8)(a n:Nat)(h:a+n≤l.length):(part l a n).length=n:=by unfold part;rw[List.length_take,List.length_drop];omega
def bZ(b:List UInt8):Nat:=4*(b.getD 0 0).toNat+4
def dM(b:List UInt8):List UInt8×Nat:=
 if b.length=0 then([],2)else if b.getD 0 0=0 then([],4)else if b.length<bZ b then([],2)
 else if(lV (b.take (bZ b-4))==part b (bZ b-4) 4)=false then([],4)else(b.take (bZ b-4),0)
def gc(b:List UInt8):el×Nat×Nat:=
 if(dM b).2≠0 then(dg,0,(dM b).2)else if(b.getD 1 0).toNat/4%16≠0 then(dg,0,5)
 else if(eG (b.getD 1 0).toNat ((dM b).1.drop 2)).2≠0 then(dg,0,(eG (b.getD 1 0).toNat ((dM b).1.drop 2)).2)
 else((eG (b.getD 1 0).toNat ((dM b).1.drop 2)).1,bZ b,0)
def Rest(bo:Nat)(w:World)(l:List UInt8):Prop:= ∃A c,l6 bo w (.slice A l.length c)∧Bytes w A l∧(∀a,A=some a→a.block<bo)∧l.length≤c∧c≤9223372036854775807
theorem Bytes.low{B:Nat}(h:Bytes w A l)(hb:Below B w w')(hA: ∀a,A=some a→a.block<B):Bytes w' A l:=by
 rcases h with h | ⟨b,off,rfl,h2,h3⟩
 ·exact .inl h
 ·exact .inr ⟨b,off,rfl,Nat.lt_of_lt_of_le h2 hb.size,fun k hk=>(hb.cell (p:=⟨b,off+k,none⟩) (hA ⟨b,off,none⟩ rfl)).trans (h3 k hk)⟩
theorem Rest.aI(h:Rest bo w l)(hb:Below (bo+1) w w'):Rest bo w' l:=by obtain⟨A,c,h1,h2,h3,h4,h5⟩:=h;exact⟨A,c,(hb.block bo aa).trans h1,h2.low hb (fun a e=>ar (h3 a e)),h3,h4,h5⟩
theorem Nv(a:Addr)(k:Nat):(a.add k).block=a.block:=by obtain⟨b,off,sp⟩:=a;unfold Addr.add;split<;>rfl
theorem Rest.step(hx:l6 bo w (.slice A l.length c))(hB:Bytes w A l)(hA: ∀a,A=some a→a.block<bo)(hk:k≤l.length)(hc:l.length≤c)(hm:c≤9223372036854775807):
  Rest bo (w.setCell ⟨bo,0,none⟩ (.slice (A.map fun x=>x.add k) (l.length-k) (c-k))) (l.drop k):=by
 have hb:Below bo w (w.setCell ⟨bo,0,none⟩ (.slice (A.map fun x=>x.add k) (l.length-k) (c-k))):=Below.setCell (p:=⟨bo,0,none⟩) (Below.refl _ _) (Nat.le_refl _) _;have SW: ∀a,(A.map fun x=>x.add k)=some a→a.block<bo:=by intro a e;obtain⟨a0,h1,h2⟩:=Option.map_eq_some_iff.1 e;rw[←h2,Nv];exact hA a0 h1
 refine⟨_,c-k,?_,(hB.cut k).low hb SW,SW,by rw[List.length_drop];omega,aa⟩;rw[List.length_drop];exact hx.set _
theorem Rest.over(hx:l6 bo w (.slice A l.length c))(hA: ∀a,A=some a→a.block<bo)(hk:l.length≤k):
  Rest bo (w.setCell ⟨bo,0,none⟩ (.slice A (l.length-k) 0)) (l.drop k):=by
 rw[List.drop_eq_nil_of_le hk];refine⟨A,0,?_,.inl rfl,hA,ae,aa⟩;have h0:l.length-k=0:=aa;rw[h0];exact hx.set _
def dQ(bo:Nat)(w w':World):Prop:=w'.heap.size=w.heap.size∧ ∀g,g≠bo→w'.heap[g]? =w.heap[g]?
theorem dQ.refl(bo:Nat)(w:World):dQ bo w w:=⟨rfl,fun _ _=>rfl⟩
theorem dQ.set(bo:Nat)(w:World)(u:Value):dQ bo w (w.setCell ⟨bo,0,none⟩ u):=⟨ae,fun g hg=>ag _ _ _ _ (fun e=>hg e)⟩
def bI(bo:Nat)(w w':World):Prop:=w.heap.size≤w'.heap.size∧ ∀g,g<w.heap.size→g≠bo→w'.heap[g]? =w.heap[g]?
theorem dQ.old(h:dQ bo w w'):bI bo w w':=⟨by rw[h.1];omega,fun g _ hg=>h.2 g hg⟩
theorem Below.old(h:Below w.heap.size w w'):bI bo w w':=⟨h.size,fun g hg _=>h.block g hg⟩
theorem bI.trans{Dk:World}(h:bI bo w w')(k:bI bo w' Dk):bI bo w Dk:=⟨Nat.le_trans h.1 k.1,fun g hg hn=>(k.2 g (Nat.lt_of_lt_of_le hg h.1) hn).trans (h.2 g hg hn)⟩
theorem bI.set(h:bI bo w w')(hr:w.heap.size≤r)(u:Value):bI bo w (w'.setCell ⟨r,i,none⟩ u):=⟨by simp;exact h.1,fun g hg hn=>(ag _ _ _ _ (fun e=>by have e':g=r:=e;omega)).trans (h.2 g hg hn)⟩
def AJ(bo:Nat)(l:List UInt8)(w:World)(e:Ending)(w':World):Prop:=
 Below bo w w'∧dQ bo w w'∧match eL l with
 | none=>e= .returned (.tuple #[.int .u64 0,.int .i64 4])
 | some (n,l')=>e= .returned (.tuple #[.int .u64 (n:Nat),.int .i64 0])∧Rest bo w' l'
theorem pn(bo:Nat)(l:List UInt8)(w:World)(hR:Rest bo w l)(hl:l.length≤1000000):
  Calls prog 108 #[.pointer (some ⟨bo,0,none⟩)] w (AJ bo l w):=by
 obtain⟨A,c,hx,hB,hA,hc,hm⟩:=hR;have Yo:=hx.cell;have Vi:=hx.frozen;have HG:=hdd (Nt A l c w hB aa);have HD:=hdd (show AJ bo l w=fun e w'=>Below bo w w'∧dQ bo w w'∧match eL l with
  | none=>e= .returned (.tuple #[.int .u64 0,.int .i64 4])
  | some (n,l')=>e= .returned (.tuple #[.int .u64 (n:Nat),.int .i64 0])∧Rest bo w' l' from rfl)
 cases hn:eL l with
 | none=>
  rw[hn]at HD;rcases Nu hn with h | h;·rw[h]at HG;rw[HD.out];clear HD h hn;go_enter func108,ntmps108;go_wp2_with fail;refine HG.out.mono ?_;rintro e w1 ⟨rfl,rfl⟩;go_wp2_with fail;go_ret2;exact⟨Below.refl _ _,dQ.refl _ _,rfl⟩
  ·rw[h]at HG;rw[HD.out];clear HD h hn;go_enter func108,ntmps108;go_wp2_with fail;refine HG.out.mono ?_;rintro e w1 ⟨rfl,rfl⟩;go_wp2_with fail;go_ret2;exact⟨Below.refl _ _,dQ.refl _ _,rfl⟩
 | some r=>
  obtain⟨n,l'⟩:=r;rw[hn]at HD;obtain⟨h1,h2,k,h3,h4,h5,rfl⟩:=gT hn;rw[h5]at HG;rw[HD.out];have BI:(k:Int)≤(l.length:Int):=aa;have tY:(l.length:Int)≤(c:Int):=aa;have th:(c:Int)≤9223372036854775807:=aa;have Nm:=hdd (hB.cut k);have aF:=hx.lt;have TM:(l.drop k).length=l.length-k:=List.length_drop;have Lv:=hdd TM;have Ys:=hdd (And.intro h3 hc);have HX:=hdd hx;have Tt:=hdd hA;clear HD hn h5 h2 TM h1 hA hx;go_enter func108,ntmps108;go_wp2_with fail;refine HG.out.mono ?_;rintro e w1 ⟨rfl,rfl⟩;go_wp2_with fail;·go_ret2;exact⟨Below.setCell (p:=⟨bo,0,none⟩) (Below.refl _ _) (Nat.le_refl _) _,dQ.set _ _ _,rfl,Rest.over HX.out Tt.out (ar Ys.out)⟩
  ·go_ret2;exact⟨Below.setCell (p:=⟨bo,0,none⟩) (Below.refl _ _) (Nat.le_refl _) _,dQ.set _ _ _,rfl,Rest.step HX.out hB Tt.out Ys.out.1 Ys.out.2 hm⟩
def Nw(bo n:Nat)(l:List UInt8)(w:World)(e:Ending)(w':World):Prop:=
 Below bo w w'∧dQ bo w w'∧((l.length<n∧e= .returned (.tuple #[.slice none 0 0,.int .i64 4]))∨
  (n≤l.length∧ ∃A c,e= .returned (.tuple #[.slice A n c,.int .i64 0])∧Bytes w' A (l.take n)∧(∀a,A=some a→a.block<bo)∧Rest bo w' (l.drop n)))
theorem Nx(bo n:Nat)(l:List UInt8)(w:World)(hR:Rest bo w l)(hl:l.length≤1000000)(hn:n<9223372036854775808):
  Calls prog 110 #[.int .u64 (n:Nat),.pointer (some ⟨bo,0,none⟩)] w (Nw bo n l w):=by
 obtain⟨A,c,hx,hB,hA,hc,hm⟩:=hR;have Yo:=hx.cell;have Vi:=hx.frozen;have sQ:(l.length:Int)≤1000000:=aa;have sO:(n:Int)<9223372036854775808:=aa;by_cases h:l.length<n
 ·have hi:(l.length:Int)<(n:Int):=by omega
  have HF:=hdd h;clear h;go_enter func110,ntmps110;go_wp2_with fail;go_ret2;exact⟨Below.refl _ _,dQ.refl _ _,.inl ⟨HF.out,rfl⟩⟩
 ·have hi:(n:Int)≤(l.length:Int):=by omega
  have hi2: ¬(l.length:Int)<(n:Int):=aa;have tY:(l.length:Int)≤(c:Int):=aa;have NS:(n:Int)≤(c:Int):=aa;have th:(c:Int)≤9223372036854775807:=aa;have aF:=hx.lt;have hb: ∀u,Below bo w (w.setCell ⟨bo,0,none⟩ u):=fun u=>Below.setCell (p:=⟨bo,0,none⟩) (Below.refl _ _) (Nat.le_refl _) _;have HT:=hdd (fun u=>(hB.take n).low (hb u) hA);have Ys:=hdd (show n≤l.length∧l.length≤c by omega);have HX:=hdd hx;have Tt:=hdd hA;have HM:=hdd hm;have FY:(0:Int)≤(n:Int):=aa;clear h hA hx hb hn hm hc hl;go_enter func110,ntmps110;go_upto_region 5 with fail;have iA:Rest bo (w.setCell ⟨bo,0,none⟩ (.slice (if c=n then A else A.map fun x=>x.add n) (l.length-n) (c-n))) (l.drop n):=by
   split;·rename_i e;have h0:c-n=0:=aa;rw[h0];exact Rest.over HX.out Tt.out (ar Ys.out)
   ·exact Rest.step HX.out hB Tt.out Ys.out.1 Ys.out.2 HM.out
  have aE:Below bo w (w.setCell ⟨bo,0,none⟩ (.slice (if c=n then A else A.map fun x=>x.add n) (l.length-n) (c-n))):=Below.setCell (p:=⟨bo,0,none⟩) (Below.refl _ _) (Nat.le_refl _) _;have my:dQ bo w (w.setCell ⟨bo,0,none⟩ (.slice (if c=n then A else A.map fun x=>x.add n) (l.length-n) (c-n))):=dQ.set _ _ _;have ht2:=HT.out (.slice (if c=n then A else A.map fun x=>x.add n) (l.length-n) (c-n));generalize Value.slice (if c=n then A else A.map fun x=>x.add n) (l.length-n) (c-n)=sv at iA aE ht2 my ⊢;generalize w.setCell ⟨bo,0,none⟩ sv=w2 at iA aE ht2 my ⊢;clear HT Yo Vi;go_wp2_with fail;go_ret2;exact⟨aE,my,.inr ⟨Ys.out.1,A,c,rfl,ht2,Tt.out,iA⟩⟩
def yp(bo:Nat)(l:List UInt8)(w:World)(e:Ending)(w':World):Prop:=
 e= .returned (.tuple #[(gY l).1.agg,.int .i64 ((gY l).2.2:Nat)])∧Below bo w w'∧bI bo w w'∧((gY l).2.2=0→Rest bo w' (gY l).2.1)
def cX(r:Nat)(w:World)(f:bA):Prop:=w.heap[r]? =some (.cells #[.int .i64 f.id,.int .u32 (f.n:Nat)] 84 (0,0))
theorem cX.cells{f:bA}(h:cX r w f):w.cell? ⟨r,0,none⟩=some (.int .i64 f.id)∧w.cell? ⟨r,1,none⟩=some (.int .u32 (f.n:Nat))∧w.frozen? ⟨r,0,none⟩=false∧w.frozen? ⟨r,1,none⟩=false:=by
 refine⟨?_,?_,?_,?_⟩;·rw[cell_of_row w r 0 _ _ _ h];rfl
 ·rw[cell_of_row w r 1 _ _ _ h];rfl
 ·simp[World.frozen?,show w.heap[r]? =_ from h]
 ·simp[World.frozen?,show w.heap[r]? =_ from h]
theorem cX.yq{f:bA}(h:cX r w f)(i:Int):cX r (w.setCell ⟨r,0,none⟩ (.int .i64 i)) ⟨i,f.n⟩:=heap_set (L:=[.int .i64 f.id,.int .u32 (f.n:Nat)]) h 0 (.int .i64 i)
theorem cX.Ny{f:bA}(h:cX r w f)(i:Int)(n:Nat):cX r ((w.setCell ⟨r,0,none⟩ (.int .i64 i)).setCell ⟨r,1,none⟩ (.int .u32 (n:Nat))) ⟨i,n⟩:=by have h1:=heap_set (L:=[.int .i64 f.id,.int .u32 (f.n:Nat)]) h 0 (.int .i64 i);exact heap_set (L:=[.int .i64 i,.int .u32 (f.n:Nat)]) h1 1 (.int .u32 (n:Nat))
theorem cX.zero{f:bA}(h:cX r w f):((w.setCell ⟨r,0,none⟩ (.int .i64 0)).setCell ⟨r,1,none⟩ (.int .u32 0)).cell? ⟨r,1,none⟩=some (.int .u32 0):=(h.Ny 0 0).cells.2.1
theorem Rest.alloc(h:Rest bo w l)(o:Obj):Rest bo (w.alloc o) l:=by
 have aF:bo+1≤w.heap.size:=by obtain⟨A,c,h1,_⟩:=h;exact h1.lt
 exact h.aI ((Below.refl _ _).alloc aF _)
theorem Rest.lt(h:Rest bo w l):bo<w.heap.size:=by obtain⟨A,c,h1,_⟩:=h;exact h1.lt
theorem SX(bo:Nat)(l:List UInt8)(w:World)(hR:Rest bo w l)(hl:l.length≤1000000):
  Calls prog 150 #[.func (.func 108) #[] #[.pointer (some ⟨bo,0,none⟩)],.func (.func 110) #[] #[.pointer (some ⟨bo,0,none⟩)]] w (yp bo l w):=by
 have aF:=hR.lt;have IJ:Hid (Below bo w (w.alloc (.cells #[.int .i64 0,.int .u32 0] 84))):=hdd ((Below.refl _ _).alloc aa _);have HF0:Hid (cX w.heap.size (w.alloc (.cells #[.int .i64 0,.int .u32 0] 84)) ⟨0,0⟩):=hdd (heap_alloc_last _ _);have HN0:=hdd (pn bo l (w.alloc (.cells #[.int .i64 0,.int .u32 0] 84)) (hR.alloc _) hl);have HM:Hid (gY l=match eL l with
  | none=>(⟨0,0⟩,[],4)
  | some (id,l1)=>match eL l1 with
   | none=>(⟨0,0⟩,[],4)
   | some (n,l2)=>if l2.length<n then(⟨0,0⟩,[],4)else if 2147483648≤id then(⟨0,0⟩,[],5)else match ek (id:Int) (l2.take n)with
    | none=>(⟨0,0⟩,[],5)
    | some f=>(f,l2.drop n,0)):=hdd rfl
 have HD:=hdd (show yp bo l w=fun e w'=>e= .returned (.tuple #[(gY l).1.agg,.int .i64 ((gY l).2.2:Nat)])∧Below bo w w'∧bI bo w w'∧((gY l).2.2=0→Rest bo w' (gY l).2.1)from rfl);have wS:Hid (∀(wx:World) (u1 u2:Value),Below bo w wx→Below bo w ((wx.setCell ⟨w.heap.size,0,none⟩ u1).setCell ⟨w.heap.size,1,none⟩ u2)):=hdd (fun wx u1 u2 h=>Below.setCell (p:=⟨w.heap.size,1,none⟩) (Below.setCell (p:=⟨w.heap.size,0,none⟩) h oH _) oH _);have Ql:Hid (∀(wx:World) (u1 u2:Value),bI bo w wx→bI bo w ((wx.setCell ⟨w.heap.size,0,none⟩ u1).setCell ⟨w.heap.size,1,none⟩ u2)):=hdd (fun wx u1 u2 h=>(h.set (Nat.le_refl _) u1).set (Nat.le_refl _) u2);have HK0:Hid (bI bo w (w.alloc (.cells #[.int .i64 0,.int .u32 0] 84))):=hdd (Below.old (ap));rw[HD.out];clear HD;generalize gY l=R at*;have afO:(w.alloc (.cells #[.int .i64 0,.int .u32 0] 84)).heap.size=w.heap.size+1:=ae;have HWS:=hdd afO;clear afO;go_enter func150,ntmps150;go_wp2_with fail;refine HN0.out.mono ?_;rintro e w1 ⟨aC,gh,ky⟩;have KT:cX w.heap.size w1 ⟨0,0⟩:=(gh.2 _ aa).trans HF0.out;have SY:=IJ.out.trans aC;have ko1:=hdd (HK0.out.trans gh.old);obtain⟨c0,c1,f0,f1⟩:=KT.cells;simp only at c0 c1;cases hn:eL l with
 | none=>
  rw[hn]at ky HM;obtain rfl:=ky;obtain rfl:R=(⟨0,0⟩,[],4):=HM.out;clear HM hn gh;go_wp2_with fail;have k1:=cX.zero KT;obtain⟨k0,_,_,_⟩:=(cX.yq KT 0).cells;simp only at k0;exact bodyPost_ret (v:= .tuple #[.agg #[.int .i64 0,.int .u32 0],.int .i64 4]) oI rfl ⟨rfl,wS.out w1 _ _ SY,Ql.out w1 _ _ ko1.out⟩
 | some r1=>
  obtain⟨id,l1⟩:=r1;rw[hn]at ky HM;obtain⟨rfl,iy⟩:=ky;obtain⟨hid,wq,_⟩:=gT hn;have Pn:=hdd (pn bo l1 w1 iy aa);have jd:Hid (R=match eL l1 with
   | none=>(⟨0,0⟩,[],4)
   | some (n,l2)=>if l2.length<n then(⟨0,0⟩,[],4)else if 2147483648≤id then(⟨0,0⟩,[],5)else match ek (id:Int) (l2.take n)with
    | none=>(⟨0,0⟩,[],5)
    | some f=>(f,l2.drop n,0)):=hdd HM.out
  have avj:(id:Int)<9223372036854775808:=aa;have gU:w1.heap.size=w.heap.size+1:=by rw[gh.1,HWS.out]
  have TP:=hdd gU;clear HM hn gh hid gU;go_wp2_with fail;refine Pn.out.mono ?_;rintro e w2 ⟨aE,my,pL⟩;have hf2:cX w.heap.size w2 ⟨0,0⟩:=(my.2 _ aa).trans KT;have Jg:=SY.trans aE;have ko2:=hdd (ko1.out.trans my.old);clear c0 c1 f0 f1;obtain⟨c0,c1,f0,f1⟩:=hf2.cells;simp only at c0 c1;cases oT:eL l1 with
  | none=>
   rw[oT]at pL jd;obtain rfl:=pL;obtain rfl:R=(⟨0,0⟩,[],4):=jd.out;clear jd oT my;go_wp2_with fail;have k1:=cX.zero hf2;obtain⟨k0,_,_,_⟩:=(cX.yq hf2 0).cells;simp only at k0;exact bodyPost_ret (v:= .tuple #[.agg #[.int .i64 0,.int .u32 0],.int .i64 4]) oI rfl ⟨rfl,wS.out w2 _ _ Jg,Ql.out w2 _ _ ko2.out⟩
  | some r2=>
   obtain⟨n,l2⟩:=r2;rw[oT]at pL jd;obtain⟨rfl,iA⟩:=pL;obtain⟨TF,qT,_⟩:=gT oT;have HTK:=hdd (Nx bo n l2 w2 iA aa TF);have ry:Hid (R=if l2.length<n then(⟨0,0⟩,[],4)else if 2147483648≤id then(⟨0,0⟩,[],5)else match ek (id:Int) (l2.take n)with
    | none=>(⟨0,0⟩,[],5)
    | some f=>(f,l2.drop n,0)):=hdd jd.out
   have hnI:(n:Int)<9223372036854775808:=aa;have HZ2:Hid (w2.heap.size=w.heap.size+1):=hdd (by rw[my.1,TP.out]);clear jd oT my TF;go_wp2_with fail;refine HTK.out.mono ?_;rintro e w3 ⟨aW,qU,Ss⟩;have Wh:cX w.heap.size w3 ⟨0,0⟩:=(qU.2 _ aa).trans hf2;have Wy:=Jg.trans aW;have ko3:=hdd (ko2.out.trans qU.old);clear c0 c1 f0 f1;obtain⟨c0,c1,f0,f1⟩:=Wh.cells;simp only at c0 c1;rcases Ss with⟨afP,rfl⟩ | ⟨amr,A3,c3,rfl,nR,hA3,GG⟩
   ·obtain rfl:R=(⟨0,0⟩,[],4):=(by rw[ry.out,if_pos afP]);clear ry afP qU;go_wp2_with fail;have k1:=cX.zero Wh;obtain⟨k0,_,_,_⟩:=(cX.yq Wh 0).cells;simp only at k0;exact bodyPost_ret (v:= .tuple #[.agg #[.int .i64 0,.int .u32 0],.int .i64 4]) oI rfl ⟨rfl,wS.out w3 _ _ Wy,Ql.out w3 _ _ ko3.out⟩
   ·by_cases Jh:2147483648≤id;·obtain rfl:R=(⟨0,0⟩,[],5):=(by rw[ry.out,if_neg aa,if_pos Jh]);have nw:(2147483648:Int)≤(id:Int):=aa;clear ry Jh qU;go_wp2_with fail;have k1:=cX.zero Wh;obtain⟨k0,_,_,_⟩:=(cX.yq Wh 0).cells;simp only at k0;exact bodyPost_ret (v:= .tuple #[.agg #[.int .i64 0,.int .u32 0],.int .i64 5]) oI rfl ⟨rfl,wS.out w3 _ _ Wy,Ql.out w3 _ _ ko3.out⟩
    ·have nw:decide ((2147483648:Int)≤(id:Int))=false:=(by simp;omega);have CZ:Hid (R=match ek (id:Int) (l2.take n)with
      | none=>(⟨0,0⟩,[],5)
      | some f=>(f,l2.drop n,0)):=hdd (by rw[ry.out,if_neg aa,if_neg Jh])
     have N7:(l2.take n).length=n:=qa;have O8:=Ni (id:Int) A3 (l2.take n) c3 w3 nR;rw[N7]at O8;clear N7 hA3 nR amr wq qT;have hz3:w.heap.size<w3.heap.size:=(by rw[qU.1,HZ2.out];omega);have Lh:=hdd GG;have Yt:=hdd hz3;clear hz3 GG;cases GJ:ek (id:Int) (l2.take n)with
     | none=>
      rw[GJ]at O8 CZ;obtain rfl:R=(⟨0,0⟩,[],5):=CZ.out;have aan:=hdd (show Calls prog 184 #[.int .i64 (id:Int),.slice A3 n c3] w3 (sD w3 0 0 (.int .i64 5))from O8);clear ry CZ Jh qU O8 GJ;go_wp2_with fail;refine aan.out.mono ?_;rintro e w4 ⟨rfl,bc⟩;have Wi:cX w.heap.size w4 ⟨0,0⟩:=(bc.block _ Yt.out).trans Wh;have aao:=Wy.trans (bc.mono (ar Yt.out));have ko4:=hdd (ko3.out.trans (Below.old bc));clear c0 c1 f0 f1;obtain⟨c0,c1,f0,f1⟩:=Wi.cells;simp only at c0 c1;go_wp2_with fail;have k1:=cX.zero Wi;obtain⟨k0,_,_,_⟩:=(cX.yq Wi 0).cells;simp only at k0;exact bodyPost_ret (v:= .tuple #[.agg #[.int .i64 0,.int .u32 0],.int .i64 5]) oI rfl ⟨rfl,wS.out w4 _ _ aao,Ql.out w4 _ _ ko4.out⟩
     | some f=>
      obtain⟨sS,fn⟩:=f;rw[GJ]at O8 CZ;obtain rfl:R=(⟨sS,fn⟩,l2.drop n,0):=CZ.out;have aan:=hdd (show Calls prog 184 #[.int .i64 (id:Int),.slice A3 n c3] w3 (sD w3 sS fn (.int .i64 0))from O8);clear ry CZ Jh qU O8 GJ;go_wp2_with fail;refine aan.out.mono ?_;rintro e w4 ⟨rfl,bc⟩;have Wi:cX w.heap.size w4 ⟨0,0⟩:=(bc.block _ Yt.out).trans Wh;have aao:=Wy.trans (bc.mono (ar Yt.out));have ko4:=hdd (ko3.out.trans (Below.old bc));have hR4:Rest bo w4 (l2.drop n):=Lh.out.aI (bc.mono (ar Yt.out));clear c0 c1 f0 f1;obtain⟨c0,c1,f0,f1⟩:=Wi.cells;simp only at c0 c1;go_wp2_with fail;obtain⟨_,k1,_,_⟩:=(cX.Ny Wi sS fn).cells;obtain⟨k0,_,_,_⟩:=(cX.yq Wi sS).cells;simp only at k0 k1
      have Ko:Rest bo ((w4.setCell ⟨w.heap.size,0,none⟩ (.int .i64 sS)).setCell ⟨w.heap.size,1,none⟩ (.int .u32 (fn:Nat))) (l2.drop n):=
       hR4.aI (Below.setCell (p:=⟨w.heap.size,1,none⟩) (Below.setCell (p:=⟨w.heap.size,0,none⟩) (Below.refl _ _) oJ _) oJ _)
      exact bodyPost_ret (v:= .tuple #[.agg #[.int .i64 sS,.int .u32 (fn:Nat)],.int .i64 0]) oI rfl ⟨rfl,wS.out w4 _ _ aao,Ql.out w4 _ _ ko4.out,by first | exact Ko | exact fun _=>Ko⟩
end Go.Proofs.YtgfpocdiojifoaaGreatDoor
