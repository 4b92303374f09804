import Derived.Test.YtgfpocdiojifoaaGreatDoorZ25
import Derived.Deep.DeepCutAuto
import Derived.Deep.RegionHeld3
import Derived.OwnWalk
namespace Go.Proofs.YtgfpocdiojifoaaGreatDoor
set_option maxRecDepth 100000
set_option maxHeartbeats 8000000
open Go.RowKit Go.Proofs.Tryz
variable{p q:Int}{l l' l2 x:List UInt8}{bo er g i many n r s:Nat}{A:Option Addr}{a b c d:Value}{w w':World}
theorem Fy(id:Int)(l:List UInt8)(g:bA)(h:ek id l=some g):g.id=id:=by
 unfold ek at h;split at h
 ·rename_i e;split at h
  ·split at h;·injection h with h;subst h;exact e.symm
   ·cases h
  ·cases h
 ·split at h
  ·rename_i e;split at h;·injection h with h;subst h;exact e.symm
   ·cases h
  ·split at h
   ·split at h;·injection h with h;subst h;rfl
    ·split at h;·injection h with h;subst h;rfl
     ·cases h
    ·cases h
   ·cases h
theorem KH(l:List UInt8):(gY l).1.ok∧(gY l).2.1.length≤l.length:=by
 have hz:bA.ok ⟨0,0⟩:=⟨by show(-9223372036854775808:Int)≤0;omega,by show(0:Int)≤9223372036854775807;omega,by show 0<4294967296;omega⟩
 unfold gY;split;·exact⟨hz,ae⟩
 ·rename_i id l1 h1;split;·exact⟨hz,ae⟩
  ·rename_i n l2 h2;split;·exact⟨hz,ae⟩
   ·split;·exact⟨hz,ae⟩
    ·rename_i hid;split;·exact⟨hz,ae⟩
     ·rename_i f hf;refine⟨⟨?_,?_,SI _ _ _ hf⟩,?_⟩;·have:=Fy _ _ _ hf;rw[this];omega
      ·have:=Fy _ _ _ hf;rw[this];omega
      ·have h3:=(gT h1).2.1;have h4:=(gT h2).2.1;simp only[List.length_drop];omega
def en(bo many:Nat)(l:List UInt8)(w:World)(e:Ending)(w':World):Prop:=
 ∃A c d,e= .returned (.tuple #[.slice A (if(cm many (many+1) 0 l []).2.2=0 then many else 0) c,.int .u32 (d:Nat),.int .i64 ((cm many (many+1) 0 l []).2.2:Nat)])∧Below bo w w'∧bI bo w w'∧
  ((cm many (many+1) 0 l []).2.2≠0→A=none∧c=0∧d=0)∧
  ((cm many (many+1) 0 l []).2.2=0→Rest bo w' (cm many (many+1) 0 l []).2.1∧dX w' A ((cm many (many+1) 0 l []).1.take many)∧d=((cm many (many+1) 0 l []).1.getD many ⟨0,0⟩).n∧many≤c∧c≤9223372036854775807∧(∀a,A=some a→w.heap.size≤a.block))
theorem en.err(h:cm many (many+1) 0 l []=([],[],er))(h0:er≠0)(hb:Below bo w w')(hk:bI bo w w'):en bo many l w (.returned (.tuple #[.slice none 0 0,.int .u32 0,.int .i64 (er:Nat)])) w':=by unfold en;rw[h];exact⟨none,0,0,by rw[if_neg h0];rfl,hb,hk,fun _=>⟨rfl,rfl,rfl⟩,fun h=>absurd h h0⟩
theorem en.yes{c d:Nat}{acc:List bA}(h:cm many (many+1) 0 l []=(acc,l',0))(hb:Below bo w w')(hk:bI bo w w')(hr:Rest bo w' l')(hf:dX w' A (acc.take many))(hd:d=(acc.getD many ⟨0,0⟩).n)
  (hc:many≤c) (hm:c≤9223372036854775807) (hA: ∀a,A=some a→w.heap.size≤a.block):en bo many l w (.returned (.tuple #[.slice A many c,.int .u32 (d:Nat),.int .i64 0])) w':=by
 unfold en;rw[h];exact⟨A,c,d,rfl,hb,hk,fun h=>absurd rfl h,fun _=>⟨hr,hf,hd,hc,hm,hA⟩⟩
theorem Nz(bo many:Nat)(l:List UInt8)(w:World)(hR:Rest bo w l)(hl:l.length≤1000000)(hm:many≤3):
  Calls prog 112 #[.int .i64 (many:Nat),.func (.func 108) #[] #[.pointer (some ⟨bo,0,none⟩)],.func (.func 110) #[] #[.pointer (some ⟨bo,0,none⟩)]] w (en bo many l w):=by
 have aF:=hR.lt;have th:(many:Int)≤3:=aa;go_enter func112,ntmps112;go_wp2_with fail;go_loopw [9,15] (fun lv i wr=> ∃(j:Nat) (lq:List UInt8) (acc:List bA),j≤many+1∧i= .int .i64 (j:Nat)∧Hid (cm many (many+1) 0 l []=cm many (many+1-j) j lq acc)∧Hid (eo w.heap.size wr lv acc)∧acc.length=j∧Hid (∀f∈acc,f.ok)∧Hid (Rest bo wr lq)∧lq.length≤l.length∧Hid (Below bo w wr)∧Hid (bI bo w wr)) (fun _ i _=>many+1-(intOf i).toNat);case atStart=>exact⟨0,l,[],aa,rfl,hdd rfl,hdd (eo.nil _ _),rfl,hdd ae,hdd hR,aa,hdd (Below.refl _ _),hdd ⟨Nat.le_refl _,fun _ _ _=>rfl⟩⟩
 case round=>
  obtain⟨j,lq,acc,hj,rfl,HGO,HOW,amt,oR,mU,hlq,F0,HKO⟩:=hrel;by_cases tT:j<many+1
  ·have yL:(j:Int)<(many:Int)+1:=(by omega);have HO:=hdd (SX bo lq wr mU.out aa);have Yq:many+1-j=(many-j)+1:=aa;rw[Yq]at HGO;have HE:=hdd (HGO.out.trans (mR many (many-j) j lq acc));have aap:=hdd (KH lq);have HD1:=hdd (show yp bo lq wr=fun e w'=>e= .returned (.tuple #[(gY lq).1.agg,.int .i64 ((gY lq).2.2:Nat)])∧Below bo wr w'∧bI bo wr w'∧((gY lq).2.2=0→Rest bo w' (gY lq).2.1)from rfl);rw[HD1.out]at HO;clear HD1 Yq HGO;generalize gY lq=R1 at*;obtain⟨⟨sS,fn⟩,l',er⟩:=R1;go_wp2_with fail;refine HO.out.mono ?_;rintro e w1 ⟨rfl,aC,gh,jZ⟩;have cu:=hdd (F0.out.trans aC);have Cs:=hdd (HKO.out.trans gh);have vn:=HKO.out.1;have pN:Below bo w (w1.alloc (.cells #[.int .i64 sS,.int .u32 (fn:Nat)] 84)):=cu.out.alloc (ar Cs.out.1) _;have hkA:bI bo w (w1.alloc (.cells #[.int .i64 sS,.int .u32 (fn:Nat)] 84)):=Cs.out.trans (Below.old (ap));by_cases he:er=0
   ·subst he;have FZ:=hdd (jZ rfl);have Ja:Hid (cm many (many+1) 0 l []=if(sS==33) !=(j==many)then([],[],5)else cm many (many-j) (j+1) l' (acc++[⟨sS,fn⟩])):=hdd HE.out;have afS:eo w.heap.size w1 u9 acc:=HOW.out.aI (fun g e=>gh.2 g (HOW.out.lt g e).2 (fun e2=>by have:=(HOW.out.lt g e).1;omega));have⟨b2,aaq⟩:=ex ((j==many));have⟨b1,amu⟩:=ex ((sS==33));have gX:((j:Int)==(many:Int))=b2:=(by rw[←aaq,Bool.eq_iff_iff];simp;omega);rw[aaq,amu]at Ja;clear aaq;have lf:=FZ.out.alloc (.cells #[.int .i64 sS,.int .u32 (fn:Nat)] 84);have afT:=afS.alloc (.cells #[.int .i64 sS,.int .u32 (fn:Nat)] 84);have HA:=hdd (And.intro pN (And.intro hkA (And.intro lf afT)));have wZ:b1=b2∨b1≠b2:=(by cases b1<;>cases b2<;>simp);clear pN hkA lf afT afS jZ aC gh HE;rcases wZ with rfl | dr
    ·have TS:Hid (cm many (many+1) 0 l []=cm many (many-j) (j+1) l' (acc++[⟨sS,fn⟩])):=hdd (by rw[Ja.out];simp);have HWB:Hid (Below (w1.alloc (.cells #[.int .i64 sS,.int .u32 (fn:Nat)] 84)).heap.size (w1.alloc (.cells #[.int .i64 sS,.int .u32 (fn:Nat)] 84)) ((w1.alloc (.cells #[.int .i64 sS,.int .u32 (fn:Nat)] 84)).alloc (.cells #[.int .i64 sS,.int .u32 (fn:Nat)] 84))):=hdd (ap);obtain⟨A9,c9,hu9,_,_,_⟩:=HA.out.2.2.2.read oR.out;have hF1:=yl (w1.alloc (.cells #[.int .i64 sS,.int .u32 (fn:Nat)] 84)) ⟨sS,fn⟩ aap.out.1;rw[show(w1.alloc (.cells #[.int .i64 sS,.int .u32 (fn:Nat)] 84)).heap.size=w1.heap.size+1 by simp]at hF1;have Wz:=HA.out.2.2.2.alloc (.cells #[.int .i64 sS,.int .u32 (fn:Nat)] 84);have N3:=HA.out.1.alloc (ar HA.out.2.1.1) (.cells #[.int .i64 sS,.int .u32 (fn:Nat)] 84);have hkB:=HA.out.2.1.trans (Below.old HWB.out);have PX:=HA.out.2.2.1.alloc (.cells #[.int .i64 sS,.int .u32 (fn:Nat)] 84);have oX:=hdd (And.intro N3 (And.intro hkB PX));have amw:=hkB.1;have ju:Hid (acc.length+[(⟨sS,fn⟩:bA)].length≤1000000):=hdd av;clear N3 hkB PX hu9;cases b1
     all_goals
      go_wp2_with (at_builtin;refine qI rfl (.tmp 34) (.tmp 36) rfl w.heap.size _ u9 acc rfl Wz (some ⟨w1.heap.size+1,0,none⟩) [⟨sS,fn⟩] 1 rfl hF1 ju.out amw ?_;intro v2 w2 j6 iV)
      have aE:Below bo w w2:=am oX.out.1 iV (ar oX.out.2.1.1) (fun g e=>by have:=(Wz.lt g e).1;omega);have my:bI bo w w2:=⟨Nat.le_trans oX.out.2.1.1 iV.size,fun g h1 h2=>(iV.block g (ar oX.out.2.1.1) (fun e=>by have:=(Wz.lt g e.symm).1;omega)).trans (oX.out.2.1.2 g h1 h2)⟩
      have oP:Rest bo w2 l':=oX.out.2.2.aI (am (Below.refl _ _) iV (ar oX.out.2.1.1) (fun g e=>by have:=(Wz.lt g e).1;omega));exact⟨⟨j+1,l',acc++[⟨sS,fn⟩],aa,aq,hdd (by rw[TS.out];congr 1;omega),hdd j6,av,hdd (fun f hf=>by rcases List.mem_append.1 hf with h | h;exact oR.out f h;rw[List.mem_singleton.1 h];exact aap.out.1),hdd oP,Nat.le_trans aap.out.2 hlq,hdd aE,hdd my⟩,gt⟩
    ·have TS:Hid (cm many (many+1) 0 l []=([],[],5)):=hdd (by rw[Ja.out,if_pos (by simpa using dr)]);cases b1<;>cases b2;·exact absurd rfl dr
     ·clear dr;go_wp2_with fail;go_ret3;exact en.err TS.out an HA.out.1 HA.out.2.1
     ·clear dr;go_wp2_with fail;go_ret3;exact en.err TS.out an HA.out.1 HA.out.2.1
     ·exact absurd rfl dr
   ·have TS:Hid (cm many (many+1) 0 l []=([],[],er)):=hdd (by rw[HE.out,if_pos he]);have Oo:(0:Int)<(er:Int):=aa;have HEZ:=hdd he;have Tt:=hdd (And.intro pN hkA);clear he pN hkA;go_wp2_with fail;go_ret3;exact en.err TS.out HEZ.out Tt.out.1 Tt.out.2
  ·obtain rfl:j=many+1:=(by omega);rw[Nat.sub_self]at HGO;have amx:Hid (cm many (many+1) 0 l []=(acc,lq,0)):=hdd HGO.out;obtain⟨A9,c9,rfl,Ib,hm9,hF9⟩:=HOW.out.read oR.out;obtain⟨b,off,rfl,vr,bx⟩:=hF9.addr aa;have SK:=bx many aa;have qQ:acc.getD many ⟨0,0⟩=acc[many]:=(by simp[List.getD,show many<acc.length by omega]);have HGD:=hdd qQ;have amy:w.heap.size≤b:=(HOW.out.lt b rfl).1;have ZT:=hdd (fun(w':World) (hb:Below wr.heap.size wr w')=>(hb.cell (p:=⟨b,off+many*2+1,none⟩) vr).trans SK.c1);have TY:dX wr (some ⟨b,off,none⟩) (acc.take many):=(by refine .inr ⟨b,off,rfl,vr,fun i hi=> ?_⟩;have h2:=bx i (by rw[List.length_take]at hi;omega);rw[List.getElem_take];exact h2);have HFT:=hdd TY;generalize acc[many]=f9 at*;obtain⟨id9,n9⟩:=f9;rw[amt];have hmc:(many:Int)+1≤(c9:Int):=aa;have HC:=hdd (show(many:Int)≤(c9:Int)∧(many:Int)<(many:Int)+1∧(0:Int)≤(many:Int) by omega);have bE:Below wr.heap.size wr wr.drew:=iS wr;clear qQ TY SK bx hF9 HGO tT HOW;go_wp2_with fail;refine wp_region_held_drew (S:=fun w'=>Below wr.heap.size wr w') ak bE (fun hS=> ?_);refine af 0 hS (h:=af 1 hS (h:=bT 2 rfl (fun w hSw=>JH) hS (h:=af 3 hS (h:=af 4 hS (h:=bT 5 rfl (fun w hSw=>JH) hS (h:=af 6 hS (h:=bq 7 ZT.out hS (h:=af 8 hS (h:=af 9 hS (h:=af 10 hS (h:= ?_)))))))))));refine wpAnyH_done ak ?_ _;go_wp2_with fail;go_ret3;exact en.yes amx.out (F0.out.trans (bE.mono (ar HKO.out.1))) (HKO.out.trans (Below.old bE)) (mU.out.aI (bE.mono (ar HKO.out.1))) (HFT.out.below bE) (by rw[HGD.out]) aa hm9 (fun a e=>by injection e with e;subst e;exact amy)
def dz(r:Nat)(w:World)(a b c d:Value):Prop:=w.heap[r]? =some (.cells #[a,b,c,d] 51 (0,0))
theorem dz.cells(h:dz r w a b c d):w.cell? ⟨r,0,none⟩=some a∧w.cell? ⟨r,1,none⟩=some b∧w.cell? ⟨r,2,none⟩=some c∧w.cell? ⟨r,3,none⟩=some d:=by refine⟨?_,?_,?_,?_⟩<;>(rw[cell_of_row w r _ _ _ _ h];rfl)
theorem dz.frozen(h:dz r w a b c d)(i:Nat):w.frozen? ⟨r,i,none⟩=false:=by simp[World.frozen?,show w.heap[r]? =_ from h]
theorem dz.SZ(h:dz r w a b c d)(u:Value):dz r (w.setCell ⟨r,0,none⟩ u) u b c d:=heap_set (L:=[a,b,c,d]) h 0 u
theorem dz.yq(h:dz r w a b c d)(u:Value):dz r (w.setCell ⟨r,1,none⟩ u) a u c d:=heap_set (L:=[a,b,c,d]) h 1 u
theorem dz.Ny(h:dz r w a b c d)(u:Value):dz r (w.setCell ⟨r,2,none⟩ u) a b u d:=heap_set (L:=[a,b,c,d]) h 2 u
theorem dz.afU(h:dz r w a b c d)(u:Value):dz r (w.setCell ⟨r,3,none⟩ u) a b c u:=heap_set (L:=[a,b,c,d]) h 3 u
theorem dz.ret(h:dz r w a b c d)(p q s t:Value):(w.setCell ⟨r,0,none⟩ p).cell? ⟨r,0,none⟩=some p∧((w.setCell ⟨r,0,none⟩ p).setCell ⟨r,1,none⟩ q).cell? ⟨r,1,none⟩=some q∧
  (((w.setCell ⟨r,0,none⟩ p).setCell ⟨r,1,none⟩ q).setCell ⟨r,2,none⟩ s).cell? ⟨r,2,none⟩=some s∧((((w.setCell ⟨r,0,none⟩ p).setCell ⟨r,1,none⟩ q).setCell ⟨r,2,none⟩ s).setCell ⟨r,3,none⟩ t).cell? ⟨r,3,none⟩=some t:=
 ⟨(h.SZ p).cells.1,((h.SZ p).yq q).cells.2.1,(((h.SZ p).yq q).Ny s).cells.2.2.1,((((h.SZ p).yq q).Ny s).afU t).cells.2.2.2⟩
theorem dz.aI(h:dz r w a b c d)(hk:dQ bo w w')(hr:r≠bo):dz r w' a b c d:=(hk.2 r hr).trans h
theorem dz.other{u:Value}(h:dz r w a b c d)(hg:g≠r):dz r (w.setCell ⟨g,i,none⟩ u) a b c d:=(ag _ _ _ _ (fun e=>hg e.symm)).trans h
theorem KI: ∀s:Fin 256,bits .and .u8 (s.val:Int) 64=(if s.val/64%2=1 then 64 else 0)∧bits .and .u8 (s.val:Int) 128=(if s.val/128=1 then 128 else 0)∧bits .and .u8 (s.val:Int) 3=((s.val%4:Nat):Int)∧(bits .and .u8 (s.val:Int) 60=0↔s.val/4%16=0):=jJ
def dH(bo s:Nat)(l:List UInt8)(w:World)(e:Ending)(w':World):Prop:=
 Below bo w w'∧bI bo w w'∧match gC s l with
 | none=>e= .returned (.tuple #[.agg #[.int .i64 0,.int .i64 0,.slice none 0 0,.int .u32 0],.int .i64 4])
 | some (p,q,l2)=>e= .returned (.tuple #[.agg #[.int .i64 p,.int .i64 q,.slice none 0 0,.int .u32 0],.int .i64 0])∧Rest bo w' l2
theorem dH.err(h:gC s l=none)(hb:Below bo w w')(hk:bI bo w w'):dH bo s l w (.returned (.tuple #[.agg #[.int .i64 0,.int .i64 0,.slice none 0 0,.int .u32 0],.int .i64 4])) w':=by unfold dH;rw[h];exact⟨hb,hk,rfl⟩
theorem dH.yes(h:gC s l=some (p,q,l2))(hb:Below bo w w')(hk:bI bo w w')(hr:Rest bo w' l2):dH bo s l w (.returned (.tuple #[.agg #[.int .i64 p,.int .i64 q,.slice none 0 0,.int .u32 0],.int .i64 0])) w':=by unfold dH;rw[h];exact⟨hb,hk,rfl,hr⟩
def aas(bo:Nat)(w:World)(p q:Int)(l:List UInt8)(wx:World):Prop:=
 dz w.heap.size wx (.int .i64 0) (.int .i64 0) (.slice none 0 0) (.int .u32 0)∧dz (w.heap.size+1) wx (.int .i64 p) (.int .i64 q) (.slice none 0 0) (.int .u32 0)∧Rest bo wx l∧Below bo w wx∧bI bo w wx
theorem tM(s:Nat)(l:List UInt8):gC s l=match qM (s/64%2==1) true l with
 | none=>none
 | some (p,l1)=>match qM (s/128==1) false l1 with
  | none=>none
  | some (q,l2)=>some (p,q,l2):=rfl
theorem yr{here z:Bool}(h:qM here z l=some (p,l')):l'.length≤l.length∧ -1≤p∧p<9223372036854775808:=by
 unfold qM at h;split at h
 ·split at h;·cases h
  ·rename_i n l1 hn;split at h;·cases h
   ·injection h with h;injection h with h1 h2;subst h1;subst h2;have:=gT hn;exact⟨aa,aa,aa⟩
 ·injection h with h;injection h with h1 h2;subst h1;subst h2;exact⟨Nat.le_refl _,aa,aa⟩
theorem Ji(bo s:Nat)(l:List UInt8)(w:World)(hR:Rest bo w l)(hl:l.length≤1000000)(hs:s<256):
  Calls prog 111 #[.int .u8 (s:Nat),.func (.func 108) #[] #[.pointer (some ⟨bo,0,none⟩)]] w (dH bo s l w):=by
 have aF:=hR.lt;have⟨w0,hw0⟩:=ex ((w.alloc (.cells #[.int .i64 0,.int .i64 0,.slice none 0 0,.int .u32 0] 51)).alloc (.cells #[.int .i64 (-1),.int .i64 (-1),.slice none 0 0,.int .u32 0] 51));have hI0:Hid (aas bo w (-1) (-1) l w0):=hdd (by
  have h1:(w.alloc (.cells #[.int .i64 0,.int .i64 0,.slice none 0 0,.int .u32 0] 51)).heap[w.heap.size]? =_:=heap_alloc_last _ _;have h2:=heap_alloc_last (w.alloc (.cells #[.int .i64 0,.int .i64 0,.slice none 0 0,.int .u32 0] 51)) (.cells #[.int .i64 (-1),.int .i64 (-1),.slice none 0 0,.int .u32 0] 51);rw[World.size_alloc]at h2;rw[←hw0];exact⟨(Below.heap_alloc _ _ _ ae).trans h1,h2,(hR.alloc _).alloc _,((Below.refl _ _).alloc aa _).alloc av _,Below.old ((ap).alloc ae _)⟩)
 have zi:=hdd hw0;clear hw0;obtain⟨aat,S3,_,_⟩:=KI ⟨s,hs⟩;simp only at aat S3;have HSM:=hdd (tM s l);have⟨b1,aC⟩:=ex ((s/64%2==1));have⟨b2,aE⟩:=ex ((s/128==1));rw[aC,aE]at HSM;have Zm:Hid (bits .and .u8 (s:Int) 64=if b1=true then 64 else 0):=hdd (by rw[aat,←aC];simp);have HA2:Hid (bits .and .u8 (s:Int) 128=if b2=true then 128 else 0):=hdd (by rw[S3,←aE];simp);clear aat S3 aC aE;go_enter func111,ntmps111;go_upto_region 2 with fail;rw[zi.out];have iE:=hdd (fun(wx:World) (h:Below bo w wx) (i:Nat) (u:Value)=>(Below.setCell (p:=⟨w.heap.size+1,i,none⟩) h (by show bo≤w.heap.size+1;omega) u));have Z8:=hdd (fun(wx:World) (lx:List UInt8) (h:Rest bo wx lx) (i:Nat) (u:Value)=>h.aI (Below.setCell (p:=⟨w.heap.size+1,i,none⟩) (Below.refl _ _) (by show bo+1≤w.heap.size+1;omega) u))
 have yt:=hdd (fun(wx:World) (h:Below bo w wx) (a b c d:Value)=>(show Below bo w ((((wx.setCell ⟨w.heap.size,0,none⟩ a).setCell ⟨w.heap.size,1,none⟩ b).setCell ⟨w.heap.size,2,none⟩ c).setCell ⟨w.heap.size,3,none⟩ d)from
  Below.setCell (p:=⟨w.heap.size,3,none⟩) (Below.setCell (p:=⟨w.heap.size,2,none⟩) (Below.setCell (p:=⟨w.heap.size,1,none⟩) (Below.setCell (p:=⟨w.heap.size,0,none⟩) h oH a) oH b) oH c) oH d))
 have KJ:=hdd (fun(wx:World) (h:bI bo w wx) (a b c d:Value)=>(show bI bo w ((((wx.setCell ⟨w.heap.size,0,none⟩ a).setCell ⟨w.heap.size,1,none⟩ b).setCell ⟨w.heap.size,2,none⟩ c).setCell ⟨w.heap.size,3,none⟩ d)from
  (((h.set (Nat.le_refl _) a).set (Nat.le_refl _) b).set (Nat.le_refl _) c).set (Nat.le_refl _) d))
 have afV:=hdd (fun(wx:World) (lx:List UInt8) (h:Rest bo wx lx) (a b c d:Value)=>(show Rest bo ((((wx.setCell ⟨w.heap.size,0,none⟩ a).setCell ⟨w.heap.size,1,none⟩ b).setCell ⟨w.heap.size,2,none⟩ c).setCell ⟨w.heap.size,3,none⟩ d) lx from
  h.aI (Below.setCell (p:=⟨w.heap.size,3,none⟩) (Below.setCell (p:=⟨w.heap.size,2,none⟩) (Below.setCell (p:=⟨w.heap.size,1,none⟩) (Below.setCell (p:=⟨w.heap.size,0,none⟩) (Below.refl _ _) oJ a) oJ b) oJ c) oJ d)))
 clear zi;go_upto_if 14 with fail;go_cut []from 11 (fun wx=> ∃p l1,qM b1 true l=some (p,l1)∧aas bo w p (-1) l1 wx);case first=>
  cases b1 with
  | false=>
   have ha:=Zm.out;rw[if_neg ae]at ha;go_wp2_with fail;go_meet;exact⟨-1,l,rfl,hI0.out⟩
  | true=>
   have ha:=Zm.out;rw[if_pos rfl]at ha;obtain⟨hz,hh,hr,hb,hk⟩:=hI0.out;have HN:=hdd (pn bo l w0 hr aa);have TQ:=hdd (show qM true true l=(match eL l with
    | none=>none
    | some (n,l')=>if(true&&n==0)=true then none else some ((n:Int),l'))from rfl)
   go_wp2_with fail;refine HN.out.mono ?_;rintro e w1 ⟨aC,gh,ky⟩;have gU:=hz.aI gh aa;have DZ:=hh.aI gh aa;have cu:=hdd (hb.trans aC);have Cs:=hdd (hk.trans gh.old);have TP:=hdd gU;have HH1:=hdd DZ;obtain⟨z0,z1,z2,z3⟩:=gU.cells;have zC:=gU.frozen 0;have zD:=gU.frozen 1;have CV:=gU.frozen 2;have CW:=gU.frozen 3;cases hn:eL l with
   | none=>
    rw[hn]at ky TQ;obtain rfl:=ky;have N4:Hid (gC s l=none):=hdd (by rw[HSM.out,TQ.out]);clear hn gh aC hz hh hb hk hr gU DZ;go_wp2_with fail;obtain⟨k0,k1,k2,k3⟩:=dz.ret TP.out (.int .i64 0) (.int .i64 0) (.slice none 0 0) (.int .u32 0);exact bodyPost_ret (v:= .tuple #[.agg #[.int .i64 0,.int .i64 0,.slice none 0 0,.int .u32 0],.int .i64 4]) va rfl (dH.err N4.out (yt.out w1 cu.out _ _ _ _) (KJ.out w1 Cs.out _ _ _ _))
   | some r1=>
    obtain⟨n,l'⟩:=r1;rw[hn]at ky TQ;obtain⟨rfl,iy⟩:=ky;obtain⟨TF,N7,_⟩:=gT hn;have sO:(n:Int)<9223372036854775808:=aa;have FZ:=hdd iy;by_cases FY:n=0;·subst FY;have N4:Hid (gC s l=none):=hdd (by rw[HSM.out,TQ.out];rfl);clear hn gh aC hz hh hb hk hr gU DZ;go_wp2_with fail;obtain⟨k0,k1,k2,k3⟩:=dz.ret TP.out (.int .i64 0) (.int .i64 0) (.slice none 0 0) (.int .u32 0);exact bodyPost_ret (v:= .tuple #[.agg #[.int .i64 0,.int .i64 0,.slice none 0 0,.int .u32 0],.int .i64 4]) va rfl (dH.err N4.out (yt.out w1 cu.out _ _ _ _) (KJ.out w1 Cs.out _ _ _ _))
    ·have yP:((n:Int)==0)=false:=(by simp;omega);have HF:Hid (qM true true l=some ((n:Int),l')):=hdd (by rw[TQ.out];simp[FY]);obtain⟨y0,y1,y2,y3⟩:=HH1.out.cells;have yf:=HH1.out.frozen 0;clear hn gh aC hz hh hb hk hr gU DZ TF N7 iy FY;go_wp2_with fail;go_meet;exact⟨(n:Int),l',HF.out,TP.out.other aa,HH1.out.SZ _,Z8.out _ _ FZ.out 0 _,iE.out _ cu.out 0 _,Cs.out.set aa _⟩
 case rest=>
 obtain⟨p,l1,hp,hi1⟩:=hcut;have rI:=yr hp;have afW:Hid (gC s l=match qM b2 false l1 with
  | none=>none
  | some (q,l2)=>some (p,q,l2)):=hdd (by rw[HSM.out,hp])
 have HI1:=hdd hi1;clear hi1 hI0 Zm hp;go_upto_if 32 with fail;go_cut []from 11 (fun wx=> ∃q l2,qM b2 false l1=some (q,l2)∧aas bo w p q l2 wx);case first=>
  cases b2 with
  | false=>
   have ha:=HA2.out;rw[if_neg ae]at ha;go_wp2_with fail;go_meet;exact⟨-1,l1,rfl,HI1.out⟩
  | true=>
   have ha:=HA2.out;rw[if_pos rfl]at ha;obtain⟨hz,hh,hr,hb,hk⟩:=HI1.out;have HN:=hdd (pn bo l1 wc hr aa);have TQ:=hdd (show qM true false l1=(match eL l1 with
    | none=>none
    | some (n,l')=>if(false&&n==0)=true then none else some ((n:Int),l'))from rfl)
   go_wp2_with fail;refine HN.out.mono ?_;rintro e w1 ⟨aC,gh,ky⟩;have gU:=hz.aI gh aa;have DZ:=hh.aI gh aa;have cu:=hdd (hb.trans aC);have Cs:=hdd (hk.trans gh.old);have TP:=hdd gU;have HH1:=hdd DZ;obtain⟨z0,z1,z2,z3⟩:=gU.cells;have zC:=gU.frozen 0;have zD:=gU.frozen 1;have CV:=gU.frozen 2;have CW:=gU.frozen 3;cases hn:eL l1 with
   | none=>
    rw[hn]at ky TQ;obtain rfl:=ky;have N4:Hid (gC s l=none):=hdd (by rw[afW.out,TQ.out]);clear hn gh aC hz hh hb hk hr gU DZ;go_wp2_with fail;obtain⟨k0,k1,k2,k3⟩:=dz.ret TP.out (.int .i64 0) (.int .i64 0) (.slice none 0 0) (.int .u32 0);exact bodyPost_ret (v:= .tuple #[.agg #[.int .i64 0,.int .i64 0,.slice none 0 0,.int .u32 0],.int .i64 4]) va rfl (dH.err N4.out (yt.out w1 cu.out _ _ _ _) (KJ.out w1 Cs.out _ _ _ _))
   | some r1=>
    obtain⟨n,l'⟩:=r1;rw[hn]at ky TQ;obtain⟨rfl,iy⟩:=ky;obtain⟨TF,N7,_⟩:=gT hn;have sO:(n:Int)<9223372036854775808:=aa;have FZ:=hdd iy;have HF:Hid (qM true false l1=some ((n:Int),l')):=hdd (by rw[TQ.out];rfl);obtain⟨y0,y1,y2,y3⟩:=HH1.out.cells;have yf:=HH1.out.frozen 1;clear hn gh aC hz hh hb hk hr gU DZ TF N7 iy;go_wp2_with fail;go_meet;exact⟨(n:Int),l',HF.out,TP.out.other aa,HH1.out.yq _,Z8.out _ _ FZ.out 1 _,iE.out _ cu.out 1 _,Cs.out.set aa _⟩
 case rest=>
 obtain⟨q,l2,hq,hi2⟩:=hcut;have amC:Hid (gC s l=some (p,q,l2)):=hdd (by rw[afW.out,hq]);obtain⟨hz,hh,hr,hb,hk⟩:=hi2;have TP:=hdd hz;have cu:=hdd hb;have Cs:=hdd hk;have FZ:=hdd hr;obtain⟨y0,y1,y2,y3⟩:=hh.cells;obtain⟨z0,z1,z2,z3⟩:=hz.cells;have zC:=hz.frozen 0;have zD:=hz.frozen 1;have CV:=hz.frozen 2;have CW:=hz.frozen 3;clear hz hh hr hb hk hq HI1 rI;go_wp2_with fail;obtain⟨k0,k1,k2,k3⟩:=dz.ret TP.out (.int .i64 p) (.int .i64 q) (.slice none 0 0) (.int .u32 0);exact bodyPost_ret (v:= .tuple #[.agg #[.int .i64 p,.int .i64 q,.slice none 0 0,.int .u32 0],.int .i64 0]) va rfl (dH.yes amC.out (yt.out wc cu.out _ _ _ _) (KJ.out wc Cs.out _ _ _ _) (afV.out wc l2 FZ.out _ _ _ _))
theorem tN(A B:Option Addr)(l m:List UInt8)(c d:Nat)(w:World)(h1:Bytes w A l)(h2:Bytes w B m):Calls prog 36 #[.slice A l.length c,.slice B m.length d] w fun e w'=>e= .returned (.bool (l==m))∧w=w':=by refine(mo (.slice A l.length c) (.slice B m.length d) ⟨l.toArray⟩ ⟨m.toArray⟩ w (kF h1 c) (kF h2 d)).mono fun e w' h=> ?_;obtain⟨rfl,rfl⟩:=h;rw[ByteArray.toList_mk,ByteArray.toList_mk];exact⟨rfl,rfl⟩
def eM(l:List UInt8)(A:Option Addr)(c:Nat)(w:World)(e:Ending)(w':World):Prop:=
 Below w.heap.size w w'∧(((dM l).2=0∧e= .returned (.tuple #[.slice A (bZ l-4) c,.int .i64 0]))∨((dM l).2≠0∧e= .returned (.tuple #[.slice none 0 0,.int .i64 ((dM l).2:Nat)])))
theorem eM.err{c:Nat}(h:dM l=([],er))(h0:er≠0)(hb:Below w.heap.size w w'):eM l A c w (.returned (.tuple #[.slice none 0 0,.int .i64 (er:Nat)])) w':=by unfold eM;rw[h];exact⟨hb,.inr ⟨h0,rfl⟩⟩
theorem eM.yes{c:Nat}(h:dM l=(x,0))(hn:n=bZ l-4)(hb:Below w.heap.size w w'):eM l A c w (.returned (.tuple #[.slice A n c,.int .i64 0])) w':=by unfold eM;rw[h,hn];exact⟨hb,.inl ⟨rfl,rfl⟩⟩
theorem NA(A:Option Addr)(l:List UInt8)(c:Nat)(w:World)(hB:Bytes w A l)(hc:l.length≤c)(hm:c≤9223372036854775807)(hl:l.length≤1000000):
  Calls prog 107 #[.slice A l.length c] w (eM l A c w):=by
 have HB:=hdd hB
 have qN:dM l=if l.length=0 then([],2)else if l.getD 0 0=0 then([],4)else if l.length<bZ l then([],2)
  else if(lV (l.take (bZ l-4))==part l (bZ l-4) 4)=false then([],4)else(l.take (bZ l-4),0):=rfl
 by_cases h0:l.length=0;·have HF:=hdd (show dM l=([],2) by rw[qN,if_pos h0]);have h0i:(l.length:Int)=0:=aa;rw[h0];clear hB qN h0;go_enter func107,ntmps107;go_wp2_with fail;go_ret2;exact eM.err HF.out an (Below.refl _ _)
 rw[if_neg h0]at qN;obtain⟨b,off,rfl,fF,hcell⟩:=hB.addr aa;have k0:w.cell? ⟨b,off+0,none⟩=some (B8 (l[0]'aa)):=hcell 0 aa;have qQ:l[0]'aa=l.getD 0 0:=by simp[List.getD,show 0<l.length by omega]
 rw[qQ,Nat.add_zero]at k0;have wz:(0:Int)<(l.length:Int):=aa;have N7: ¬(l.length:Int)=0:=aa;clear hcell qQ hB h0;by_cases hx:l.getD 0 0=0;·have HF:=hdd (show dM l=([],4) by rw[qN,if_pos hx]);rw[hx]at k0;have k1:w.cell? ⟨b,off,none⟩=some (.int .u8 0):=k0;clear k0 qN hx;go_enter func107,ntmps107;go_wp2_with fail;go_ret2;exact eM.err HF.out an (Below.refl _ _)
 rw[if_neg hx]at qN;have hxt:0<(l.getD 0 0).toNat:=by
  rcases Nat.eq_zero_or_pos (l.getD 0 0).toNat with h | h;·exact absurd (UInt8.toNat_inj.1 l7) hx
  ·exact h
 have aqd:=(l.getD 0 0).toNat_lt;have dJ:bZ l=4*(l.getD 0 0).toNat+4:=rfl;have k1:w.cell? ⟨b,off,none⟩=some (.int .u8 ((l.getD 0 0).toNat:Nat)):=k0;clear k0 hx;generalize(l.getD 0 0).toNat=x at*;have vl:((x:Int)==0)=false:=av;have⟨Z,hZ⟩:=ex (bZ l);have HZ:=hdd hZ;rw[hZ]at qN dJ;have ZK:((x:Int)+1)*4=(Z:Int):=aa;have hZb:Z≤1024:=aa;have avr:8≤Z:=aa;by_cases aF:l.length<Z;·have HF:=hdd (show dM l=([],2) by rw[qN,if_pos aF]);have tr:(l.length:Int)<(Z:Int):=aa;clear qN aF hZ dJ hxt;go_enter func107,ntmps107;go_wp2_with fail;go_ret2;exact eM.err HF.out an (Below.refl _ _)
 rw[if_neg aF]at qN;have tr:(Z:Int)≤(l.length:Int):=aa;have avs:decide ((l.length:Int)<(Z:Int))=false:=av;have⟨p,hp⟩:=ex (Z-4);have HP:=hdd hp;rw[hp]at qN;have HW:Hid (IntKind.i64.wrap ((Z:Int)-4)=(p:Int)):=hdd (by rw[IntWalk.i64_in _ aa];omega);have HT4:Hid (Z-p=4):=hdd aa;have HC:=hdd (show(p:Int)≤(c:Int)∧(0:Int)≤(p:Int)∧(p:Int)≤(Z:Int)∧(Z:Int)≤(c:Int)∧ ¬c=p∧p≤Z∧(p:Int)≤(l.length:Int) by omega);have htl:(l.take p).length=p:=qa;have rI:=Fx l p 4 aa;have nu:=hdd (gN (l.take p));have HS:=hdd (show ∀w',Bytes w' (some ⟨b,off,none⟩) l→Calls prog 18 #[.int .i64 1,.slice (some ⟨b,off,none⟩) p c] w' (bS w' (lV (l.take p)))from fun w' h=>by
  have:=Fl (some ⟨b,off,none⟩) (l.take p) c w' (h.take p) (by rw[htl];omega) hm;rwa [htl]at this)
 have HE:=hdd (show ∀A2 c2 w',Bytes w' (some ⟨b,off,none⟩) l→Bytes w' A2 (lV (l.take p))→Calls prog 36 #[.slice A2 4 c2,.slice (some ⟨b,off+p,none⟩) 4 (c-p)] w' fun e Dk=>e= .returned (.bool (lV (l.take p)==part l p 4))∧w'=Dk from fun A2 c2 w' h h2=>by
  have h3:Bytes w' (some ⟨b,off+p,none⟩) (part l p 4):=(Bytes.drop p h).take 4;have:=tN _ _ (lV (l.take p)) (part l p 4) c2 (c-p) w' h2 h3;rwa [rI,gN]at this)
 have bE:Below w.heap.size w w.drew:=iS w;generalize hv:(lV (l.take p)==part l p 4)=v at*;have afX:=hdd qN;clear qN hv aF hZ dJ hxt hp htl rI;go_enter func107,ntmps107;go_wp2_with fail;refine wp_region_held_drew (S:=fun w'=>Below w.heap.size w w') ak bE (fun hS=> ?_);refine af 0 hS (h:=af 1 hS (h:=af 2 hS (h:= ?_)));rw[HW.out];refine bT 3 rfl (fun w hSw=>JI) hS (h:=af 4 hS (h:=af 5 hS (h:=af 6 hS (h:= ?_))));rw[HW.out];refine af 7 hS (h:=bT 8 rfl (fun w hSw=>JI) hS (h:= ?_));rw[HT4.out];refine af 9 hS (h:=af 10 hS (h:= ?_));refine wpAnyH_done ak ?_ _;go_wp2_with fail;refine(HS.out w.drew (HB.out.below bE)).mono ?_;rintro e w2 ⟨A2,c2,rfl,fS,eY,gX,aE⟩;have g2:Below w.heap.size w w2:=aO bE aE;have wZ:=hdd (HE.out A2 c2 w2 (HB.out.below g2) gX);rw[nu.out];clear gX aE fS;go_wp2_with fail;refine wZ.out.mono ?_;rintro e w3 ⟨rfl,rfl⟩;cases v with
 | false=>
  have HF:=hdd (show dM l=([],4) by rw[afX.out,if_pos rfl]);go_wp2_with fail;go_ret2;exact eM.err HF.out an g2
 | true=>
  have HF:=hdd (show dM l=(l.take p,0) by rw[afX.out,if_neg ae]);go_wp2_with fail;go_ret2;exact eM.yes HF.out (by rw[HZ.out,HP.out]) g2
theorem gm{ops:Array Oper}{o:Oper}{a:Act}{K:Act→World→Prop}{Q:Exit→Act→World→Prop}(qQ:o.guard=none)(x y:Operand)(ho:o.op= .makeSlice 22 x y)
  (base n:Nat) (w:World) (hx:a.eval x= .int .i64 (n:Nat)) (hy:a.eval y= .int .i64 (n:Nat)) (hn:n≤1000000) (aT:base≤w.heap.size)
  (h: ∀w',Own base w' (.slice (some ⟨w.heap.size,0,none⟩) n n) (List.replicate n 0)→w.grownBy w' none→K (a.put o.dst (.slice (some ⟨w.heap.size,0,none⟩) n n)) w'):if Region.wanted o (yielded ops a.tmps)=true then Oper.wp prog o a w K Q else K (a.put o.dst undef) w:=by
 rw[if_pos sU];obtain⟨i,hi,nE,gU,qR⟩:=info_parts pE;obtain⟨w',hr,h1,h2⟩:=run_make_full (P:=prog) w base 22 5 i (.int .u8 0) 1 underlying22 hi nE gU .i64 .i64 n mc gD aT;rw[PE]at h1;have j6:Own base w' (.slice (some ⟨w.heap.size,0,none⟩) n n) (List.replicate n 0):=by unfold Own;rw[List.length_replicate,List.map_replicate];exact h1
 unfold Oper.wp execOp;simp only[ho,hx,hy,Sem.run_bind,Sem.run_pure,Result.andThen_ok,hr];exact h w' j6 h2
def dq(w:World)(r:el×Nat×Nat)(e:Ending)(w':World):Prop:=
 ∃A c,e= .returned (.tuple #[ym r.1 A c,.int .i64 (r.2.1:Nat),.int .i64 (r.2.2:Nat)])∧dX w' A r.1.l∧r.1.l.length≤c∧c≤9223372036854775807∧Below w.heap.size w w'
theorem dq.err(h:gc l=(dg,0,er))(hb:Below w.heap.size w w'):dq w (gc l) (.returned (.tuple #[.agg #[.int .i64 0,.int .i64 0,.slice none 0 0,.int .u32 0],.int .i64 0,.int .i64 (er:Nat)])) w':=by unfold dq;rw[h];exact⟨none,0,rfl,.inl rfl,Nat.le_refl _,aa,hb⟩
theorem dq.yes{h:el}{c:Nat}(hg:gc l=(h,n,0))(hb:Below w.heap.size w w')(hf:dX w' A h.l)(hc:h.l.length≤c)(hm:c≤9223372036854775807):dq w (gc l) (.returned (.tuple #[ym h A c,.int .i64 (n:Nat),.int .i64 0])) w':=by unfold dq;rw[hg];exact⟨A,c,rfl,hf,hc,hm,hb⟩
theorem Jj(h:dM l=(x,0)):x=l.take (bZ l-4)∧bZ l≤l.length∧8≤bZ l∧bZ l≤1024:=by
 have qN:dM l=if l.length=0 then([],2)else if l.getD 0 0=0 then([],4)else if l.length<bZ l then([],2)
  else if(lV (l.take (bZ l-4))==part l (bZ l-4) 4)=false then([],4)else(l.take (bZ l-4),0):=rfl
 rw[qN]at h;by_cases h0:l.length=0;·rw[if_pos h0]at h;simp at h
 rw[if_neg h0]at h;by_cases h1:l.getD 0 0=0;·rw[if_pos h1]at h;simp at h
 rw[if_neg h1]at h;by_cases h2:l.length<bZ l;·rw[if_pos h2]at h;simp at h
 rw[if_neg h2]at h;have hx:=(l.getD 0 0).toNat_lt;have hp:0<(l.getD 0 0).toNat:=by
  rcases Nat.eq_zero_or_pos (l.getD 0 0).toNat with e | e;·exact absurd (UInt8.toNat_inj.1 (by simpa using e)) h1
  ·exact e
 split at h;·simp at h
 ·simp only[Prod.mk.injEq,and_true]at h;exact⟨h.symm,aa,by unfold bZ;omega,by unfold bZ;omega⟩
theorem NB(h:gC s l=some (p,q,l2)):l2.length≤l.length:=by
 rw[tM]at h;split at h;·cases h
 ·rename_i p1 l1 h1;split at h;·cases h
  ·rename_i q1 l3 h3;injection h with h;injection h with e1 h;injection h with e2 e3;subst e3;have a1:=(yr h1).1;have a2:=(yr h3).1;omega
theorem Fz: ∀(many k i:Nat) (l:List UInt8) (acc:List bA),(cm many k i l acc).2.1.length≤l.length
 | _,0,_,_,_=>Nat.le_refl _
 | many,k+1,i,l,acc=>by
  rw[mR];split;·simp
  ·split;·simp
   ·exact Nat.le_trans (Fz many k (i+1) _ _) (KH l).2
theorem yu: ∀(many k i:Nat) (l:List UInt8) (acc:List bA),(cm many k i l acc).2.2=0→(cm many k i l acc).1.length=acc.length+k
 | _,0,_,_,_,_=>rfl
 | many,k+1,i,l,acc,h=>by
  rw[mR]at h ⊢;split at h;·rename_i h1;exact absurd h h1
  ·rename_i h1;rw[if_neg h1];split at h;·cases h
   ·rename_i h2;rw[if_neg h2];have:=yu many k (i+1) _ _ h;rw[this,List.length_append];simp;omega
theorem kW{base b:Nat}(h:Own base w (.slice (some ⟨b,0,none⟩) n n) (List.replicate n 0)):Bytes w (some ⟨b,0,none⟩) (List.replicate n 0):=by obtain⟨A8,c8,e8,_,_,qW⟩:=h.read;injection e8 with e1 e2 e3;rw[e1];exact qW
theorem S5(l:List UInt8):(l==List.replicate l.length 0)=l.all (· ==0):=by
 induction l with
 | nil=>rfl
 | cons x l ih=>simp only[List.length_cons,List.replicate_succ,List.all_cons];rw[←ih];rfl
theorem dX.set{l:List bA}(h:dX w A l)(hA: ∀a,A=some a→a.block≠g)(u:Value):dX (w.setCell ⟨g,i,none⟩ u) A l:=by
 rcases h with h | ⟨b,off,rfl,hb,bx⟩
 ·exact .inl h
 ·have dr:b≠g:=hA ⟨b,off,none⟩ rfl;have nh:(w.setCell ⟨g,i,none⟩ u).heap[b]? =w.heap[b]? :=ag _ _ _ _ (fun e=>dr e);refine .inr ⟨b,off,rfl,by simp;exact hb,fun k hk=>⟨?_,?_,(bx k hk).ok⟩⟩;·exact(World.cell?_of_block (a:=⟨b,off+k*2,none⟩) nh).trans (bx k hk).c0
  ·exact(World.cell?_of_block (a:=⟨b,off+k*2+1,none⟩) nh).trans (bx k hk).c1
theorem NC(A:Option Addr)(l:List UInt8)(c:Nat)(w:World)(hB:Bytes w A l)(hc:l.length≤c)(hm:c≤9223372036854775807)(hl:l.length≤1000000):
  Calls prog 65 #[.slice A l.length c] w (dq w (gc l)):=by
 have⟨W0,tS⟩:=ex (w.alloc (.cells #[.int .i64 0,.int .i64 0,.slice none 0 0,.int .u32 0] 51));have eH:Below w.heap.size w W0:=by rw[←tS];exact ap
 have wP:dz w.heap.size W0 (.int .i64 0) (.int .i64 0) (.slice none 0 0) (.int .u32 0):=by rw[←tS];exact heap_alloc_last _ _
 have nE:W0.heap.size=w.heap.size+1:=by rw[←tS];simp
 have zi:=hdd tS;have HSL:=hdd (NA A l c W0 (hB.below eH) hc hm hl)
 have yt:=hdd (fun(wx:World) (h:Below w.heap.size w wx) (a b c d:Value)=>(show Below w.heap.size w ((((wx.setCell ⟨w.heap.size,0,none⟩ a).setCell ⟨w.heap.size,1,none⟩ b).setCell ⟨w.heap.size,2,none⟩ c).setCell ⟨w.heap.size,3,none⟩ d)from
  Below.setCell (p:=⟨w.heap.size,3,none⟩) (Below.setCell (p:=⟨w.heap.size,2,none⟩) (Below.setCell (p:=⟨w.heap.size,1,none⟩) (Below.setCell (p:=⟨w.heap.size,0,none⟩) h (Nat.le_refl _) a) (Nat.le_refl _) b) (Nat.le_refl _) c) (Nat.le_refl _) d))
 have HGD:Hid (gc l=if(dM l).2≠0 then(dg,0,(dM l).2)else if(l.getD 1 0).toNat/4%16≠0 then(dg,0,5)
  else if(eG (l.getD 1 0).toNat ((dM l).1.drop 2)).2≠0 then(dg,0,(eG (l.getD 1 0).toNat ((dM l).1.drop 2)).2)
  else((eG (l.getD 1 0).toNat ((dM l).1.drop 2)).1,bZ l,0)):=hdd rfl
 have HB:=hdd hB;clear tS hB;go_enter func65,ntmps65;go_upto_region 1 with fail;rw[zi.out];clear zi;go_wp2_with fail;refine HSL.out.mono ?_;rintro e w1 ⟨aC,kG⟩;have S6:=hdd (aO eH aC);have jZ:dz w.heap.size w1 (.int .i64 0) (.int .i64 0) (.slice none 0 0) (.int .u32 0):=(aC.block _ aa).trans wP;have tx:w.heap.size<w1.heap.size:=ar aC.size;have FZ:=hdd jZ;rcases kG with⟨hse,rfl⟩ | ⟨hse,rfl⟩
 case inr=>have HF:=hdd (show gc l=(dg,0,(dM l).2) by rw[HGD.out,if_pos hse]);obtain⟨z0,z1,z2,z3⟩:=jZ.cells;have zC:=jZ.frozen 0;have zD:=jZ.frozen 1;have CV:=jZ.frozen 2;have CW:=jZ.frozen 3;have Oo:(0:Int)<((dM l).2:Int):=aa;generalize(dM l).2=er at*;clear hse jZ aC wP HGD;go_wp2_with fail;obtain⟨k0,k1,k2,k3⟩:=dz.ret FZ.out (.int .i64 0) (.int .i64 0) (.slice none 0 0) (.int .u32 0);exact bodyPost_ret (v:= .tuple #[.agg #[.int .i64 0,.int .i64 0,.slice none 0 0,.int .u32 0],.int .i64 0,.int .i64 (er:Nat)]) oK rfl (dq.err HF.out (yt.out w1 S6.out _ _ _ _))
 obtain⟨x,e0⟩: ∃x,dM l=(x,0):=⟨(dM l).1,Prod.ext rfl hse⟩
 obtain⟨hx,hZl,hZ8,hZm⟩:=Jj e0;have⟨p,hp⟩:=ex (bZ l-4);rw[hp]at hx ⊢;subst hx;have afY:=hdd (show bZ l=p+4 by omega)
 have aaw:Hid (gc l=if(l.getD 1 0).toNat/4%16≠0 then(dg,0,5)
  else if(eG (l.getD 1 0).toNat ((l.take p).drop 2)).2≠0 then(dg,0,(eG (l.getD 1 0).toNat ((l.take p).drop 2)).2)
  else((eG (l.getD 1 0).toNat ((l.take p).drop 2)).1,p+4,0)):=hdd (by rw[HGD.out,e0,if_neg (fun h=>h rfl),afY.out])
 obtain⟨b,off,rfl,fF,hcell⟩:=HB.out.addr aa;have gh:w.cell? ⟨b,off+1,none⟩=some (.int .u8 ((l.getD 1 0).toNat:Nat)):=by have h:=hcell 1 aa;rw[h];simp[List.getD,show 1<l.length by omega]
 have Cs:=hdd (fun(wx:World) (h:Below w.heap.size w wx)=>(h.cell (p:=⟨b,off+1,none⟩) fF).trans gh);have hj1:=Cs.out w1 S6.out;have KK:=(l.getD 1 0).toNat_lt;obtain⟨_,_,ha3,ND⟩:=KI ⟨(l.getD 1 0).toNat,KK⟩;simp only at ha3 ND;have qT:((l.take p).drop 2).length=p-2:=by rw[List.length_drop,List.length_take];omega
 have gX:=hdd (fun(wx:World) (h:Below w.heap.size w wx)=>Bytes.drop 2 ((HB.out.below h).take p));generalize(l.getD 1 0).toNat=s at*;generalize(l.take p).drop 2=l2 at*;have rz:(4:Int)≤(p:Int):=aa;have hpc:(p:Int)≤(c:Int):=aa;have fS: ¬c=2:=aa;have⟨p2,oO⟩:=ex (p-2);have V':=hdd oO;have avv:p2≤1024:=aa;rw[oO]at qT;obtain⟨v60,amF⟩: ∃v,bits .and .u8 (s:Int) 60=v:=⟨_,rfl⟩
 rw[amF]at ND;obtain⟨z0,z1,z2,z3⟩:=jZ.cells;have zC:=jZ.frozen 0;have zD:=jZ.frozen 1;have CV:=jZ.frozen 2;have CW:=jZ.frozen 3;clear hcell gh jZ aC wP HGD e0 hse hp;by_cases h60:s/4%16=0;case neg=>
  have HF:=hdd (show gc l=(dg,0,5) by rw[aaw.out,if_pos h60]);have hvb:(v60==0)=false:=by
   cases h:v60==0 with
   | false=>rfl
   | true=>exact absurd (ND.1 l7) h60
  clear ND h60;go_wp2_with fail;obtain⟨k0,k1,k2,k3⟩:=dz.ret FZ.out (.int .i64 0) (.int .i64 0) (.slice none 0 0) (.int .u32 0);exact bodyPost_ret (v:= .tuple #[.agg #[.int .i64 0,.int .i64 0,.slice none 0 0,.int .u32 0],.int .i64 0,.int .i64 5]) oK rfl (dq.err HF.out (yt.out w1 S6.out _ _ _ _))
 have WB:Hid (gc l=if(eG s l2).2≠0 then(dg,0,(eG s l2).2)else((eG s l2).1,p+4,0)):=hdd (by rw[aaw.out,if_neg (fun h=>h h60)]);have uJ:v60=0:=ND.2 h60;subst uJ;clear ND h60 aaw;have jo:l6 w1.heap.size (w1.alloc (.cells #[.slice (some ⟨b,off+2,none⟩) p2 (c-2)] 22)) (.slice (some ⟨b,off+2,none⟩) l2.length (c-2)):=by rw[qT];exact heap_alloc_last _ _
 have xZ:Below w1.heap.size w1 (w1.alloc (.cells #[.slice (some ⟨b,off+2,none⟩) p2 (c-2)] 22)):=ap;have Jg:Below w.heap.size w (w1.alloc (.cells #[.slice (some ⟨b,off+2,none⟩) p2 (c-2)] 22)):=aO S6.out xZ;have iA:Rest w1.heap.size (w1.alloc (.cells #[.slice (some ⟨b,off+2,none⟩) p2 (c-2)] 22)) l2:=⟨_,_,jo,gX.out _ Jg,fun a e=>by injection e with e;rw[←e];show b<w1.heap.size;have:=S6.out.size;omega,by rw[qT];omega,aa⟩
 have ju:=hdd (Ji w1.heap.size s l2 _ iA (by rw[qT];omega) KK);have hj2:=Cs.out _ Jg;have amG:=hdd Jg;have ZW:=hdd xZ;have amH:=hdd iA.lt;have afZ:Hid (dz w.heap.size (w1.alloc (.cells #[.slice (some ⟨b,off+2,none⟩) p2 (c-2)] 22)) (.int .i64 0) (.int .i64 0) (.slice none 0 0) (.int .u32 0)):=hdd ((xZ.block _ tx).trans FZ.out);have Jk:=hdd (show eG s l2=match gC s l2 with
  | none=>(dg,4)
  | some (p,q,l2)=>if(cm (s%4) (s%4+1) 0 l2 []).2.2≠0 then(dg,(cm (s%4) (s%4+1) 0 l2 []).2.2)
   else if(cm (s%4) (s%4+1) 0 l2 []).2.1.all (· ==0)=false then(dg,5)
   else(⟨p,q,(cm (s%4) (s%4+1) 0 l2 []).1.take (s%4),((cm (s%4) (s%4+1) 0 l2 []).1.getD (s%4) ⟨0,0⟩).n⟩,0)from rfl)
 clear jo xZ Jg iA z0 z1 z2 z3 zC zD CV CW;go_upto_region 9 with fail;generalize w1.alloc (.cells #[.slice (some ⟨b,off+2,none⟩) p2 (c-2)] 22)=w2 at*;go_wp2_with fail;refine ju.out.mono ?_;rintro e w3 ⟨aW,qU,Ss⟩;have af0:=hdd (amG.out.trans (aW.mono aa));have yC:dz w.heap.size w3 (.int .i64 0) (.int .i64 0) (.slice none 0 0) (.int .u32 0):=(aW.block _ tx).trans afZ.out;have U8:w1.heap.size<w3.heap.size:=by have h1:=qU.1;have h2:=afZ.out;have h3:=ZW.out.size;have h4:=amH.out;omega
 cases TD:gC s l2 with
 | none=>
  rw[TD]at Ss Jk;obtain rfl:=Ss;have HF:=hdd (show gc l=(dg,0,4) by rw[WB.out,Jk.out];rfl);have lj:Below w3.heap.size w3 (w3.alloc (.cells #[.int .i64 0,.int .i64 0,.slice none 0 0,.int .u32 0] 51)):=ap;have Vg:=hdd (show dz w.heap.size (w3.alloc (.cells #[.int .i64 0,.int .i64 0,.slice none 0 0,.int .u32 0] 51)) (.int .i64 0) (.int .i64 0) (.slice none 0 0) (.int .u32 0)from(lj.block _ aa).trans yC);have WD:=hdd (af0.out.trans (lj.mono aa));obtain⟨z0,z1,z2,z3⟩:=Vg.out.cells;have zC:=Vg.out.frozen 0;have zD:=Vg.out.frozen 1;have CV:=Vg.out.frozen 2;have CW:=Vg.out.frozen 3;clear TD lj aW qU yC;go_wp2_with fail;obtain⟨k0,k1,k2,k3⟩:=dz.ret Vg.out (.int .i64 0) (.int .i64 0) (.slice none 0 0) (.int .u32 0);exact bodyPost_ret (v:= .tuple #[.agg #[.int .i64 0,.int .i64 0,.slice none 0 0,.int .u32 0],.int .i64 0,.int .i64 4]) oK rfl (dq.err HF.out (yt.out _ WD.out _ _ _ _))
 | some r3=>
  obtain⟨p',q',l3⟩:=r3;rw[TD]at Ss Jk;obtain⟨rfl,GG⟩:=Ss;have rR:=NB TD;have⟨W4,pz⟩:=ex (w3.alloc (.cells #[.int .i64 p',.int .i64 q',.slice none 0 0,.int .u32 0] 51));have O7:=hdd pz;have lj:Below w3.heap.size w3 W4:=by rw[←pz];exact ap
  have hh4:dz w3.heap.size W4 (.int .i64 p') (.int .i64 q') (.slice none 0 0) (.int .u32 0):=by rw[←pz];exact heap_alloc_last _ _
  have hz4:W4.heap.size=w3.heap.size+1:=by rw[←pz];simp
  have WD:=hdd (af0.out.trans (lj.mono aa));have Zs:dz w.heap.size W4 (.int .i64 0) (.int .i64 0) (.slice none 0 0) (.int .u32 0):=(lj.block _ aa).trans yC;have hR4:Rest w1.heap.size W4 l3:=GG.aI (lj.mono aa);have jt:s%4≤3:=aa;have HFL:=hdd (Nz w1.heap.size (s%4) l3 W4 hR4 aa jt);have hj4:=Cs.out W4 WD.out;have yD:=Fz (s%4) (s%4+1) 0 l3 [];clear TD pz lj aW qU yC GG hR4;go_upto_region 12 with fail;rw[O7.out];clear O7;have⟨s4,wM⟩:=ex (s%4);rw[wM]at ha3 HFL Jk yD jt;clear wM;go_wp2_with fail;refine HFL.out.mono ?_;rintro e w5 ⟨A5,c5,d5,rfl,fj,hk5,her,WE⟩;have UM:dz w3.heap.size w5 (.int .i64 p') (.int .i64 q') (.slice none 0 0) (.int .u32 0):=(hk5.2 _ aa aa).trans hh4;have J5:dz w.heap.size w5 (.int .i64 0) (.int .i64 0) (.slice none 0 0) (.int .u32 0):=(fj.block _ tx).trans Zs;have af1:=hdd (WD.out.trans (fj.mono aa));have aax:=yu s4 (s4+1) 0 l3 [];have⟨FR,hFR⟩:=ex (cm s4 (s4+1) 0 l3 []);rw[hFR]at her WE Jk yD aax ⊢;clear hFR;obtain⟨acc,l4,er⟩:=FR;obtain⟨y0,y1,y2,y3⟩:=UM.cells;have yf2:=UM.frozen 2;have yf3:=UM.frozen 3;have dr:w3.heap.size≠w.heap.size:=aa;by_cases he:er=0;case neg=>
   obtain⟨rfl,rfl,rfl⟩:=her he;have HF:=hdd (show gc l=(dg,0,er) by
    have e:eG s l2=(dg,er):=(by rw[Jk.out];simp only[];rw[if_pos he]);rw[WB.out,e,if_pos he])
   have HV:Hid ((if er=0 then s4 else 0)=0):=hdd (if_neg he);simp only[];rw[HV.out];have zO:Hid (dz w.heap.size ((w5.setCell ⟨w3.heap.size,2,none⟩ (.slice none 0 0)).setCell ⟨w3.heap.size,3,none⟩ (.int .u32 ((0:Nat):Int))) (.int .i64 0) (.int .i64 0) (.slice none 0 0) (.int .u32 0)):=hdd ((J5.other dr).other dr);have amI:Hid (Below w.heap.size w ((w5.setCell ⟨w3.heap.size,2,none⟩ (.slice none 0 0)).setCell ⟨w3.heap.size,3,none⟩ (.int .u32 ((0:Nat):Int)))):=hdd (Below.setCell (p:=⟨w3.heap.size,3,none⟩) (Below.setCell (p:=⟨w3.heap.size,2,none⟩) af1.out vb _) vb _);have Oo:((er:Int)==0)=false:=av;clear he her WE fj hk5 J5 UM;go_upto_region 13 with fail;generalize(w5.setCell ⟨w3.heap.size,2,none⟩ (.slice none 0 0)).setCell ⟨w3.heap.size,3,none⟩ (.int .u32 ((0:Nat):Int))=w6 at*;obtain⟨z0,z1,z2,z3⟩:=zO.out.cells;have zC:=zO.out.frozen 0;have zD:=zO.out.frozen 1;have CV:=zO.out.frozen 2;have CW:=zO.out.frozen 3;clear y0 y1 y2 y3 yf2 yf3;go_wp2_with fail;obtain⟨k0,k1,k2,k3⟩:=dz.ret zO.out (.int .i64 0) (.int .i64 0) (.slice none 0 0) (.int .u32 0);exact bodyPost_ret (v:= .tuple #[.agg #[.int .i64 0,.int .i64 0,.slice none 0 0,.int .u32 0],.int .i64 0,.int .i64 (er:Nat)]) oK rfl (dq.err HF.out (yt.out w6 amI.out _ _ _ _))
  case pos=>
   subst he;obtain⟨Ko,hF5,hd5,YI,amK,hA5⟩:=WE rfl;simp only at Ko hF5 hd5;have HD5:=hdd hd5;clear hd5;have ee:=hdd (show(acc.take s4).length=s4 by have h:acc.length=0+(s4+1):=aax rfl;rw[List.length_take];omega);clear aax;have S7:Below w.heap.size w ((w5.setCell ⟨w3.heap.size,2,none⟩ (.slice A5 s4 c5)).setCell ⟨w3.heap.size,3,none⟩ (.int .u32 (d5:Nat))):=Below.setCell (p:=⟨w3.heap.size,3,none⟩) (Below.setCell (p:=⟨w3.heap.size,2,none⟩) af1.out vb _) vb _;have hR6:Rest w1.heap.size ((w5.setCell ⟨w3.heap.size,2,none⟩ (.slice A5 s4 c5)).setCell ⟨w3.heap.size,3,none⟩ (.int .u32 (d5:Nat))) l4:=Ko.aI (Below.setCell (p:=⟨w3.heap.size,3,none⟩) (Below.setCell (p:=⟨w3.heap.size,2,none⟩) (Below.refl _ _) (by show w1.heap.size+1≤w3.heap.size;omega) _) (by show w1.heap.size+1≤w3.heap.size;omega) _);have zO:dz w.heap.size ((w5.setCell ⟨w3.heap.size,2,none⟩ (.slice A5 s4 c5)).setCell ⟨w3.heap.size,3,none⟩ (.int .u32 (d5:Nat))) (.int .i64 0) (.int .i64 0) (.slice none 0 0) (.int .u32 0):=(J5.other dr).other dr;have hh6:dz w3.heap.size ((w5.setCell ⟨w3.heap.size,2,none⟩ (.slice A5 s4 c5)).setCell ⟨w3.heap.size,3,none⟩ (.int .u32 (d5:Nat))) (.int .i64 p') (.int .i64 q') (.slice A5 s4 c5) (.int .u32 (d5:Nat)):=(UM.Ny _).afU _;have hF6:dX ((w5.setCell ⟨w3.heap.size,2,none⟩ (.slice A5 s4 c5)).setCell ⟨w3.heap.size,3,none⟩ (.int .u32 (d5:Nat))) A5 (acc.take s4):=(hF5.set (fun a e=>ar (hA5 a e)) _).set (fun a e=>ar (hA5 a e)) _;simp only[];have Mh:=hdd (And.intro S7 (And.intro hR6 (And.intro zO (And.intro hh6 hF6))));clear S7 hR6 zO hh6 hF6 her WE fj hk5 J5 UM Ko hF5;go_upto_region 15 with fail;generalize(w5.setCell ⟨w3.heap.size,2,none⟩ (.slice A5 s4 c5)).setCell ⟨w3.heap.size,3,none⟩ (.int .u32 (d5:Nat))=w6 at*;obtain⟨S7,⟨A6,c6,No,Mb,hA6,hc6,YW⟩,zO,hh6,hF6⟩:=Mh.out;have af4:l4.length≤1000000:=(by have h:l4.length≤l3.length:=yD;omega);have Tx:=hdd af4;have avx:=No.lt;have HXC:=hdd (fun(wx:World) (h:Below w6.heap.size w6 wx)=>(No.below h).cell);have HE:=hdd (show ∀A2 w',Below w6.heap.size w6 w'→Bytes w' A2 (List.replicate l4.length 0)→Calls prog 36 #[.slice A6 l4.length c6,.slice A2 l4.length l4.length] w' fun e Dk=>e= .returned (.bool (l4.all (· ==0)))∧w'=Dk from fun A2 w' h h2=>by
    have:=tN A6 A2 l4 (List.replicate l4.length 0) c6 l4.length w' (Mb.below h) h2;rw[List.length_replicate,S5]at this;exact this)
   have af5:=hdd (show eG s l2=if l4.all (· ==0)=false then(dg,5)else(⟨p',q',acc.take s4,(acc.getD s4 ⟨0,0⟩).n⟩,0) by rw[Jk.out];rfl);generalize l4.all (· ==0)=v at*;have bE:Below w6.heap.size w6 w6.drew:=iS w6;have HH6:=hdd hh6;have af6:=hdd zO;have amM:=hdd hF6;clear y0 y1 y2 y3 yf2 yf3 No Mb hA6 yD af4 hh6 zO hF6;refine wp_region_held_drew (S:=fun w'=>Below w6.heap.size w6 w') ak bE (fun hS=> ?_);refine bq 0 HXC.out hS (h:=bq 1 HXC.out hS (h:=af 2 hS (h:= ?_)));refine aG 3 (fun K hK=> ?_);refine gm rfl (.tmp 62) (.tmp 62) rfl w6.heap.size l4.length w6.drew rfl rfl Tx.out (Nat.le_refl _) ?_;intro w7 tk Hz;have g7:Below w6.heap.size w6 w7:=bE.trans (am (Below.refl _ _) Hz (Nat.le_refl _) (fun g e=>jX));have wZ:=hdd (HE.out (some ⟨w6.drew.heap.size,0,none⟩) w7 g7 (kW tk));clear tk Hz;refine dR ?_;refine hK.out _ _ g7 (fun _=> ?_);clear hK K;refine aG 4 (fun K hK=> ?_);go_simp;refine wZ.out.mono ?_;rintro e w8 ⟨rfl,rfl⟩;go_wp2_with fail;refine hK.out _ _ g7 (fun _=> ?_);clear hK K;refine aG 5 (fun K hK=> ?_);go_simp;refine hK.out _ _ g7 (fun _=> ?_);clear hK K;refine wpAnyH_done ak ?_ _;have af7:=hdd (aO S7 g7);have Yu:dz w.heap.size w7 (.int .i64 0) (.int .i64 0) (.slice none 0 0) (.int .u32 0):=(g7.block _ (by have:=af6.out;have h9:=S7.size;have h8:=(cr this);exact h8)).trans af6.out;have HR7:=hdd Yu;obtain⟨z0,z1,z2,z3⟩:=Yu.cells;have zC:=Yu.frozen 0;have zD:=Yu.frozen 1;have CV:=Yu.frozen 2;have CW:=Yu.frozen 3;cases v with
   | false=>
    have HF:=hdd (show gc l=(dg,0,5) by
     have e:eG s l2=(dg,5):=(by rw[af5.out,if_pos rfl]);rw[WB.out,e];rfl)
    clear Yu;go_wp2_with fail;obtain⟨k0,k1,k2,k3⟩:=dz.ret HR7.out (.int .i64 0) (.int .i64 0) (.slice none 0 0) (.int .u32 0);exact bodyPost_ret (v:= .tuple #[.agg #[.int .i64 0,.int .i64 0,.slice none 0 0,.int .u32 0],.int .i64 0,.int .i64 5]) oK rfl (dq.err HF.out (yt.out w7 af7.out _ _ _ _))
   | true=>
    have HF:=hdd (show gc l=(⟨p',q',acc.take s4,d5⟩,p+4,0) by
     have e:eG s l2=(⟨p',q',acc.take s4,(acc.getD s4 ⟨0,0⟩).n⟩,0):=(by rw[af5.out,if_neg ae]);rw[WB.out,e,HD5.out];rfl)
    have hh7:dz w3.heap.size w7 (.int .i64 p') (.int .i64 q') (.slice A5 s4 c5) (.int .u32 (d5:Nat)):=(g7.block _ (cr HH6.out)).trans HH6.out;obtain⟨y0,y1,y2,y3⟩:=hh7.cells;clear Yu hh7;go_wp2_with fail;obtain⟨k0,k1,k2,k3⟩:=dz.ret HR7.out (.int .i64 p') (.int .i64 q') (.slice A5 s4 c5) (.int .u32 (d5:Nat));have WF: ∀a,A5=some a→a.block≠w.heap.size:=fun a e=>ar (hA5 a e);have gy:=dq.yes (w:=w) (l:=l) (A:=A5) (c:=c5) HF.out (yt.out w7 af7.out (.int .i64 p') (.int .i64 q') (.slice A5 s4 c5) (.int .u32 (d5:Nat))) (((((amM.out.below g7).set WF _).set WF _).set WF _).set WF _) (by show(acc.take s4).length≤c5;rw[ee.out];exact YI) amK;have af8:dq w (gc l) (.returned (.tuple #[.agg #[.int .i64 p',.int .i64 q',.slice A5 s4 c5,.int .u32 (d5:Nat)],.int .i64 ((p:Int)+4),.int .i64 0])) ((((w7.setCell ⟨w.heap.size,0,none⟩ (.int .i64 p')).setCell ⟨w.heap.size,1,none⟩ (.int .i64 q')).setCell ⟨w.heap.size,2,none⟩ (.slice A5 s4 c5)).setCell ⟨w.heap.size,3,none⟩ (.int .u32 (d5:Nat))):=(by simp only[ym,ee.out]at gy;exact gy);exact bodyPost_ret (v:= .tuple #[.agg #[.int .i64 p',.int .i64 q',.slice A5 s4 c5,.int .u32 (d5:Nat)],.int .i64 ((p:Int)+4),.int .i64 0]) oK rfl af8
theorem NE(s:Nat)(l:List UInt8):eG s l=match gC s l with
 | none=>(dg,4)
 | some (p,q,l2)=>if(cm (s%4) (s%4+1) 0 l2 []).2.2≠0 then(dg,(cm (s%4) (s%4+1) 0 l2 []).2.2)
  else if(cm (s%4) (s%4+1) 0 l2 []).2.1.all (· ==0)=false then(dg,5)
  else(⟨p,q,(cm (s%4) (s%4+1) 0 l2 []).1.take (s%4),((cm (s%4) (s%4+1) 0 l2 []).1.getD (s%4) ⟨0,0⟩).n⟩,0):=rfl
theorem CJ(n:Nat)(more:List UInt8)(h:n<9223372036854775808):Vl.get (Vl.put 9 n++more)=(n,(Vl.put 9 n).length,0):=by
 have h9:n<128^9:=by rw[show(128:Nat)^9=9223372036854775808 by decide];exact h
 have e:Vl.put 9 n=Vl.put 8 n:=by
  have key: ∀(f m:Nat),m<128^(f+1)→Vl.put (f+1) m=Vl.put f m:=by
   intro f;induction f with
   | zero=>intro m hm;rw[Vl.gO (by simpa using hm),Vl.gO (by simpa using hm)]
   | succ f ih=>
    intro m hm;by_cases hs:m<128;·rw[Vl.gO hs,Vl.gO hs]
    ·rw[Vl.pm hs,Vl.pm hs,ih (m/128) (by rw[Nat.div_lt_iff_lt_mul aa];rw[Nat.pow_succ]at hm;exact hm)]
  exact key 8 n h9
 have:=Vl.SU (Vl.put 9 n++more) more 8 n 0 9 (by rw[e];rfl) h9 aa aa;unfold Vl.get;rw[this,e];simp[Vl.num]
theorem FA{x:Int}(z:Bool)(more:List UInt8)(we:x= -1∨0≤x)(Ei:x≤9223372036854775807)(hz:z=true→x≠0):qM (decide (x≠ -1)) z (em x++more)=some (x,more):=by
 unfold qM em;by_cases h:x= -1;·subst h;simp
 ·have h0:0≤x:=by omega
  rw[if_pos dS,if_neg h];have hn:eL (Vl.put 9 x.toNat++more)=some (x.toNat,more):=by unfold eL;rw[CJ x.toNat more aa];rw[if_pos rfl,List.drop_left]
  rw[hn];have hx:((x.toNat:Nat):Int)=x:=aa;have:(z&&x.toNat==0)=false:=by
   cases z with
   | false=>rfl
   | true=>have:=hz rfl;simp;omega
  simp only[this,Bool.false_eq_true,if_false,hx]
theorem WG(f:bA)(h:sH f)(more:List UInt8):gY (lX f++more)=(f,more,0):=by
 obtain⟨aR,h0,ie,hb,hl⟩:=h;have n1:eL (lX f++more)=some (f.id.toNat,Vl.put 9 (dk f).length++(dk f++more)):=by unfold eL lX;rw[List.append_assoc,List.append_assoc,CJ _ _ aa,if_pos rfl,List.drop_left]
 have n2:eL (Vl.put 9 (dk f).length++(dk f++more))=some ((dk f).length,dk f++more):=by unfold eL;rw[CJ _ _ aa,if_pos rfl,List.drop_left]
 have hid:((f.id.toNat:Nat):Int)=f.id:=aa;unfold gY;simp only[n1,n2];rw[if_neg ae,if_neg aa,List.take_left,hid,I7 f aR _ hb];simp only[List.drop_left]
theorem FB(many:Nat): ∀(fs:List bA) (i:Nat) (acc:List bA) (more:List UInt8),(∀f∈fs,sH f)→(∀j (h:j<fs.length),(fs[j].id==33)=(i+j==many))→cm many fs.length i (dc fs++more) acc=(acc++fs,more,0)
 | [],i,acc,more,_,_=>by simp[cm,dc]
 | f::fs,i,acc,more,hg,hj=>by
  have e0:dc (f::fs)++more=lX f++(dc fs++more):=by simp[dc]
  have h1:=WG f (hg f ae) (dc fs++more);have h0:=hj 0 ae;simp only[List.getElem_cons_zero,Nat.add_zero]at h0;rw[List.length_cons,mR,e0,h1];rw[if_neg ae,if_neg (by rw[h0];simp)];rw[FB many fs (i+1) (acc++[f]) more (fun g hm=>hg g (by simp[hm])) (fun j h=>by
   have:=hj (j+1) l7;simp only[List.getElem_cons_succ]at this;rw[this];congr 1;omega)]
  simp
theorem NF(n:Nat):(List.replicate n (0:UInt8)).all (· ==0)=true:=by rw[List.all_eq_true];intro x hx;rw[List.eq_of_mem_replicate hx];rfl
theorem NG(h:el)(aR:h.ok)(hf: ∀f∈h.l,f.ok)(hv:gB h=true)(n:Nat):eG (dp h) (fA h++List.replicate n 0)=(h,0):=by
 obtain⟨hg,h3,hp,hq⟩:=ox h aR hf hv;obtain⟨o1,o2,o3,o4,o5⟩:=aR;have amN: ∀f∈h.l,f.id≠33:=fun f hm e=>by have Pw:=hv;simp only[gB,jg,Bool.and_eq_true,List.all_eq_true]at Pw;have h5:=Pw.1.2.2 f hm;obtain⟨id,m⟩:=f;obtain rfl:id=33:=e;rw[Sw]at h5;cases h5
 have s1:(dp h/64%2==1)=decide (h.p≠ -1):=by unfold dp;rw[Bool.eq_iff_iff];by_cases h1:h.p= -1<;>by_cases h2:h.q= -1<;>simp[h1,h2]<;>omega
 have s2:(dp h/128==1)=decide (h.q≠ -1):=by unfold dp;rw[Bool.eq_iff_iff];by_cases h1:h.p= -1<;>by_cases h2:h.q= -1<;>simp[h1,h2]<;>omega
 have s3:dp h%4=h.l.length:=by unfold dp;by_cases h1:h.p= -1<;>by_cases h2:h.q= -1<;>simp[h1,h2]<;>omega
 have hs:gC (dp h) (fA h++List.replicate n 0)=some (h.p,h.q,dc (h.l++[bm h.d])++List.replicate n 0):=by rw[tM,s1,s2];unfold fA;rw[List.append_assoc,List.append_assoc,FA true _ aa o2 (fun _=>aa)];simp only;rw[FA false _ aa o4 ae]
 have Qk:=FB h.l.length (h.l++[bm h.d]) 0 [] (List.replicate n 0) hg (fun j hj=>by
  rw[List.length_append,List.length_singleton]at hj;by_cases tT:j<h.l.length;·have dr:=amN _ (List.getElem_mem tT);rw[List.getElem_append_left tT];have e1:((h.l[j]).id==33)=false:=(by simp[dr]);have e2:(0+j==h.l.length)=false:=av;rw[e1,e2]
  ·obtain rfl:j=h.l.length:=(by omega);rw[List.getElem_append_right (Nat.le_refl _)];simp[bm])
 rw[List.length_append,List.length_singleton,List.nil_append]at Qk;rw[NE,hs,s3];simp only[Qk];rw[if_neg ae,if_neg (by rw[NF];simp)];have e1:(h.l++[bm h.d]).take h.l.length=h.l:=by rw[List.take_left]
 have e2:((h.l++[bm h.d]).getD h.l.length ⟨0,0⟩).n=h.d:=by simp[List.getD,bm]
 rw[e1,e2]
theorem sK(h:el)(aR:h.ok)(hf: ∀f∈h.l,f.ok)(hv:gB h=true):5≤(bQ h).length∧(bQ h).length≤120:=by
 obtain⟨hg,h3,_,_⟩:=ox h aR hf hv;have a1:=fB h.p;have a2:=fB h.q;have a3:=ix _ hg;have a4:3≤(lX (bm h.d)).length:=by
  have hl:=hg (bm h.d) ae;have p1:0<(Vl.put 9 (bm h.d).id.toNat).length:=(Vl.cQ 9 _).1;have p2:0<(Vl.put 9 (dk (bm h.d)).length).length:=(Vl.cQ 9 _).1;have p3:(dk (bm h.d)).length=1:=by
   have hb:=hl.2.2.2.1;unfold eE bm at hb;rw[if_pos rfl]at hb;split at hb;·injection hb with hb;have:(dk ⟨33,h.d⟩).length=1:=(by rw[←hb];rfl);exact this
   ·cases hb
  simp only[lX,List.length_append];omega
 have a5:(dc (h.l++[bm h.d])).length=(dc h.l).length+(lX (bm h.d)).length:=by rw[mP,List.length_append]
 have a6:(bQ h).length=(em h.p).length+(em h.q).length+(dc (h.l++[bm h.d])).length+2:=by simp only[bQ,fA,List.length_cons,List.length_append]
 rw[List.length_append,List.length_singleton]at a3;omega
theorem kX(h:el)(aR:h.ok)(hf: ∀f∈h.l,f.ok)(hv:gB h=true):(eF h).length=(km (bQ h)).length+4∧(km (bQ h)).length%4=0∧8≤(km (bQ h)).length∧(km (bQ h)).length≤124:=by
 have a:=sK h aR hf hv;have e:(km (bQ h)).length=(bQ h).length+bg (bQ h).length:=by simp[km]
 refine⟨by rw[eF,List.length_append,gN,dB,List.length_set],?_,?_,?_⟩;·rw[e];unfold bg;omega
 ·rw[e];unfold bg;omega
 ·rw[e];unfold bg;omega
theorem NH(h:el)(behind:List UInt8)(aR:h.ok)(hf: ∀f∈h.l,f.ok)(hv:gB h=true):gc (eF h++behind)=(h,(eF h).length,0):=by
 obtain⟨hL,hm,h8,avy⟩:=kX h aR hf hv;have gI:=NG h aR hf hv (bg (bQ h).length);obtain⟨hg,h3,hp,hq⟩:=ox h aR hf hv;have fF:(dB h).length=(km (bQ h)).length:=by rw[dB,List.length_set]
 have e0:(eF h++behind).getD 0 0=UInt8.ofNat ((km (bQ h)).length/4):=by have:0<(dB h).length:=aa;rw[eF,List.append_assoc];simp only[List.getD];rw[List.getElem?_append_left this];simp only[dB,List.getElem?_set_self (show 0<(km (bQ h)).length by omega)];rfl
 have e1:(eF h++behind).getD 1 0=UInt8.ofNat (dp h):=by have:1<(dB h).length:=aa;rw[eF,List.append_assoc];simp only[List.getD];rw[List.getElem?_append_left this];simp only[dB,List.getElem?_set_ne (show 0≠1 by omega)];rfl
 have t0:((eF h++behind).getD 0 0).toNat=(km (bQ h)).length/4:=by rw[e0,kU _ aa]
 have dJ:bZ (eF h++behind)=(km (bQ h)).length+4:=by unfold bZ;rw[t0];omega
 have wM:bZ (eF h++behind)-4=(dB h).length:=aa;have htk:(eF h++behind).take (bZ (eF h++behind)-4)=dB h:=by rw[wM,eF,List.append_assoc,List.take_left]
 have hpt:part (eF h++behind) (bZ (eF h++behind)-4) 4=lV (dB h):=by unfold part;have h4:(lV (dB h)).length=4:=gN _;rw[wM,eF,List.append_assoc,List.drop_left,List.take_append_of_le_length aa,List.take_of_length_le aa]
 have hse:dM (eF h++behind)=(dB h,0):=by
  unfold dM;rw[if_neg (by rw[List.length_append];omega),if_neg (by
   intro e;rw[e]at t0;have:(0:UInt8).toNat=0:=rfl;omega),if_neg (by rw[dJ,List.length_append,hL];omega),if_neg (by rw[htk,hpt];simp),htk]
 have KK:dp h<256:=by unfold dp;by_cases h1:h.p= -1<;>by_cases h2:h.q= -1<;>simp[h1,h2]<;>omega
 have amO:dp h/4%16=0:=by unfold dp;by_cases h1:h.p= -1<;>by_cases h2:h.q= -1<;>simp[h1,h2]<;>omega
 have pL:(dB h).drop 2=fA h++List.replicate (bg (bQ h).length) 0:=by unfold dB km bQ;rfl
 unfold gc;rw[hse,e1,kU _ KK];simp only;rw[if_neg ae,if_neg (by rw[amO];simp),pL,gI];simp only;rw[if_neg ae,dJ,hL]
def Tk(w:World)(l:List UInt8)(e:Ending)(w':World):Prop:= ∃v,e= .returned v∧Own w.heap.size w' v l∧Below w.heap.size w w'
theorem yy: ∀(f n:Nat) (w:World),f≤20→n<128^(f+1)→n<18446744073709551616→Calls prog 59 #[.int .u64 (n:Nat)] w (Tk w (Vl.put f n))
 | f,n,w,hf,hn,h64=>by
  by_cases hs:n<128;·have Zy:(n:Int)<128:=(by omega);have hp:=Vl.gO (f:=f) hs;have hx:(n:Int)=((UInt8.ofNat n).toNat:Int):=k9;have HP:=hdd hp;have ho:Own w.heap.size (w.alloc (.cells #[.int .u8 (n:Int)] 5)) (.slice (some ⟨w.heap.size,0,none⟩) 1 1) [UInt8.ofNat n]:=(by have:=Own.lit w [UInt8.ofNat n] (Nat.le_refl _) ae;rw[hx];exact this);clear hp hx;go_enter func59,ntmps59;go_wp2_with fail;go_ret;exact⟨_,rfl,by rw[HP.out];exact ho,ap⟩
  ·have Zy: ¬(n:Int)<128:=(by omega);match f with
   | 0=>exact absurd (by simpa using hn) hs
   | f+1=>
    have oT:n/128<128^(f+1):=(by rw[Nat.div_lt_iff_lt_mul aa];rw[Nat.pow_succ]at hn;exact hn);have HP:=hdd (Vl.pm (f:=f) hs);have hx:(n:Int)%128+128=((UInt8.ofNat (n%128+128)).toNat:Int):=k9;have hq:(n:Int)/128=((n/128:Nat):Int):=aa;have ho:Own w.heap.size (w.alloc (.cells #[.int .u8 ((UInt8.ofNat (n%128+128)).toNat:Int)] 5)) (.slice (some ⟨w.heap.size,0,none⟩) 1 1) [UInt8.ofNat (n%128+128)]:=Own.lit w [UInt8.ofNat (n%128+128)] (Nat.le_refl _) ae;have ih:=yy f (n/128) (w.alloc (.cells #[.int .u8 ((UInt8.ofNat (n%128+128)).toNat:Int)] 5)) aa oT aa;have hlen:=(Vl.cQ f (n/128)).2;generalize Vl.put f (n/128)=r at*;have hxl:(UInt8.ofNat (n%128+128)).toNat<256:=(UInt8.ofNat (n%128+128)).toNat_lt;have HX:Hid (∀u,Value.int .u8 ((UInt8.ofNat (n%128+128)).toNat:Int)=u→B8 (UInt8.ofNat (n%128+128))=u):=fun u h=>h;generalize n/128=n2 at*;generalize hX:UInt8.ofNat (n%128+128)=X at*;generalize hXn:X.toNat=xn at*;have IH:=hdd ih;have eH:Below w.heap.size w (w.alloc (.cells #[.int .u8 (xn:Int)] 5)):=ap;clear hX hXn ih HX;go_enter func59,ntmps59;go_wp2_with fail;refine IH.out.mono ?_;rintro e w1 ⟨v1,rfl,hO1,aC⟩;obtain⟨A1,c1,rfl,fY,fX,iH⟩:=hO1.read;have m6:=ho.below aC;have aE:Below w.heap.size w w1:=aO eH aC;have bt:[X].length+r.length≤140737488355328:=av;go_wp2_with (at_builtin;refine aj rfl (.tmp 12) (.tmp 15) rfl w.heap.size _ _ [X] rfl m6 A1 r c1 rfl iH bt aE.size ?_;intro v2 w4 cH dK;have bc:Below w.heap.size w w4:=am aE dK aE.size (fun g' wT=>(m6.aw g' wT).1))
    go_ret;exact⟨_,rfl,by rw[HP.out];exact cH,bc⟩
end Go.Proofs.YtgfpocdiojifoaaGreatDoor
