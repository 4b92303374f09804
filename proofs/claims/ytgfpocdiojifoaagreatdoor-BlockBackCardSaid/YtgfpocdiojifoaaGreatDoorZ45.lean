import Derived.Test.YtgfpocdiojifoaaGreatDoorZ44
import Derived.Deep.DeepCutAuto
import Derived.Deep.RegionHeld3
namespace Go.Proofs.YtgfpocdiojifoaaGreatDoor
set_option maxRecDepth 100000
set_option maxHeartbeats 8000000
open Go.RowKit
theorem MP(id:Int)(l:List UInt8)(g:bK)(h:gy id l=some g):g.id=id:=by
 unfold gy at h
 split at h
 ·rename_i e
  split at h
  ·split at h
   ·injection h with h;subst h;exact e.symm
   ·cases h
  ·cases h
 ·split at h
  ·rename_i e
   split at h
   ·injection h with h;subst h;exact e.symm
   ·cases h
  ·split at h
   ·split at h
    ·injection h with h;subst h;rfl
    ·split at h
     ·injection h with h;subst h;rfl
     ·cases h
    ·cases h
   ·cases h
theorem Ru(l:List UInt8):(jS l).1.ok∧(jS l).2.1.length≤l.length:=by
 have hz:bK.ok ⟨0,0⟩:=⟨by show(-9223372036854775808:Int)≤0;omega,by show(0:Int)≤9223372036854775807;omega,by show 0<4294967296;omega⟩
 unfold jS
 split
 ·exact⟨hz,by simp⟩
 ·rename_i id l1 h1
  split
  ·exact⟨hz,by simp⟩
  ·rename_i n l2 h2
   split
   ·exact⟨hz,by simp⟩
   ·split
    ·exact⟨hz,by simp⟩
    ·rename_i hid
     split
     ·exact⟨hz,by simp⟩
     ·rename_i f hf
      refine⟨⟨?_,?_,Zl _ _ _ hf⟩,?_⟩
      ·have:=MP _ _ _ hf;rw[this];omega
      ·have:=MP _ _ _ hf;rw[this];omega
      ·have h3:=(jR h1).2.1
       have h4:=(jR h2).2.1
       simp only[List.length_drop];omega
def gI(bo many:Nat)(l:List UInt8)(w:World)(e:Ending)(w':World):Prop:=
 ∃A c d,e= .returned (.tuple #[.slice A (if(bT many (many+1) 0 l []).2.2=0 then many else 0) c,.int .u32 (d:Nat),.int .i64 ((bT many (many+1) 0 l []).2.2:Nat)])∧Below bo w w'∧bG bo w w'∧
  ((bT many (many+1) 0 l []).2.2≠0→A=none∧c=0∧d=0)∧
  ((bT many (many+1) 0 l []).2.2=0→Rest bo w' (bT many (many+1) 0 l []).2.1∧gJ w' A ((bT many (many+1) 0 l []).1.take many)∧d=((bT many (many+1) 0 l []).1.getD many ⟨0,0⟩).n∧many≤c∧c≤9223372036854775807∧(∀a,A=some a→w.heap.size≤a.block))
theorem gI.err{bo many er:Nat}{l:List UInt8}{w w':World}(h:bT many (many+1) 0 l []=([],[],er))(h0:er≠0)(hb:Below bo w w')(hk:bG bo w w'):gI bo many l w (.returned (.tuple #[.slice none 0 0,.int .u32 0,.int .i64 (er:Nat)])) w':=by
 unfold gI
 rw[h]
 exact⟨none,0,0,by rw[if_neg h0];rfl,hb,hk,fun _=>⟨rfl,rfl,rfl⟩,fun h=>absurd h h0⟩
theorem gI.yes{bo many c d:Nat}{A:Option Addr}{l l':List UInt8}{acc:List bK}{w w':World}(h:bT many (many+1) 0 l []=(acc,l',0))(hb:Below bo w w')(hk:bG bo w w')(hr:Rest bo w' l')(hf:gJ w' A (acc.take many))(hd:d=(acc.getD many ⟨0,0⟩).n)
  (hc:many≤c) (hm:c≤9223372036854775807) (hA: ∀a,A=some a→w.heap.size≤a.block):gI bo many l w (.returned (.tuple #[.slice A many c,.int .u32 (d:Nat),.int .i64 0])) w':=by
 unfold gI
 rw[h]
 exact⟨A,c,d,rfl,hb,hk,fun h=>absurd rfl h,fun _=>⟨hr,hf,hd,hc,hm,hA⟩⟩
theorem Vb(bo many:Nat)(l:List UInt8)(w:World)(hR:Rest bo w l)(hl:l.length≤1000000)(hm:many≤3):
  Calls Tryz.prog 112 #[.int .i64 (many:Nat),.func (.func 108) #[] #[.pointer (some ⟨bo,0,none⟩)],.func (.func 110) #[] #[.pointer (some ⟨bo,0,none⟩)]] w (gI bo many l w):=by
 have hlt:=hR.lt
 have Nj:(many:Int)≤3:=by omega
 go_enter Tryz.func112,Tryz.ntmps112
 go_wp2_with fail
 go_loopw [9,15] (fun lv i wr=> ∃(j:Nat) (lq:List UInt8) (acc:List bK),j≤many+1∧i= .int .i64 (j:Nat)∧Hid (bT many (many+1) 0 l []=bT many (many+1-j) j lq acc)∧Hid (gK w.heap.size wr lv acc)∧acc.length=j∧Hid (∀f∈acc,f.ok)∧Hid (Rest bo wr lq)∧lq.length≤l.length∧Hid (Below bo w wr)∧Hid (bG bo w wr)) (fun _ i _=>many+1-(intOf i).toNat)
 case atStart=>exact⟨0,l,[],by omega,rfl,Lib.hid rfl,Lib.hid (gK.nil _ _),rfl,Lib.hid (by simp),Lib.hid hR,by omega,Lib.hid (Below.refl _ _),Lib.hid ⟨Nat.le_refl _,fun _ _ _=>rfl⟩⟩
 case round=>
  obtain⟨j,lq,acc,hj,rfl,HGO,HOW,hacc,Nh,rH,hlq,HBR,HKO⟩:=hrel
  by_cases hjl:j<many+1
  ·have hji:(j:Int)<(many:Int)+1:=by omega
   have HO:=Lib.hid (Z5 bo lq wr rH.out (by omega))
   have hfx:many+1-j=(many-j)+1:=by omega
   rw[hfx]at HGO
   have HE:=Lib.hid (HGO.out.trans (qQ many (many-j) j lq acc))
   have af9:=Lib.hid (Ru lq)
   have HD1:=Lib.hid (show EJ bo lq wr=fun e w'=>e= .returned (.tuple #[(jS lq).1.agg,.int .i64 ((jS lq).2.2:Nat)])∧Below bo wr w'∧bG bo wr w'∧((jS lq).2.2=0→Rest bo w' (jS lq).2.1)from rfl)
   rw[HD1.out]at HO
   clear HD1 hfx HGO
   generalize jS lq=R1 at*
   obtain⟨⟨fid,fn⟩,l',er⟩:=R1
   go_wp2_with fail
   refine HO.out.mono ?_
   rintro e w1 ⟨rfl,hb1,hk1,hr1⟩
   have HB1:=Lib.hid (HBR.out.trans hb1)
   have Jz:=Lib.hid (HKO.out.trans hk1)
   have hzz:=HKO.out.1
   have E8:Below bo w (w1.alloc (.cells #[.int .i64 fid,.int .u32 (fn:Nat)] 84)):=HB1.out.alloc (by have:=Jz.out.1;omega) _
   have hkA:bG bo w (w1.alloc (.cells #[.int .i64 fid,.int .u32 (fn:Nat)] 84)):=Jz.out.trans (Below.old ((Below.refl _ _).alloc (Nat.le_refl _) _))
   by_cases he:er=0
   ·subst he
    have HR1:=Lib.hid (hr1 rfl)
    have Pz:Hid (bT many (many+1) 0 l []=if(fid==33) !=(j==many)then([],[],5)else bT many (many-j) (j+1) l' (acc++[⟨fid,fn⟩])):=Lib.hid HE.out
    have ajI:gK w.heap.size w1 u9 acc:=HOW.out.keep (fun g e=>hk1.2 g (HOW.out.lt g e).2 (fun e2=>by have:=(HOW.out.lt g e).1;omega))
    obtain⟨b2,hb2'⟩: ∃b2,(j==many)=b2:=⟨_,rfl⟩
    obtain⟨b1,an1⟩: ∃b1,(fid==33)=b1:=⟨_,rfl⟩
    have hB2:((j:Int)==(many:Int))=b2:=by rw[←hb2',Bool.eq_iff_iff];simp;omega
    rw[hb2',an1]at Pz
    clear hb2'
    have oK:=HR1.out.alloc (.cells #[.int .i64 fid,.int .u32 (fn:Nat)] 84)
    have ajJ:=ajI.alloc (.cells #[.int .i64 fid,.int .u32 (fn:Nat)] 84)
    have HA:=Lib.hid (And.intro E8 (And.intro hkA (And.intro oK ajJ)))
    have Oh:b1=b2∨b1≠b2:=by cases b1<;>cases b2<;>simp
    clear E8 hkA oK ajJ ajI hr1 hb1 hk1 HE
    rcases Oh with rfl | hne
    ·have HE2:Hid (bT many (many+1) 0 l []=bT many (many-j) (j+1) l' (acc++[⟨fid,fn⟩])):=Lib.hid (by rw[Pz.out];simp)
     have HWB:Hid (Below (w1.alloc (.cells #[.int .i64 fid,.int .u32 (fn:Nat)] 84)).heap.size (w1.alloc (.cells #[.int .i64 fid,.int .u32 (fn:Nat)] 84)) ((w1.alloc (.cells #[.int .i64 fid,.int .u32 (fn:Nat)] 84)).alloc (.cells #[.int .i64 fid,.int .u32 (fn:Nat)] 84))):=Lib.hid ((Below.refl _ _).alloc (Nat.le_refl _) _)
     obtain⟨A9,c9,hu9,_,_,_⟩:=HA.out.2.2.2.read Nh.out
     have hF1:=Eo (w1.alloc (.cells #[.int .i64 fid,.int .u32 (fn:Nat)] 84)) ⟨fid,fn⟩ af9.out.1
     rw[show(w1.alloc (.cells #[.int .i64 fid,.int .u32 (fn:Nat)] 84)).heap.size=w1.heap.size+1 by simp]at hF1
     have acW:=HA.out.2.2.2.alloc (.cells #[.int .i64 fid,.int .u32 (fn:Nat)] 84)
     have hbB:=HA.out.1.alloc (by have:=HA.out.2.1.1;omega) (.cells #[.int .i64 fid,.int .u32 (fn:Nat)] 84)
     have hkB:=HA.out.2.1.trans (Below.old HWB.out)
     have hrB:=HA.out.2.2.1.alloc (.cells #[.int .i64 fid,.int .u32 (fn:Nat)] 84)
     have Xv:=Lib.hid (And.intro hbB (And.intro hkB hrB))
     have an2:=hkB.1
     have CG:Hid (acc.length+[(⟨fid,fn⟩:bK)].length≤1000000):=Lib.hid (by simp;omega)
     clear hbB hkB hrB hu9
     cases b1
     all_goals
      go_wp2_with (at_builtin;refine wL rfl (.tmp 34) (.tmp 36) rfl w.heap.size _ u9 acc rfl acW (some ⟨w1.heap.size+1,0,none⟩) [⟨fid,fn⟩] 1 rfl hF1 CG.out an2 ?_;intro v2 w2 ho2 hg2)
      have hb2:Below bo w w2:=below_grown Xv.out.1 hg2 (by have:=Xv.out.2.1.1;omega) (fun g e=>by have:=(acW.lt g e).1;omega)
      have hk2:bG bo w w2:=⟨Nat.le_trans Xv.out.2.1.1 hg2.size,fun g h1 h2=>(hg2.block g (by have:=Xv.out.2.1.1;omega) (fun e=>by have:=(acW.lt g e.symm).1;omega)).trans (Xv.out.2.1.2 g h1 h2)⟩
      have hr2:Rest bo w2 l':=Xv.out.2.2.keep (below_grown (Below.refl _ _) hg2 (by have:=Xv.out.2.1.1;omega) (fun g e=>by have:=(acW.lt g e).1;omega))
      exact⟨⟨j+1,l',acc++[⟨fid,fn⟩],by omega,by go_num,Lib.hid (by rw[HE2.out];congr 1;omega),Lib.hid ho2,by simp;omega,Lib.hid (fun f hf=>by rcases List.mem_append.1 hf with h | h;exact Nh.out f h;rw[List.mem_singleton.1 h];exact af9.out.1),Lib.hid hr2,Nat.le_trans af9.out.2 hlq,Lib.hid hb2,Lib.hid hk2⟩,by simp[intOf];omega⟩
    ·have HE2:Hid (bT many (many+1) 0 l []=([],[],5)):=Lib.hid (by rw[Pz.out,if_pos (by simpa using hne)])
     cases b1<;>cases b2
     ·exact absurd rfl hne
     ·clear hne
      go_wp2_with fail
      go_ret3
      exact gI.err HE2.out (by decide) HA.out.1 HA.out.2.1
     ·clear hne
      go_wp2_with fail
      go_ret3
      exact gI.err HE2.out (by decide) HA.out.1 HA.out.2.1
     ·exact absurd rfl hne
   ·have HE2:Hid (bT many (many+1) 0 l []=([],[],er)):=Lib.hid (by rw[HE.out,if_pos he])
    have VF:(0:Int)<(er:Int):=by omega
    have HEZ:=Lib.hid he
    have HAA:=Lib.hid (And.intro E8 hkA)
    clear he E8 hkA
    go_wp2_with fail
    go_ret3
    exact gI.err HE2.out HEZ.out HAA.out.1 HAA.out.2
  ·obtain rfl:j=many+1:=by omega
   rw[Nat.sub_self]at HGO
   have an3:Hid (bT many (many+1) 0 l []=(acc,lq,0)):=Lib.hid HGO.out
   obtain⟨A9,c9,rfl,hc9,hm9,hF9⟩:=HOW.out.read Nh.out
   obtain⟨b,off,rfl,Jy,hat⟩:=hF9.addr (by omega)
   have hfj:=hat many (by omega)
   have hgd:acc.getD many ⟨0,0⟩=acc[many]:=by simp[List.getD,show many<acc.length by omega]
   have HGD:=Lib.hid hgd
   have an4:w.heap.size≤b:=(HOW.out.lt b rfl).1
   have HCL:=Lib.hid (fun(w':World) (hb:Below wr.heap.size wr w')=>(hb.cell (p:=⟨b,off+many*2+1,none⟩) Jy).trans hfj.c1)
   have hft:gJ wr (some ⟨b,off,none⟩) (acc.take many):=by
    refine .inr ⟨b,off,rfl,Jy,fun i hi=> ?_⟩
    have h2:=hat i (by rw[List.length_take]at hi;omega)
    rw[List.getElem_take]
    exact h2
   have HFT:=Lib.hid hft
   generalize acc[many]=f9 at*
   obtain⟨id9,n9⟩:=f9
   rw[hacc]
   have hmc:(many:Int)+1≤(c9:Int):=by omega
   have HC:=Lib.hid (show(many:Int)≤(c9:Int)∧(many:Int)<(many:Int)+1∧(0:Int)≤(many:Int) by omega)
   have hdr:Below wr.heap.size wr wr.drew:=kN wr
   clear hgd hft hfj hat hF9 HGO hjl HOW
   go_wp2_with fail
   refine wp_region_held_drew (S:=fun w'=>Below wr.heap.size wr w') (by kernel_rfl) hdr (fun hS=> ?_)
   refine tq 0 hS ?_
   refine tq 1 hS ?_
   refine tp 2 rfl (fun w hSw=>by obtain⟨i1,i2,i3⟩:=HC.out;go_simp;all_goals(with_reducible rfl)) hS ?_
   refine tq 3 hS ?_
   refine tq 4 hS ?_
   refine tp 5 rfl (fun w hSw=>by obtain⟨i1,i2,i3⟩:=HC.out;go_simp;all_goals(with_reducible rfl)) hS ?_
   refine tq 6 hS ?_
   refine tp 7 rfl (fun w hSw=>by have j2:=HCL.out w hSw;go_simp;all_goals(with_reducible rfl)) hS ?_
   refine tq 8 hS ?_
   refine tq 9 hS ?_
   refine tq 10 hS ?_
   refine wpAnyH_done (by kernel_rfl) ?_ _
   go_wp2_with fail
   go_ret3
   exact gI.yes an3.out (HBR.out.trans (hdr.mono (by have:=HKO.out.1;omega))) (HKO.out.trans (Below.old hdr)) (rH.out.keep (hdr.mono (by have:=HKO.out.1;omega))) (HFT.out.below hdr) (by rw[HGD.out]) (by omega) hm9 (fun a e=>by injection e with e;subst e;exact an4)
def eF(r:Nat)(w:World)(a b c d:Value):Prop:=w.heap[r]? =some (.cells #[a,b,c,d] 51 (0,0))
theorem eF.cells{r:Nat}{w:World}{a b c d:Value}(h:eF r w a b c d):w.cell? ⟨r,0,none⟩=some a∧w.cell? ⟨r,1,none⟩=some b∧w.cell? ⟨r,2,none⟩=some c∧w.cell? ⟨r,3,none⟩=some d:=by
 refine⟨?_,?_,?_,?_⟩<;>(rw[cell_of_row w r _ _ _ _ h];rfl)
theorem eF.frozen{r:Nat}{w:World}{a b c d:Value}(h:eF r w a b c d)(i:Nat):w.frozen? ⟨r,i,none⟩=false:=by
 simp[World.frozen?,show w.heap[r]? =_ from h]
theorem eF.set0{r:Nat}{w:World}{a b c d:Value}(h:eF r w a b c d)(u:Value):eF r (w.setCell ⟨r,0,none⟩ u) u b c d:=heap_set (L:=[a,b,c,d]) h 0 u
theorem eF.set1{r:Nat}{w:World}{a b c d:Value}(h:eF r w a b c d)(u:Value):eF r (w.setCell ⟨r,1,none⟩ u) a u c d:=heap_set (L:=[a,b,c,d]) h 1 u
theorem eF.set2{r:Nat}{w:World}{a b c d:Value}(h:eF r w a b c d)(u:Value):eF r (w.setCell ⟨r,2,none⟩ u) a b u d:=heap_set (L:=[a,b,c,d]) h 2 u
theorem eF.ajK{r:Nat}{w:World}{a b c d:Value}(h:eF r w a b c d)(u:Value):eF r (w.setCell ⟨r,3,none⟩ u) a b c u:=heap_set (L:=[a,b,c,d]) h 3 u
theorem eF.ret{r:Nat}{w:World}{a b c d:Value}(h:eF r w a b c d)(p q s t:Value):(w.setCell ⟨r,0,none⟩ p).cell? ⟨r,0,none⟩=some p∧((w.setCell ⟨r,0,none⟩ p).setCell ⟨r,1,none⟩ q).cell? ⟨r,1,none⟩=some q∧
  (((w.setCell ⟨r,0,none⟩ p).setCell ⟨r,1,none⟩ q).setCell ⟨r,2,none⟩ s).cell? ⟨r,2,none⟩=some s∧((((w.setCell ⟨r,0,none⟩ p).setCell ⟨r,1,none⟩ q).setCell ⟨r,2,none⟩ s).setCell ⟨r,3,none⟩ t).cell? ⟨r,3,none⟩=some t:=
 ⟨(h.set0 p).cells.1,((h.set0 p).set1 q).cells.2.1,(((h.set0 p).set1 q).set2 s).cells.2.2.1,((((h.set0 p).set1 q).set2 s).ajK t).cells.2.2.2⟩
theorem eF.keep{bo r:Nat}{w w':World}{a b c d:Value}(h:eF r w a b c d)(hk:fO bo w w')(hr:r≠bo):eF r w' a b c d:=(hk.2 r hr).trans h
theorem eF.other{r g i:Nat}{w:World}{a b c d u:Value}(h:eF r w a b c d)(hg:g≠r):eF r (w.setCell ⟨g,i,none⟩ u) a b c d:=(ah _ _ _ _ (fun e=>hg e.symm)).trans h
theorem Rw: ∀s:Fin 256,bits .and .u8 (s.val:Int) 64=(if s.val/64%2=1 then 64 else 0)∧bits .and .u8 (s.val:Int) 128=(if s.val/128=1 then 128 else 0)∧bits .and .u8 (s.val:Int) 3=((s.val%4:Nat):Int)∧(bits .and .u8 (s.val:Int) 60=0↔s.val/4%16=0):=by decide+kernel
def fD(bo s:Nat)(l:List UInt8)(w:World)(e:Ending)(w':World):Prop:=
 Below bo w w'∧bG bo w w'∧match jJ s l with
 | none=>e= .returned (.tuple #[.agg #[.int .i64 0,.int .i64 0,.slice none 0 0,.int .u32 0],.int .i64 4])
 | some (p,q,l2)=>e= .returned (.tuple #[.agg #[.int .i64 p,.int .i64 q,.slice none 0 0,.int .u32 0],.int .i64 0])∧Rest bo w' l2
theorem fD.err{bo s:Nat}{l:List UInt8}{w w':World}(h:jJ s l=none)(hb:Below bo w w')(hk:bG bo w w'):fD bo s l w (.returned (.tuple #[.agg #[.int .i64 0,.int .i64 0,.slice none 0 0,.int .u32 0],.int .i64 4])) w':=by
 unfold fD;rw[h];exact⟨hb,hk,rfl⟩
theorem fD.yes{bo s:Nat}{p q:Int}{l l2:List UInt8}{w w':World}(h:jJ s l=some (p,q,l2))(hb:Below bo w w')(hk:bG bo w w')(hr:Rest bo w' l2):fD bo s l w (.returned (.tuple #[.agg #[.int .i64 p,.int .i64 q,.slice none 0 0,.int .u32 0],.int .i64 0])) w':=by
 unfold fD;rw[h];exact⟨hb,hk,rfl,hr⟩
def aga(bo:Nat)(w:World)(p q:Int)(l:List UInt8)(wx:World):Prop:=
 eF w.heap.size wx (.int .i64 0) (.int .i64 0) (.slice none 0 0) (.int .u32 0)∧eF (w.heap.size+1) wx (.int .i64 p) (.int .i64 q) (.slice none 0 0) (.int .u32 0)∧Rest bo wx l∧Below bo w wx∧bG bo w wx
theorem zM(s:Nat)(l:List UInt8):jJ s l=match wS (s/64%2==1) true l with
 | none=>none
 | some (p,l1)=>match wS (s/128==1) false l1 with
  | none=>none
  | some (q,l2)=>some (p,q,l2):=rfl
theorem EK{here z:Bool}{l l':List UInt8}{p:Int}(h:wS here z l=some (p,l')):l'.length≤l.length∧ -1≤p∧p<9223372036854775808:=by
 unfold wS at h
 split at h
 ·split at h
  ·cases h
  ·rename_i n l1 hn
   split at h
   ·cases h
   ·injection h with h;injection h with h1 h2
    subst h1;subst h2
    have:=jR hn
    exact⟨by omega,by omega,by omega⟩
 ·injection h with h;injection h with h1 h2
  subst h1;subst h2
  exact⟨Nat.le_refl _,by omega,by omega⟩
theorem Ql(bo s:Nat)(l:List UInt8)(w:World)(hR:Rest bo w l)(hl:l.length≤1000000)(hs:s<256):
  Calls Tryz.prog 111 #[.int .u8 (s:Nat),.func (.func 108) #[] #[.pointer (some ⟨bo,0,none⟩)]] w (fD bo s l w):=by
 have hlt:=hR.lt
 obtain⟨w0,hw0⟩: ∃w0,(w.alloc (.cells #[.int .i64 0,.int .i64 0,.slice none 0 0,.int .u32 0] 51)).alloc (.cells #[.int .i64 (-1),.int .i64 (-1),.slice none 0 0,.int .u32 0] 51)=w0:=⟨_,rfl⟩
 have hI0:Hid (aga bo w (-1) (-1) l w0):=Lib.hid (by
  have h1:(w.alloc (.cells #[.int .i64 0,.int .i64 0,.slice none 0 0,.int .u32 0] 51)).heap[w.heap.size]? =_:=heap_alloc_last _ _
  have h2:=heap_alloc_last (w.alloc (.cells #[.int .i64 0,.int .i64 0,.slice none 0 0,.int .u32 0] 51)) (.cells #[.int .i64 (-1),.int .i64 (-1),.slice none 0 0,.int .u32 0] 51)
  rw[World.size_alloc]at h2
  rw[←hw0]
  exact⟨(Below.heap_alloc _ _ _ (by simp)).trans h1,h2,(hR.alloc _).alloc _,((Below.refl _ _).alloc (by omega) _).alloc (by simp;omega) _,Below.old (((Below.refl _ _).alloc (Nat.le_refl _) _).alloc (by simp) _)⟩)
 have HW0:=Lib.hid hw0
 clear hw0
 obtain⟨agb,Z7,_,_⟩:=Rw ⟨s,hs⟩
 simp only at agb Z7
 have HSM:=Lib.hid (zM s l)
 obtain⟨b1,hb1⟩: ∃b1,(s/64%2==1)=b1:=⟨_,rfl⟩
 obtain⟨b2,hb2⟩: ∃b2,(s/128==1)=b2:=⟨_,rfl⟩
 rw[hb1,hb2]at HSM
 have HA1:Hid (bits .and .u8 (s:Int) 64=if b1=true then 64 else 0):=Lib.hid (by rw[agb,←hb1];simp)
 have HA2:Hid (bits .and .u8 (s:Int) 128=if b2=true then 128 else 0):=Lib.hid (by rw[Z7,←hb2];simp)
 clear agb Z7 hb1 hb2
 go_enter Tryz.func111,Tryz.ntmps111
 go_upto_region 2 with fail
 rw[HW0.out]
 have HST:=Lib.hid (fun(wx:World) (h:Below bo w wx) (i:Nat) (u:Value)=>(Below.setCell (p:=⟨w.heap.size+1,i,none⟩) h (by show bo≤w.heap.size+1;omega) u))
 have HRT:=Lib.hid (fun(wx:World) (lx:List UInt8) (h:Rest bo wx lx) (i:Nat) (u:Value)=>h.keep (Below.setCell (p:=⟨w.heap.size+1,i,none⟩) (Below.refl _ _) (by show bo+1≤w.heap.size+1;omega) u))
 have EL:=Lib.hid (fun(wx:World) (h:Below bo w wx) (a b c d:Value)=>(show Below bo w ((((wx.setCell ⟨w.heap.size,0,none⟩ a).setCell ⟨w.heap.size,1,none⟩ b).setCell ⟨w.heap.size,2,none⟩ c).setCell ⟨w.heap.size,3,none⟩ d)from
  Below.setCell (p:=⟨w.heap.size,3,none⟩) (Below.setCell (p:=⟨w.heap.size,2,none⟩) (Below.setCell (p:=⟨w.heap.size,1,none⟩) (Below.setCell (p:=⟨w.heap.size,0,none⟩) h (by show bo≤w.heap.size;omega) a) (by show bo≤w.heap.size;omega) b) (by show bo≤w.heap.size;omega) c) (by show bo≤w.heap.size;omega) d))
 have Rx:=Lib.hid (fun(wx:World) (h:bG bo w wx) (a b c d:Value)=>(show bG bo w ((((wx.setCell ⟨w.heap.size,0,none⟩ a).setCell ⟨w.heap.size,1,none⟩ b).setCell ⟨w.heap.size,2,none⟩ c).setCell ⟨w.heap.size,3,none⟩ d)from
  (((h.set (Nat.le_refl _) a).set (Nat.le_refl _) b).set (Nat.le_refl _) c).set (Nat.le_refl _) d))
 have ajL:=Lib.hid (fun(wx:World) (lx:List UInt8) (h:Rest bo wx lx) (a b c d:Value)=>(show Rest bo ((((wx.setCell ⟨w.heap.size,0,none⟩ a).setCell ⟨w.heap.size,1,none⟩ b).setCell ⟨w.heap.size,2,none⟩ c).setCell ⟨w.heap.size,3,none⟩ d) lx from
  h.keep (Below.setCell (p:=⟨w.heap.size,3,none⟩) (Below.setCell (p:=⟨w.heap.size,2,none⟩) (Below.setCell (p:=⟨w.heap.size,1,none⟩) (Below.setCell (p:=⟨w.heap.size,0,none⟩) (Below.refl _ _) (by show bo+1≤w.heap.size;omega) a) (by show bo+1≤w.heap.size;omega) b) (by show bo+1≤w.heap.size;omega) c) (by show bo+1≤w.heap.size;omega) d)))
 clear HW0
 go_upto_if 14 with fail
 go_cut []from 11 (fun wx=> ∃p l1,wS b1 true l=some (p,l1)∧aga bo w p (-1) l1 wx)
 case first=>
  cases b1 with
  | false=>
   have ha:=HA1.out
   rw[if_neg (by simp)]at ha
   go_wp2_with fail
   go_meet
   exact⟨-1,l,rfl,hI0.out⟩
  | true=>
   have ha:=HA1.out
   rw[if_pos rfl]at ha
   obtain⟨hz,hh,hr,hb,hk⟩:=hI0.out
   have HN:=Lib.hid (uS bo l w0 hr (by omega))
   have HOM:=Lib.hid (show wS true true l=(match iI l with
    | none=>none
    | some (n,l')=>if(true&&n==0)=true then none else some ((n:Int),l'))from rfl)
   go_wp2_with fail
   refine HN.out.mono ?_
   rintro e w1 ⟨hb1,hk1,hd1⟩
   have hz1:=hz.keep hk1 (by omega)
   have hh1:=hh.keep hk1 (by omega)
   have HB1:=Lib.hid (hb.trans hb1)
   have Jz:=Lib.hid (hk.trans hk1.old)
   have HZ1:=Lib.hid hz1
   have HH1:=Lib.hid hh1
   obtain⟨z0,z1,z2,z3⟩:=hz1.cells
   have F9:=hz1.frozen 0
   have Gf:=hz1.frozen 1
   have Jt:=hz1.frozen 2
   have Ju:=hz1.frozen 3
   cases hn:iI l with
   | none=>
    rw[hn]at hd1 HOM
    obtain rfl:=hd1
    have HNO:Hid (jJ s l=none):=Lib.hid (by rw[HSM.out,HOM.out])
    clear hn hk1 hb1 hz hh hb hk hr hz1 hh1
    go_wp2_with fail
    obtain⟨k0,k1,k2,k3⟩:=eF.ret HZ1.out (.int .i64 0) (.int .i64 0) (.slice none 0 0) (.int .u32 0)
    exact bodyPost_ret (v:= .tuple #[.agg #[.int .i64 0,.int .i64 0,.slice none 0 0,.int .u32 0],.int .i64 4]) (by simp[results,Tryz.results111,go_sem,k0,k1,k2,k3]) rfl (fD.err HNO.out (EL.out w1 HB1.out _ _ _ _) (Rx.out w1 Jz.out _ _ _ _))
   | some r1=>
    obtain⟨n,l'⟩:=r1
    rw[hn]at hd1 HOM
    obtain⟨rfl,hR1⟩:=hd1
    obtain⟨hnb,hln,_⟩:=jR hn
    have hni:(n:Int)<9223372036854775808:=by omega
    have HR1:=Lib.hid hR1
    by_cases hn0:n=0
    ·subst hn0
     have HNO:Hid (jJ s l=none):=Lib.hid (by rw[HSM.out,HOM.out];rfl)
     clear hn hk1 hb1 hz hh hb hk hr hz1 hh1
     go_wp2_with fail
     obtain⟨k0,k1,k2,k3⟩:=eF.ret HZ1.out (.int .i64 0) (.int .i64 0) (.slice none 0 0) (.int .u32 0)
     exact bodyPost_ret (v:= .tuple #[.agg #[.int .i64 0,.int .i64 0,.slice none 0 0,.int .u32 0],.int .i64 4]) (by simp[results,Tryz.results111,go_sem,k0,k1,k2,k3]) rfl (fD.err HNO.out (EL.out w1 HB1.out _ _ _ _) (Rx.out w1 Jz.out _ _ _ _))
    ·have hn1:((n:Int)==0)=false:=by simp;omega
     have HF:Hid (wS true true l=some ((n:Int),l')):=Lib.hid (by rw[HOM.out];simp[hn0])
     obtain⟨y0,y1,y2,y3⟩:=HH1.out.cells
     have yf:=HH1.out.frozen 0
     clear hn hk1 hb1 hz hh hb hk hr hz1 hh1 hnb hln hR1 hn0
     go_wp2_with fail
     go_meet
     exact⟨(n:Int),l',HF.out,HZ1.out.other (by omega),HH1.out.set0 _,HRT.out _ _ HR1.out 0 _,HST.out _ HB1.out 0 _,Jz.out.set (by omega) _⟩
 case rest=>
 obtain⟨p,l1,hp,hi1⟩:=hcut
 have hpl:=EK hp
 have ajM:Hid (jJ s l=match wS b2 false l1 with
  | none=>none
  | some (q,l2)=>some (p,q,l2)):=Lib.hid (by rw[HSM.out,hp])
 have HI1:=Lib.hid hi1
 clear hi1 hI0 HA1 hp
 go_upto_if 32 with fail
 go_cut []from 11 (fun wx=> ∃q l2,wS b2 false l1=some (q,l2)∧aga bo w p q l2 wx)
 case first=>
  cases b2 with
  | false=>
   have ha:=HA2.out
   rw[if_neg (by simp)]at ha
   go_wp2_with fail
   go_meet
   exact⟨-1,l1,rfl,HI1.out⟩
  | true=>
   have ha:=HA2.out
   rw[if_pos rfl]at ha
   obtain⟨hz,hh,hr,hb,hk⟩:=HI1.out
   have HN:=Lib.hid (uS bo l1 wc hr (by omega))
   have HOM:=Lib.hid (show wS true false l1=(match iI l1 with
    | none=>none
    | some (n,l')=>if(false&&n==0)=true then none else some ((n:Int),l'))from rfl)
   go_wp2_with fail
   refine HN.out.mono ?_
   rintro e w1 ⟨hb1,hk1,hd1⟩
   have hz1:=hz.keep hk1 (by omega)
   have hh1:=hh.keep hk1 (by omega)
   have HB1:=Lib.hid (hb.trans hb1)
   have Jz:=Lib.hid (hk.trans hk1.old)
   have HZ1:=Lib.hid hz1
   have HH1:=Lib.hid hh1
   obtain⟨z0,z1,z2,z3⟩:=hz1.cells
   have F9:=hz1.frozen 0
   have Gf:=hz1.frozen 1
   have Jt:=hz1.frozen 2
   have Ju:=hz1.frozen 3
   cases hn:iI l1 with
   | none=>
    rw[hn]at hd1 HOM
    obtain rfl:=hd1
    have HNO:Hid (jJ s l=none):=Lib.hid (by rw[ajM.out,HOM.out])
    clear hn hk1 hb1 hz hh hb hk hr hz1 hh1
    go_wp2_with fail
    obtain⟨k0,k1,k2,k3⟩:=eF.ret HZ1.out (.int .i64 0) (.int .i64 0) (.slice none 0 0) (.int .u32 0)
    exact bodyPost_ret (v:= .tuple #[.agg #[.int .i64 0,.int .i64 0,.slice none 0 0,.int .u32 0],.int .i64 4]) (by simp[results,Tryz.results111,go_sem,k0,k1,k2,k3]) rfl (fD.err HNO.out (EL.out w1 HB1.out _ _ _ _) (Rx.out w1 Jz.out _ _ _ _))
   | some r1=>
    obtain⟨n,l'⟩:=r1
    rw[hn]at hd1 HOM
    obtain⟨rfl,hR1⟩:=hd1
    obtain⟨hnb,hln,_⟩:=jR hn
    have hni:(n:Int)<9223372036854775808:=by omega
    have HR1:=Lib.hid hR1
    have HF:Hid (wS true false l1=some ((n:Int),l')):=Lib.hid (by rw[HOM.out];rfl)
    obtain⟨y0,y1,y2,y3⟩:=HH1.out.cells
    have yf:=HH1.out.frozen 1
    clear hn hk1 hb1 hz hh hb hk hr hz1 hh1 hnb hln hR1
    go_wp2_with fail
    go_meet
    exact⟨(n:Int),l',HF.out,HZ1.out.other (by omega),HH1.out.set1 _,HRT.out _ _ HR1.out 1 _,HST.out _ HB1.out 1 _,Jz.out.set (by omega) _⟩
 case rest=>
 obtain⟨q,l2,hq,hi2⟩:=hcut
 have an5:Hid (jJ s l=some (p,q,l2)):=Lib.hid (by rw[ajM.out,hq])
 obtain⟨hz,hh,hr,hb,hk⟩:=hi2
 have HZ1:=Lib.hid hz
 have HB1:=Lib.hid hb
 have Jz:=Lib.hid hk
 have HR1:=Lib.hid hr
 obtain⟨y0,y1,y2,y3⟩:=hh.cells
 obtain⟨z0,z1,z2,z3⟩:=hz.cells
 have F9:=hz.frozen 0
 have Gf:=hz.frozen 1
 have Jt:=hz.frozen 2
 have Ju:=hz.frozen 3
 clear hz hh hr hb hk hq HI1 hpl
 go_wp2_with fail
 obtain⟨k0,k1,k2,k3⟩:=eF.ret HZ1.out (.int .i64 p) (.int .i64 q) (.slice none 0 0) (.int .u32 0)
 exact bodyPost_ret (v:= .tuple #[.agg #[.int .i64 p,.int .i64 q,.slice none 0 0,.int .u32 0],.int .i64 0]) (by simp[results,Tryz.results111,go_sem,k0,k1,k2,k3]) rfl (fD.yes an5.out (EL.out wc HB1.out _ _ _ _) (Rx.out wc Jz.out _ _ _ _) (ajL.out wc l2 HR1.out _ _ _ _))
theorem zN(A B:Option Addr)(l m:List UInt8)(c d:Nat)(w:World)(h1:Bytes w A l)(h2:Bytes w B m):Calls Tryz.prog 36 #[.slice A l.length c,.slice B m.length d] w fun e w'=>e= .returned (.bool (l==m))∧w=w':=by
 refine(qw (.slice A l.length c) (.slice B m.length d) ⟨l.toArray⟩ ⟨m.toArray⟩ w (AX h1 c) (AX h2 d)).mono fun e w' h=> ?_
 obtain⟨rfl,rfl⟩:=h
 rw[ByteArray.toList_mk,ByteArray.toList_mk]
 exact⟨rfl,rfl⟩
def iJ(l:List UInt8)(A:Option Addr)(c:Nat)(w:World)(e:Ending)(w':World):Prop:=
 Below w.heap.size w w'∧(((fH l).2=0∧e= .returned (.tuple #[.slice A (bM l-4) c,.int .i64 0]))∨((fH l).2≠0∧e= .returned (.tuple #[.slice none 0 0,.int .i64 ((fH l).2:Nat)])))
theorem iJ.err{l:List UInt8}{A:Option Addr}{c er:Nat}{w w':World}(h:fH l=([],er))(h0:er≠0)(hb:Below w.heap.size w w'):iJ l A c w (.returned (.tuple #[.slice none 0 0,.int .i64 (er:Nat)])) w':=by
 unfold iJ;rw[h];exact⟨hb,.inr ⟨h0,rfl⟩⟩
theorem iJ.yes{l x:List UInt8}{A:Option Addr}{c n:Nat}{w w':World}(h:fH l=(x,0))(hn:n=bM l-4)(hb:Below w.heap.size w w'):iJ l A c w (.returned (.tuple #[.slice A n c,.int .i64 0])) w':=by
 unfold iJ;rw[h,hn];exact⟨hb,.inl ⟨rfl,rfl⟩⟩
theorem Vd(A:Option Addr)(l:List UInt8)(c:Nat)(w:World)(hB:Bytes w A l)(hc:l.length≤c)(hm:c≤9223372036854775807)(hl:l.length≤1000000):
  Calls Tryz.prog 107 #[.slice A l.length c] w (iJ l A c w):=by
 have HB:=Lib.hid hB
 have hdef:fH l=if l.length=0 then([],2)else if l.getD 0 0=0 then([],4)else if l.length<bM l then([],2)
  else if(uf (l.take (bM l-4))==part l (bM l-4) 4)=false then([],4)else(l.take (bM l-4),0):=rfl
 by_cases h0:l.length=0
 ·have HF:=Lib.hid (show fH l=([],2) by rw[hdef,if_pos h0])
  have h0i:(l.length:Int)=0:=by omega
  rw[h0]
  clear hB hdef h0
  go_enter Tryz.func107,Tryz.ntmps107
  go_wp2_with fail
  go_ret2
  exact iJ.err HF.out (by decide) (Below.refl _ _)
 rw[if_neg h0]at hdef
 obtain⟨b,off,rfl,hbl,hcell⟩:=hB.addr (by omega)
 have k0:w.cell? ⟨b,off+0,none⟩=some (B8 (l[0]'(by omega))):=hcell 0 (by omega)
 have hgd:l[0]'(by omega)=l.getD 0 0:=by simp[List.getD,show 0<l.length by omega]
 rw[hgd,Nat.add_zero]at k0
 have hlp:(0:Int)<(l.length:Int):=by omega
 have hln: ¬(l.length:Int)=0:=by omega
 clear hcell hgd hB h0
 by_cases hx:l.getD 0 0=0
 ·have HF:=Lib.hid (show fH l=([],4) by rw[hdef,if_pos hx])
  rw[hx]at k0
  have k1:w.cell? ⟨b,off,none⟩=some (.int .u8 0):=k0
  clear k0 hdef hx
  go_enter Tryz.func107,Tryz.ntmps107
  go_wp2_with fail
  go_ret2
  exact iJ.err HF.out (by decide) (Below.refl _ _)
 rw[if_neg hx]at hdef
 have hxt:0<(l.getD 0 0).toNat:=by
  rcases Nat.eq_zero_or_pos (l.getD 0 0).toNat with h | h
  ·exact absurd (UInt8.toNat_inj.1 (by simpa using h)) hx
  ·exact h
 have hx256:=(l.getD 0 0).toNat_lt
 have hsz:bM l=4*(l.getD 0 0).toNat+4:=rfl
 have k1:w.cell? ⟨b,off,none⟩=some (.int .u8 ((l.getD 0 0).toNat:Nat)):=k0
 clear k0 hx
 generalize(l.getD 0 0).toNat=x at*
 have hx0:((x:Int)==0)=false:=by simp;omega
 obtain⟨Z,hZ⟩: ∃Z,bM l=Z:=⟨_,rfl⟩
 have HZ:=Lib.hid hZ
 rw[hZ]at hdef hsz
 have hzi:((x:Int)+1)*4=(Z:Int):=by omega
 have hZb:Z≤1024:=by omega
 have at7:8≤Z:=by omega
 by_cases hlt:l.length<Z
 ·have HF:=Lib.hid (show fH l=([],2) by rw[hdef,if_pos hlt])
  have Om:(l.length:Int)<(Z:Int):=by omega
  clear hdef hlt hZ hsz hxt
  go_enter Tryz.func107,Tryz.ntmps107
  go_wp2_with fail
  go_ret2
  exact iJ.err HF.out (by decide) (Below.refl _ _)
 rw[if_neg hlt]at hdef
 have Om:(Z:Int)≤(l.length:Int):=by omega
 have aua:decide ((l.length:Int)<(Z:Int))=false:=by simp;omega
 obtain⟨p,hp⟩: ∃p,Z-4=p:=⟨_,rfl⟩
 have HP:=Lib.hid hp
 rw[hp]at hdef
 have HW:Hid (IntKind.i64.wrap ((Z:Int)-4)=(p:Int)):=Lib.hid (by rw[IntWalk.i64_in _ (by omega)];omega)
 have HT4:Hid (Z-p=4):=Lib.hid (by omega)
 have HC:=Lib.hid (show(p:Int)≤(c:Int)∧(0:Int)≤(p:Int)∧(p:Int)≤(Z:Int)∧(Z:Int)≤(c:Int)∧ ¬c=p∧p≤Z∧(p:Int)≤(l.length:Int) by omega)
 have htl:(l.take p).length=p:=by rw[List.length_take];omega
 have hpl:=MO l p 4 (by omega)
 have yM:=Lib.hid (lF (l.take p))
 have HS:=Lib.hid (show ∀w',Bytes w' (some ⟨b,off,none⟩) l→Calls Tryz.prog 18 #[.int .i64 1,.slice (some ⟨b,off,none⟩) p c] w' (dO w' (uf (l.take p)))from fun w' h=>by
  have:=LU (some ⟨b,off,none⟩) (l.take p) c w' (h.take p) (by rw[htl];omega) hm
  rwa [htl]at this)
 have HE:=Lib.hid (show ∀A2 c2 w',Bytes w' (some ⟨b,off,none⟩) l→Bytes w' A2 (uf (l.take p))→Calls Tryz.prog 36 #[.slice A2 4 c2,.slice (some ⟨b,off+p,none⟩) 4 (c-p)] w' fun e w''=>e= .returned (.bool (uf (l.take p)==part l p 4))∧w'=w'' from fun A2 c2 w' h h2=>by
  have h3:Bytes w' (some ⟨b,off+p,none⟩) (part l p 4):=(Bytes.drop p h).take 4
  have:=zN _ _ (uf (l.take p)) (part l p 4) c2 (c-p) w' h2 h3
  rwa [hpl,lF]at this)
 have hdr:Below w.heap.size w w.drew:=kN w
 generalize hv:(uf (l.take p)==part l p 4)=v at*
 have ajN:=Lib.hid hdef
 clear hdef hv hlt hZ hsz hxt hp htl hpl
 go_enter Tryz.func107,Tryz.ntmps107
 go_wp2_with fail
 refine wp_region_held_drew (S:=fun w'=>Below w.heap.size w w') (by kernel_rfl) hdr (fun hS=> ?_)
 refine tq 0 hS ?_
 refine tq 1 hS ?_
 refine tq 2 hS ?_
 rw[HW.out]
 refine tp 3 rfl (fun w hSw=>by obtain⟨i1,i2,i3,i4,i5,i6,i7⟩:=HC.out;go_simp;all_goals(with_reducible rfl)) hS ?_
 refine tq 4 hS ?_
 refine tq 5 hS ?_
 refine tq 6 hS ?_
 rw[HW.out]
 refine tq 7 hS ?_
 refine tp 8 rfl (fun w hSw=>by obtain⟨i1,i2,i3,i4,i5,i6,i7⟩:=HC.out;go_simp;all_goals(with_reducible rfl)) hS ?_
 rw[HT4.out]
 refine tq 9 hS ?_
 refine tq 10 hS ?_
 refine wpAnyH_done (by kernel_rfl) ?_ _
 go_wp2_with fail
 refine(HS.out w.drew (HB.out.below hdr)).mono ?_
 rintro e w2 ⟨A2,c2,rfl,hc2,hm2,hB2,hb2⟩
 have g2:Below w.heap.size w w2:=hdr.trans (hb2.mono hdr.size)
 have Oh:=Lib.hid (HE.out A2 c2 w2 (HB.out.below g2) hB2)
 rw[yM.out]
 clear hB2 hb2 hc2
 go_wp2_with fail
 refine Oh.out.mono ?_
 rintro e w3 ⟨rfl,rfl⟩
 cases v with
 | false=>
  have HF:=Lib.hid (show fH l=([],4) by rw[ajN.out,if_pos rfl])
  go_wp2_with fail
  go_ret2
  exact iJ.err HF.out (by decide) g2
 | true=>
  have HF:=Lib.hid (show fH l=(l.take p,0) by rw[ajN.out,if_neg (by simp)])
  go_wp2_with fail
  go_ret2
  exact iJ.yes HF.out (by rw[HZ.out,HP.out]) g2
end Go.Proofs.YtgfpocdiojifoaaGreatDoor
