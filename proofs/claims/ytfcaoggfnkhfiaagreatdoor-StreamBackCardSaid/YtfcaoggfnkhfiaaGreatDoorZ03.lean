import Derived.Test.YtfcaoggfnkhfiaaGreatDoorZ02
import Derived.Deep.DeepCutAuto
import Derived.Lib.MinMax
import Derived.Deep.CutBlock
import Derived.Deep.RegionHeld3
namespace Go.Proofs.YtfcaoggfnkhfiaaGreatDoor
set_option maxRecDepth 100000
set_option maxHeartbeats 8000000
open Go.RowKit Go.Proofs.Tryz
variable{L l:List UInt8}{base cap g gj n:Nat}{S s:Rc.St}{v:Value}{w:World}
theorem iT.below{w':World}{o:Nat}{s:Rd.St}(h:iT w g o cap l s)(hb:Below w.heap.size w w'):iT w' g o cap l s:=by obtain⟨x,y,h1,h2⟩:=h;exact⟨x,y,h1,h2.below hb⟩
theorem IK(g o cap:Nat)(l:List UInt8)(x y pos:Nat)(out:Bool)(w:World)(hE:dA w g o cap l x y pos out):
  Calls prog 272 #[.pointer (some ⟨g,0,none⟩)] w fun e w'=>e= .returned (.bool out)∧w=w':=by
 have k4:=c54 hE.ay;go_enter func272,ntmps272;go_wp2_with fail;go_ret;exact⟨rfl,rfl⟩
theorem Lp(g o cap:Nat)(l:List UInt8)(s:Rd.St)(w:World)(hE:iT w g o cap l s):
  Calls prog 272 #[.pointer (some ⟨g,0,none⟩)] w fun e w'=>e= .returned (.bool s.out)∧w=w':=by
 obtain⟨x,y,_,hT⟩:=hE;exact IK g o cap l x y _ _ w hT
def aed(w:World)(g o cap:Nat)(l:List UInt8)(b:Bool)(s:Rd.St)(e:Ending)(w':World):Prop:=e= .returned (.int .i64 (de b))∧Ln w g o cap l s w'
theorem IL(g o cap:Nat)(l:List UInt8)(s:Rd.St)(p:Nat)(w:World)(hE:iT w g o cap l s)(hs:s.ok l)(hl:l.length≤140737488355328)(h1:1≤p)(h2:p≤2047):
  Calls prog 301 #[.pointer (some ⟨g,0,none⟩),.int .u16 (p:Nat)] w (aed w g o cap l (s.bit l p).1 (s.bit l p).2):=by
 obtain⟨x,y,Ar,hT⟩:=hE;obtain⟨pos,c,r,out⟩:=s;have hO:=ae (IK g o cap l x y pos out w hT);cases out with
 | true=>
  have hb:(Rd.St.bit l ⟨pos,c,r,true⟩ p)=(false,⟨pos,c,r,true⟩):=rfl;rw[hb];have rr:dA w g o cap l x y pos true:=hT;clear hT Ar hb hs;go_enter func301,ntmps301;go_wp2_with fail;refine hO.out.mono ?_;rintro e w' ⟨rfl,rfl⟩;go_wp2_with fail;go_ret;exact⟨rfl,⟨x,y,(fun h=>iR),rr⟩,aw.refl _ _⟩
 | false=>
  obtain rfl:c=x:=(Ar rfl).1.symm;obtain rfl:r=y:=(Ar rfl).2.symm;have rr:dA w g o cap l c r pos false:=hT;have hb:(Rd.St.bit l ⟨pos,c,r,false⟩ p)=(Rd.St.one ⟨pos,c,r,false⟩ p,Rd.scale l 2 (Rd.St.pick ⟨pos,c,r,false⟩ p)):=rfl;obtain⟨Vz,sf⟩:=Rd.St.kx hs rfl h1 h2;have aee:r<4294967296:=hs.1.2.2;have akY:c<4294967296:=hs.1.2.1;have hbd:=BM r p aee h2;have akO:r/2048*p≤r/2048*2047:=Nat.mul_le_mul_left _ h2;have k0:=P9 rr.ay;have k1:=c51 rr.ay;have f0:=frozen_of_row w g 0 _ _ rr.ay;have f1:=frozen_of_row w g 1 _ _ rr.ay;rw[hb];clear hb hT Ar hs;by_cases aH:r/2048*p≤c
  ·have oR:Rd.St.one ⟨pos,c,r,false⟩ p=true:=decide_eq_true aH;have EM:Rd.St.pick ⟨pos,c,r,false⟩ p=⟨pos,c-r/2048*p,r-r/2048*p,false⟩:=if_pos aH;rw[oR];rw[EM]at Vz sf ⊢;have Hu:r/2048*p≤r:=aa;clear oR EM;generalize r/2048*p=ky at*;have hn: ¬(c:Int)<(ky:Int):=aa;have e1:(c:Int)-(ky:Int)=((c-ky:Nat):Int):=aa;have e2:(r:Int)-(ky:Int)=((r-ky:Nat):Int):=aa
   have sh:dA ((w.setCell ⟨g,0,none⟩ (.int .u32 ((c-ky:Nat):Int))).setCell ⟨g,1,none⟩ (.int .u32 ((r-ky:Nat):Int))) g o cap l (c-ky) (r-ky) pos false:=
    ⟨s51 (ZL rr.ay _) _,d6 (d6 rr.own rr.ne _) rr.ne _,rr.ne,by simpa using rr.lt⟩
   have ug:=ae (m6 2 g o cap l ⟨pos,c-ky,r-ky,false⟩ _ ⟨_,_,(fun _=>⟨rfl,rfl⟩),sh⟩ Vz hl (fun _=>by show 16777216≤(r-ky)*256^2;have:8192≤r-ky:=sf;omega));have k1':=c51 (ZL rr.ay (.int .u32 ((c-ky:Nat):Int)));have f1':=frozen_of_row (w.setCell ⟨g,0,none⟩ (.int .u32 ((c-ky:Nat):Int))) g 1 _ _ (ZL rr.ay (.int .u32 ((c-ky:Nat):Int)));have Lq:c-ky<4294967296:=aa;have hrb:r-ky<4294967296:=aa;generalize c-ky=cb at*;generalize r-ky=rb at*;go_enter func301,ntmps301;go_wp2_with fail;refine hO.out.mono ?_;rintro e w' ⟨rfl,rfl⟩;go_wp2_with fail;refine ug.out.mono ?_;rintro e w1 ⟨rfl,MK,ci⟩;go_wp2_with fail;go_ret;exact⟨rfl,MK,((((aw.refl _ _).setCell (p:=⟨g,0,none⟩) (.inl ag) _).setCell (p:=⟨g,1,none⟩) (.inl ag) _).trans ci ag)⟩
  ·have oR:Rd.St.one ⟨pos,c,r,false⟩ p=false:=decide_eq_false aH;have EM:Rd.St.pick ⟨pos,c,r,false⟩ p=⟨pos,c,r/2048*p,false⟩:=if_neg aH;rw[oR];rw[EM]at Vz sf ⊢;clear oR EM;generalize r/2048*p=ky at*;have hn:(c:Int)<(ky:Int):=aa
   have sh:dA (w.setCell ⟨g,1,none⟩ (.int .u32 (ky:Nat))) g o cap l c ky pos false:=
    ⟨s51 rr.ay _,d6 rr.own rr.ne _,rr.ne,by simpa using rr.lt⟩
   have ug:=ae (m6 2 g o cap l ⟨pos,c,ky,false⟩ _ ⟨_,_,(fun _=>⟨rfl,rfl⟩),sh⟩ Vz hl (fun _=>by show 16777216≤ky*256^2;have:8192≤ky:=sf;omega));go_enter func301,ntmps301;go_wp2_with fail;refine hO.out.mono ?_;rintro e w' ⟨rfl,rfl⟩;go_wp2_with fail;refine ug.out.mono ?_;rintro e w1 ⟨rfl,MK,ci⟩;go_wp2_with fail;go_ret;exact⟨rfl,MK,((aw.refl _ _).setCell (p:=⟨g,1,none⟩) (.inl ag) _).trans ci ag⟩
def aef(w:World)(g o cap:Nat)(l:List UInt8)(b:Bool)(p:Nat)(s:Rd.St)(e:Ending)(w':World):Prop:=
 e= .returned (.tuple #[.int .i64 (de b),.int .u16 (p:Nat)])∧Ln w g o cap l s w'
theorem MR{b:Bool}{p:Nat}(h1:1≤p)(h2:p≤2047):((Rc.next p b:Nat):Int)=if b then(p:Int)-(p:Int)/32 else(p:Int)+(2048-(p:Int))/32:=by unfold Rc.next;cases b<;>simp<;>omega
theorem QU(g o cap:Nat)(l:List UInt8)(s:Rd.St)(c:BitVec 16)(n:Int)(w:World)(hE:iT w g o cap l s)(hs:s.ok l)(hl:l.length≤140737488355328):
  Calls prog 298 #[.pointer (some ⟨g,0,none⟩),.int .u16 c.toNat,.int .i64 n] w
   (aef w g o cap l (s.bit l (Rc.fair c.toNat)).1 (Rc.next (Rc.fair c.toNat) (s.bit l (Rc.fair c.toNat)).1) (s.bit l (Rc.fair c.toNat)).2):=by
 obtain⟨Fn,vo⟩:=Rc.lA c.toNat;have BK:=ae (IL g o cap l s (Rc.fair c.toNat) w hE hs hl Fn vo);have hc:=c.isLt;have mv:=MR (b:=(s.bit l (Rc.fair c.toNat)).1) Fn vo;generalize(s.bit l (Rc.fair c.toNat)).2=s' at*;generalize(s.bit l (Rc.fair c.toNat)).1=b at*;have BP:((Rc.fair c.toNat:Nat):Int)=if(c.toNat:Int)<1∨2048≤(c.toNat:Int)then 1024 else c.toNat:=by unfold Rc.fair;split<;>split<;>omega
 generalize Rc.fair c.toNat=p at*;have HF:=ae BP;generalize hN:Rc.next p b=nx at*;have HN:=ae mv;clear hE hs BP mv hN;by_cases h1:(c.toNat:Int)<1
 ·have hp0:p=1024:=by have:=HF.out;rw[if_pos (.inl h1)]at this;omega
  subst hp0;clear HF;cases b with
  | false=>
   have hn:(nx:Int)=1024+(2048-1024)/32:=HN.out;have nR:=ae hn;clear hn HN;go_enter func298,ntmps298;go_wp2_with fail;refine BK.out.mono ?_;rintro e w' ⟨rfl,wT⟩;rw[show de false=0 from rfl];go_wp2_with fail;go_ret2;exact⟨congrArg (fun n:Int=>Ending.returned (.tuple #[.int .i64 0,.int .u16 n])) nR.out.symm,wT⟩
  | true=>
   have hn:(nx:Int)=1024-1024/32:=HN.out;have nR:=ae hn;clear hn HN;go_enter func298,ntmps298;go_wp2_with fail;refine BK.out.mono ?_;rintro e w' ⟨rfl,wT⟩;rw[show de true=1 from rfl];go_wp2_with fail;go_ret2;exact⟨congrArg (fun n:Int=>Ending.returned (.tuple #[.int .i64 1,.int .u16 n])) nR.out.symm,wT⟩
 by_cases h2:2048≤(c.toNat:Int)
 ·have hp0:p=1024:=by have:=HF.out;rw[if_pos (.inr h2)]at this;omega
  subst hp0;clear HF;cases b with
  | false=>
   have hn:(nx:Int)=1024+(2048-1024)/32:=HN.out;have nR:=ae hn;clear hn HN;go_enter func298,ntmps298;go_wp2_with fail;refine BK.out.mono ?_;rintro e w' ⟨rfl,wT⟩;rw[show de false=0 from rfl];go_wp2_with fail;go_ret2;exact⟨congrArg (fun n:Int=>Ending.returned (.tuple #[.int .i64 0,.int .u16 n])) nR.out.symm,wT⟩
  | true=>
   have hn:(nx:Int)=1024-1024/32:=HN.out;have nR:=ae hn;clear hn HN;go_enter func298,ntmps298;go_wp2_with fail;refine BK.out.mono ?_;rintro e w' ⟨rfl,wT⟩;rw[show de true=1 from rfl];go_wp2_with fail;go_ret2;exact⟨congrArg (fun n:Int=>Ending.returned (.tuple #[.int .i64 1,.int .u16 n])) nR.out.symm,wT⟩
 have hp0:p=c.toNat:=by have:=HF.out;rw[if_neg aa]at this;omega
 subst hp0;clear HF;cases b with
 | false=>
  have hn:(nx:Int)=(c.toNat:Int)+(2048-(c.toNat:Int))/32:=HN.out;have nR:=ae hn;clear hn HN;go_enter func298,ntmps298;go_wp2_with fail;refine BK.out.mono ?_;rintro e w' ⟨rfl,wT⟩;rw[show de false=0 from rfl];go_wp2_with fail;go_ret2;exact⟨congrArg (fun n:Int=>Ending.returned (.tuple #[.int .i64 0,.int .u16 n])) nR.out.symm,wT⟩
 | true=>
  have hn:(nx:Int)=(c.toNat:Int)-(c.toNat:Int)/32:=HN.out;have nR:=ae hn;clear hn HN;go_enter func298,ntmps298;go_wp2_with fail;refine BK.out.mono ?_;rintro e w' ⟨rfl,wT⟩;rw[show de true=1 from rfl];go_wp2_with fail;go_ret2;exact⟨congrArg (fun n:Int=>Ending.returned (.tuple #[.int .i64 1,.int .u16 n])) nR.out.symm,wT⟩
def akZ(w:World)(b:Bool)(e:Ending)(w':World):Prop:=e= .returned (.bool b)∧Below w.heap.size w w'
theorem QV(g o cap:Nat)(l:List UInt8)(s:Rd.St)(w:World)(hE:iT w g o cap l s):
  Calls prog 265 #[.pointer (some ⟨g,0,none⟩)] w (akZ w (s.done l)):=by
 obtain⟨x,y,Ar,rr⟩:=hE;obtain⟨pos,c,r,out⟩:=s;have hT:dA w g o cap l x y pos out:=rr;have hO:=ae (fun w' (h:dA w' g o cap l x y pos out)=>IK g o cap l x y pos out w' h);have k0:w.drew.cell? ⟨g,0,none⟩=some (.int .u32 (x:Nat)):=P9 hT.ay;have k2:w.drew.cell? ⟨g,2,none⟩=some (.slice (some ⟨o,0,none⟩) l.length cap):=c52 hT.ay;have k3:w.drew.cell? ⟨g,3,none⟩=some (.int .i64 (pos:Nat)):=c53 hT.ay;clear rr;cases out with
 | true=>
  rw[show Rd.St.done l ⟨pos,c,r,true⟩=false from rfl];clear Ar;generalize l.length=L at k2;go_enter func265,ntmps265;go_wp2_with fail;refine wp_region_held_drew (S:=fun w'=>w'.cell? ⟨g,0,none⟩=some (.int .u32 (x:Nat))∧w'.cell? ⟨g,2,none⟩=some (.slice (some ⟨o,0,none⟩) L cap)∧w'.cell? ⟨g,3,none⟩=some (.int .i64 (pos:Nat))) ai ⟨k0,k2,k3⟩ (fun hS=> ?_);refine af 0 hS (h:= ?_);refine aC 1 (fun K hK=> ?_);go_simp;refine(hO.out _ (hT.below (a8 _))).mono ?_;rintro e w2 ⟨rfl,rfl⟩;go_wp2_with fail;refine hK.out _ _ hS (fun _=> ?_);clear hK K;refine af 2 hS (h:=af 3 hS (h:=bi 4 hS (h:=bi 5 hS (h:=bi 6 hS (h:=bi 7 hS (h:=bi 8 hS (h:=bi 9 hS (h:=bi 10 hS (h:=bi 11 hS (h:=bi 12 hS (h:=bi 13 hS (h:= ?_))))))))))));refine af 14 hS (h:=af 15 hS (h:=bi 16 hS (h:=bi 17 hS (h:=bi 18 hS (h:=bi 19 hS (h:=bi 20 hS (h:=af 21 hS (h:=af 22 hS (h:= ?_)))))))));refine wpAnyH_done ai ?_ _;go_wp2_with fail;go_ret;exact⟨rfl,(Below.refl _ _).drew⟩
 | false=>
  obtain rfl:c=x:=(Ar rfl).1.symm;have hd:Rd.St.done l ⟨pos,c,r,false⟩=(pos==l.length&&c==0):=rfl;rw[hd];clear Ar hd;generalize l.length=L at k2 ⊢;by_cases hp:pos=L
  ·have AU:((pos:Int)==(L:Int))=true:=(by simp[hp]);by_cases hc:c=0;·have pW:((c:Int)==0)=true:=(by simp[hc]);rw[show(pos==L&&c==0)=true by simp[hp,hc]];clear hp hc;go_enter func265,ntmps265;go_wp2_with fail;refine wp_region_held_drew (S:=fun w'=>w'.cell? ⟨g,0,none⟩=some (.int .u32 (c:Nat))∧w'.cell? ⟨g,2,none⟩=some (.slice (some ⟨o,0,none⟩) L cap)∧w'.cell? ⟨g,3,none⟩=some (.int .i64 (pos:Nat))) ai ⟨k0,k2,k3⟩ (fun hS=> ?_);refine af 0 hS (h:= ?_);refine aC 1 (fun K hK=> ?_);go_simp;refine(hO.out _ (hT.below (a8 _))).mono ?_;rintro e w2 ⟨rfl,rfl⟩;go_wp2_with fail;refine hK.out _ _ hS (fun _=> ?_);clear hK K;refine af 2 hS (h:=af 3 hS (h:=af 4 hS (h:=af 5 hS (h:=af 6 hS (h:=aL 7 hS (h:=af 8 hS (h:=af 9 hS (h:=af 10 hS (h:=aL 11 hS (h:=af 12 hS (h:=af 13 hS (h:= ?_))))))))))));refine af 14 hS (h:=af 15 hS (h:=af 16 hS (h:=af 17 hS (h:=af 18 hS (h:=aL 19 hS (h:=af 20 hS (h:=af 21 hS (h:=af 22 hS (h:= ?_)))))))));refine wpAnyH_done ai ?_ _;go_wp2_with fail;go_ret;exact⟨rfl,(Below.refl _ _).drew⟩
   ·have pW:((c:Int)==0)=false:=beq_eq_false_iff_ne.2 aa;rw[show(pos==L&&c==0)=false by simp[hc]];clear hp hc;go_enter func265,ntmps265;go_wp2_with fail;refine wp_region_held_drew (S:=fun w'=>w'.cell? ⟨g,0,none⟩=some (.int .u32 (c:Nat))∧w'.cell? ⟨g,2,none⟩=some (.slice (some ⟨o,0,none⟩) L cap)∧w'.cell? ⟨g,3,none⟩=some (.int .i64 (pos:Nat))) ai ⟨k0,k2,k3⟩ (fun hS=> ?_);refine af 0 hS (h:= ?_);refine aC 1 (fun K hK=> ?_);go_simp;refine(hO.out _ (hT.below (a8 _))).mono ?_;rintro e w2 ⟨rfl,rfl⟩;go_wp2_with fail;refine hK.out _ _ hS (fun _=> ?_);clear hK K;refine af 2 hS (h:=af 3 hS (h:=af 4 hS (h:=af 5 hS (h:=af 6 hS (h:=aL 7 hS (h:=af 8 hS (h:=af 9 hS (h:=af 10 hS (h:=aL 11 hS (h:=af 12 hS (h:=af 13 hS (h:= ?_))))))))))));refine af 14 hS (h:=af 15 hS (h:=af 16 hS (h:=af 17 hS (h:=af 18 hS (h:=aL 19 hS (h:=af 20 hS (h:=af 21 hS (h:=af 22 hS (h:= ?_)))))))));refine wpAnyH_done ai ?_ _;go_wp2_with fail;go_ret;exact⟨rfl,(Below.refl _ _).drew⟩
  ·have AU:((pos:Int)==(L:Int))=false:=beq_eq_false_iff_ne.2 aa;rw[show(pos==L&&c==0)=false by simp[hp]];clear hp;go_enter func265,ntmps265;go_wp2_with fail;refine wp_region_held_drew (S:=fun w'=>w'.cell? ⟨g,0,none⟩=some (.int .u32 (c:Nat))∧w'.cell? ⟨g,2,none⟩=some (.slice (some ⟨o,0,none⟩) L cap)∧w'.cell? ⟨g,3,none⟩=some (.int .i64 (pos:Nat))) ai ⟨k0,k2,k3⟩ (fun hS=> ?_);refine af 0 hS (h:= ?_);refine aC 1 (fun K hK=> ?_);go_simp;refine(hO.out _ (hT.below (a8 _))).mono ?_;rintro e w2 ⟨rfl,rfl⟩;go_wp2_with fail;refine hK.out _ _ hS (fun _=> ?_);clear hK K;refine af 2 hS (h:=af 3 hS (h:=af 4 hS (h:=af 5 hS (h:=af 6 hS (h:=aL 7 hS (h:=af 8 hS (h:=af 9 hS (h:=af 10 hS (h:=aL 11 hS (h:=af 12 hS (h:=af 13 hS (h:= ?_))))))))))));refine af 14 hS (h:=af 15 hS (h:=bi 16 hS (h:=bi 17 hS (h:=bi 18 hS (h:=bi 19 hS (h:=bi 20 hS (h:=af 21 hS (h:=af 22 hS (h:= ?_)))))))));refine wpAnyH_done ai ?_ _;go_wp2_with fail;go_ret;exact⟨rfl,(Below.refl _ _).drew⟩
def aai(w:World)(g o cap:Nat)(l:List UInt8)(v:Nat)(s:Rd.St)(e:Ending)(w':World):Prop:=e= .returned (.int .u32 (v:Nat))∧Ln w g o cap l s w'
theorem Rd.St.Do{s:Rd.St}{m:Nat}(hnm:n≤m)(h:(s.rounds l n).2.out=true):s.plain l m=(0,(s.rounds l n).2):=by unfold Rd.St.plain;rw[Rd.St.II hnm h,if_pos h]
theorem Rd.St.Fs{s:Rd.St}(h:(s.rounds l n).2.out=false):s.plain l n=s.rounds l n:=by unfold Rd.St.plain;rw[if_neg dD]
theorem IM(g o cap:Nat)(l:List UInt8)(s:Rd.St)(u:BitVec 32)(n:Int)(w:World)(hE:iT w g o cap l s)(hs:s.ok l)(hl:l.length≤140737488355328):
  Calls prog 299 #[.pointer (some ⟨g,0,none⟩),.int .u32 u.toNat,.int .i64 n] w (aai w g o cap l (s.plain l (many n)).1 (s.plain l (many n)).2):=by
 go_enter func299,ntmps299;go_upto_region 2 with(fail)
 go_cut [10,11] (fun s10 s11 wx=>w=wx∧s10= .int .i64 ((many n:Nat):Int)∧s11= .int .i64 0);case first=>
  go_wp2_with fail
  all_goals
   go_meet;refine⟨rfl,congrArg (Value.int .i64) ?_,rfl⟩;unfold many;omega
 case rest=>
  obtain⟨rfl,rfl,rfl⟩:=hcut;have hm:many n≤32:=by unfold many;omega
  generalize many n=m at*;go_wp2_with fail;go_loopw [7,11] (fun vv i wr=> ∃t:Nat,t≤m∧vv= .int .u32 ((s.rounds l t).1:Nat)∧i= .int .i64 (t:Nat)∧iT wr g o cap l (s.rounds l t).2∧aw [g] w wr) (fun _ i _=>m-(intOf i).toNat);case atStart=>exact⟨0,aa,rfl,rfl,hE,aw.refl _ _⟩
  case round=>
   obtain⟨t,ht,rfl,rfl,hD,ci⟩:=hrel;obtain⟨QW,IP⟩:=Rd.St.uj hs t;clear hE;have hO:=ae (Lp g o cap l _ wr hD);by_cases my:(s.rounds l t).2.out=true
   ·have qp:=Rd.St.Do ht my;have At:=ae qp;rw[my]at hO;have fG:=ae my;generalize(s.rounds l t).2=q at*;generalize(s.rounds l t).1=v at*;clear qp my;by_cases aH:t<m;·have MJ:(t:Int)<m:=(by omega);go_wp2_with fail;refine hO.out.mono ?_;rintro e w' ⟨rfl,rfl⟩;go_wp2_with fail;go_ret;exact⟨by rw[At.out];rfl,by rw[At.out];exact hD,ci⟩
    ·have MJ: ¬(t:Int)<m:=(by omega);go_wp2_with fail;refine hO.out.mono ?_;rintro e w' ⟨rfl,rfl⟩;go_wp2_with fail;go_ret;exact⟨by rw[At.out];rfl,by rw[At.out];exact hD,ci⟩
   ·have Ft:(s.rounds l t).2.out=false:=(by simpa using my);rw[Ft]at hO;have oO:s.rounds l (t+1)=(2*(s.rounds l t).1+(if(s.rounds l t).2.r/2≤(s.rounds l t).2.c then 1 else 0),Rd.scale l 1 (s.rounds l t).2.half):=(by rw[Rd.St.rounds,if_neg my]);have HN:=ae oO;have HPI:=ae (fun h:t=m=>(h▸Rd.St.Fs Ft:s.plain l m=s.rounds l t));clear oO my;generalize hQ:s.rounds l t=Q at*;obtain⟨v,q⟩:=Q;simp only at HN QW IP hD Ft HPI;clear hQ;have my:=Ft;clear Ft;by_cases aH:t<m
    ·have MJ:(t:Int)<m:=(by omega);clear HPI;obtain⟨x,y,Ar,rr⟩:=hD;obtain⟨pos,c,r,out⟩:=q;simp only at my;subst my;obtain rfl:c=x:=(Ar rfl).1.symm;obtain rfl:r=y:=(Ar rfl).2.symm;obtain⟨Wv,hhr⟩:=Rd.St.mq QW rfl;have aee:r<4294967296:=QW.1.2.2;have akY:c<4294967296:=QW.1.2.1;have hT:dA wr g o cap l c r pos false:=rr;have ZN:Rd.St.half ⟨pos,c,r,false⟩=if r/2≤c then⟨pos,c-r/2,r/2,false⟩else⟨pos,c,r/2,false⟩:=rfl;simp only at HN;have wm:(r:Int)/2=((r/2:Nat):Int):=aa;have Fu:r/2<4294967296:=aa;have k0:=P9 hT.ay;have k1:=c51 hT.ay;have f1:=frozen_of_row wr g 1 _ _ hT.ay;generalize hrh:r/2=rh at*;have sh:dA (wr.setCell ⟨g,1,none⟩ (.int .u32 (rh:Nat))) g o cap l c rh pos false:=⟨s51 hT.ay _,d6 hT.own hT.ne _,hT.ne,by simpa using hT.lt⟩
     have jc:aw [g] w (wr.setCell ⟨g,1,none⟩ (.int .u32 (rh:Nat))):=ci.setCell (.inl ag) _;generalize ZM:wr.setCell ⟨g,1,none⟩ (.int .u32 (rh:Nat))=w1 at*;have oQ:=ae ZM;have HHF:=ae ZN;clear ZM Ar rr hrh QW ZN;have q0:w1.drew.cell? ⟨g,0,none⟩=some (.int .u32 (c:Nat)):=P9 sh.ay;have q1:w1.drew.cell? ⟨g,1,none⟩=some (.int .u32 (rh:Nat)):=c51 sh.ay;have Qa:2*v<4294967296:=(by have:2^(t+1)≤2^32:=Nat.pow_le_pow_right aa aa;rw[Nat.pow_succ]at this;omega);have hvi:(v:Int)*2<4294967296:=aa;by_cases Wy:rh≤c
     ·have hhe:Rd.St.half ⟨pos,c,r,false⟩=⟨pos,c-rh,rh,false⟩:=(by rw[HHF.out,if_pos Wy]);have pW:(rh:Int)≤(c:Int):=aa;rw[if_pos Wy,hhe]at HN;rw[hhe]at Wv hhr;have akQ:IntKind.u32.wrap ((c:Int)-(rh:Int))=((c-rh:Nat):Int):=eE;have hor:bits .or .u32 ((v:Int)*2) 1=((2*v+1:Nat):Int):=(by rw[show(v:Int)*2=((v*2:Nat):Int) by omega,show(1:Int)=((1:Nat):Int)from rfl,u32_or_nat _ _ aa aa];congr 1;have e1:v*2=v <<< 1:=(by rw[Nat.shiftLeft_eq]);rw[e1,←Nat.shiftLeft_add_eq_or_of_lt aa,Nat.shiftLeft_eq];omega);have Lq:c-rh<4294967296:=aa;generalize c-rh=cb at*;generalize hV2:2*v+1=v2 at*;have HV2:=ae hV2;clear hhe hV2;go_wp2_with fail;refine hO.out.mono ?_;rintro e w' ⟨rfl,rfl⟩;go_upto_region 8 with(fail)
      rw[oQ.out];clear k0 k1 f1 oQ hO;refine wp_region_held_drew (S:=fun w'=>w'.cell? ⟨g,0,none⟩=some (.int .u32 (c:Nat))∧w'.cell? ⟨g,1,none⟩=some (.int .u32 (rh:Nat))) ai ⟨q0,q1⟩ (fun hS=> ?_);refine af 0 hS (h:=af 1 hS (h:=af 2 hS (h:=aL 3 hS (h:=af 4 hS (h:=af 5 hS (h:=af 6 hS (h:=aL 7 hS (h:=af 8 hS (h:= ?_)))))))));refine wpAnyH_done ai ?_ _;have m7:=sh.below (a8 w1);have fV:=jc.drew;clear q0 q1 sh jc;generalize w1.drew=wd at*;go_upto_region 9 with(fail)
      have k0:wd.drew.cell? ⟨g,0,none⟩=some (.int .u32 (c:Nat)):=P9 m7.ay;have q1:wd.drew.cell? ⟨g,1,none⟩=some (.int .u32 (rh:Nat)):=c51 m7.ay;have f0:wd.drew.frozen? ⟨g,0,none⟩=false:=frozen_of_row wd.drew g 0 _ _ m7.ay;have aeh:dA (wd.setCell ⟨g,0,none⟩ (.int .u32 (cb:Nat))) g o cap l cb rh pos false:=⟨ZL m7.ay _,d6 m7.own m7.ne _,m7.ne,by simpa using m7.lt⟩
      have lh:=aeh.below (a8 _);have dK:aw [g] w (wd.setCell ⟨g,0,none⟩ (.int .u32 (cb:Nat))).drew:=(fV.setCell (.inl ag) _).drew;have hq:(wd.setCell ⟨g,0,none⟩ (.int .u32 (cb:Nat))).drew.cell? ⟨g,1,none⟩=some (.int .u32 (rh:Nat)):=c51 lh.ay;clear aeh;have ug:=ae (m6 1 g o cap l ⟨pos,cb,rh,false⟩ _ ⟨_,_,(fun _=>⟨rfl,rfl⟩),lh⟩ Wv hl (fun _=>CS));refine wp_region_held_drew (S:=fun w'=>w'.cell? ⟨g,1,none⟩=some (.int .u32 (rh:Nat))) ai q1 (fun hS=> ?_);refine af 0 hS (h:=af 1 hS (h:=af 2 hS (h:=af 4 hS (h:=af 5 hS (h:=af 6 hS (h:=aL 7 hS (h:= ?_)))))));refine aC 3 (fun K hK=> ?_);go_simp;refine hK.out _ _ hS (fun _=> ?_);clear hK K;refine af 8 hS (h:=af 9 hS (h:=af 10 hS (h:= ?_)));refine aC 11 (fun K hK=> ?_);go_simp;refine hK.out _ _ hq (fun _=> ?_);clear hK K;refine wpAnyH_done ai ?_ _;generalize(wd.setCell ⟨g,0,none⟩ (.int .u32 (cb:Nat))).drew=w3 at*;clear k0 q1 f0 hq m7 fV;go_wp2_with fail;refine ug.out.mono ?_;rintro e w4 ⟨rfl,hE4,jd⟩;go_wp2_with fail;go_roundw;case rel=>exact⟨t+1,aa,by rw[HN.out],congrArg (Value.int .i64) aa,by rw[HN.out];exact hE4,dK.trans jd ag⟩
      case measure=>simp[intOf]<;>omega
     ·have hhe:Rd.St.half ⟨pos,c,r,false⟩=⟨pos,c,rh,false⟩:=(by rw[HHF.out,if_neg Wy]);have pW: ¬(rh:Int)≤(c:Int):=aa;rw[if_neg Wy,hhe]at HN;rw[hhe]at Wv hhr;clear hhe;go_wp2_with fail;refine hO.out.mono ?_;rintro e w' ⟨rfl,rfl⟩;go_upto_region 8 with(fail)
      rw[oQ.out];clear k0 k1 f1 oQ hO;refine wp_region_held_drew (S:=fun w'=>w'.cell? ⟨g,0,none⟩=some (.int .u32 (c:Nat))∧w'.cell? ⟨g,1,none⟩=some (.int .u32 (rh:Nat))) ai ⟨q0,q1⟩ (fun hS=> ?_);refine af 0 hS (h:=af 1 hS (h:=af 2 hS (h:=aL 3 hS (h:=af 4 hS (h:=af 5 hS (h:=af 6 hS (h:=aL 7 hS (h:=af 8 hS (h:= ?_)))))))));refine wpAnyH_done ai ?_ _;have m7:=sh.below (a8 w1);have fV:=jc.drew;clear q0 q1 sh jc;generalize w1.drew=wd at*;have ug:=ae (m6 1 g o cap l ⟨pos,c,rh,false⟩ _ ⟨_,_,(fun _=>⟨rfl,rfl⟩),m7⟩ Wv hl (fun _=>CS));go_wp2_with fail;refine ug.out.mono ?_;rintro e w4 ⟨rfl,hE4,jd⟩;go_wp2_with fail;go_roundw;case rel=>exact⟨t+1,aa,by rw[HN.out];exact congrArg (Value.int .u32) aa,congrArg (Value.int .i64) aa,by rw[HN.out];exact hE4,fV.trans jd ag⟩
      case measure=>simp[intOf]<;>omega
    ·have MJ: ¬(t:Int)<m:=(by omega);have At:=ae (HPI.out aa);clear HPI HN;go_wp2_with fail;refine hO.out.mono ?_;rintro e w' ⟨rfl,rfl⟩;go_wp2_with fail;go_ret;exact⟨by rw[At.out];rfl,by rw[At.out];exact hD,ci⟩
def LJ(r:R4)(q:Int):Int:=r4 r.1 r.2.1 r.2.2.1 r.2.2.2 q.toNat
def iW(r:R4)(n k l d q:Int):Bool:=
 if k=1 then decide (2≤l∧l≤273∧1≤d∧d≤n∧d≤4294967295)
 else if k=2 then decide (0≤q∧q≤3∧LJ r q≤n∧((2≤l∧l≤273)∨(l=1∧q=0)))
 else decide (k=0)
def iF(r:R4)(k d q:Int):Int:=if k=1 then d else if k=2 then LJ r q else 0
theorem aaV{W1:World}{v0 v1 v2 v3 v4:Value}(fv:w.alloc (.cells #[v0,v1,v2,v3,v4] 183)=W1):W1.cell? ⟨w.heap.size,0,none⟩=some v0∧W1.cell? ⟨w.heap.size,1,none⟩=some v1∧W1.cell? ⟨w.heap.size,2,none⟩=some v2∧W1.cell? ⟨w.heap.size,3,none⟩=some v3∧W1.cell? ⟨w.heap.size,4,none⟩=some v4∧Below w.heap.size w W1:=by
 have hr:W1.heap[w.heap.size]? =some (.cells [v0,v1,v2,v3,v4].toArray 183 (0,0)):=by rw[←fv];exact heap_alloc_last _ _
 refine⟨?_,?_,?_,?_,?_,CY⟩<;>(rw[cell_of_row W1 _ _ _ _ _ hr];rfl)
def RU(k:Int)(b:UInt8)(l d q:Int):Value:=if k=0 then tS 0 b 0 0 0 else if k=1 then tS 1 0 l d 0 else tS 2 0 l 0 q
section
section
variable{w w':World}{C base:Nat}{lc lp pb st:Int}{r:R4}{P P':List Nat}{vR vP vP':Value}
end
end
def Jk(w:World)(l:List UInt8)(e:Ending)(w':World):Prop:= ∃v,e= .returned v∧Own w.heap.size w' v l∧Below w.heap.size w w'
def Ng(lw:Nat):List Value:=[.int .u8 (IntKind.u8.wrap ((lw:Int)/16777216)),.int .u8 (IntKind.u8.wrap ((lw:Int)/65536)),.int .u8 (IntKind.u8.wrap ((lw:Int)/256)),.int .u8 (IntKind.u8.wrap (lw:Int))]
theorem RV{lw:Nat}: ∀u∈Ng lw,u.oneCell'=true:=by intro u hu;simp[Ng]at hu;rcases hu with rfl | rfl | rfl | rfl<;>rfl
theorem Jl(v lw:Nat)(h:v%4294967296=lw):Ng lw=(Rc.be 4 v).map B8:=by have e:Rc.be 4 v=[UInt8.ofNat (v/256/256/256%256),UInt8.ofNat (v/256/256%256),UInt8.ofNat (v/256%256),UInt8.ofNat (v%256)]:=rfl;rw[e];simp only[Ng,List.map,B8,IntKind.wrap_u8',UInt8.toNat_ofNat'];congr 2<;>(try congr 2)<;>(try congr 2)<;>(try congr 2)<;>omega
theorem Xs(k v:Nat):Rc.be (1+k) (v/4294967296)++Rc.be 4 v=Rc.be (5+k) v:=by rw[show 5+k=(1+k)+4 by omega,Rc.QD (1+k) 4]
theorem Nh(h:w.ownsRow base 5 1 (.slice (some ⟨g,0,none⟩) n cap) n (l.map B8)):n=l.length∧Bytes w (some ⟨g,0,none⟩) l:=by
 have hn:n=l.length:=by have:=h.1;simp at this;omega
 subst hn;obtain⟨A,c,e,_,_,h3⟩:=Own.read (base:=base) (l:=l) h;injection e with e1 e2 e3;subst e1;exact⟨rfl,h3⟩
theorem Ni(g o cap:Nat)(s:Rc.St)(w:World)(hE:fH w g o cap s)(hk:1+s.k+4≤140737488355328):
  Calls prog 153 #[.pointer (some ⟨g,0,none⟩)] w (Jk w (Rc.be (5+s.k) s.v)):=by
 obtain⟨i,hi,kw,eQ,oC⟩:=info_parts oK;have c0:=xO hE.ay;have c2:=Fl hE.ay;have tT:g<w.heap.size:=block_lt_of_cell c0;have Nb:i.bytes*(1+s.k+4)≤281474976710656:=mW;have un:1+s.k+4≤maxLen:=fF;have i9:1≤1+s.k:=aa;obtain⟨hlen,hrB⟩:=Nh hE.own;have Z5:=Xs s.k s.v;have wP:=Jl s.v (s.v%4294967296) rfl;generalize hlb:Rc.be (1+s.k) (s.v/4294967296)=lb at*;generalize Rc.be (5+s.k) s.v=res at*;generalize Rc.be 4 s.v=l4 at*;generalize s.v%4294967296=lw at*;generalize 1+s.k=m at*;have kf:Value.slice (some ⟨o,0,none⟩) m cap= .slice (some ⟨o,0,none⟩) lb.length cap:=by rw[hlen]
 have oX:=ae hlen;have HJ:=ae Z5;have xF:=ae wP;have Xt:=ae kf;clear hlen Z5 wP hlb kf hE;have dw:([]:List UInt8).length+lb.length≤140737488355328:=by rw[←oX.out];simp;omega
 go_enter func153,ntmps153
 go_wp2_with (first
  | (refine wpList_make_own _ rfl _ _ 22 rfl w.heap.size 5 i (.int .u8 0) 1 underlying22 hi kw eQ _ _ _ (m+4) rfl rfl rfl Nb un (Nat.le_refl _) ?_;intro w1 d7 kz;have az:Below w.heap.size w w1:=ao (Below.refl _ _) kz (Nat.le_refl _) ag;have c01:=(az.cell (p:=⟨g,0,none⟩) tT).trans c0;have c21:=(az.cell (p:=⟨g,2,none⟩) tT).trans c2)
  | (at_builtin;refine ap rfl (.tmp 13) (.tmp 17) rfl w.heap.size _ _ [] rfl d7 (some ⟨o,0,none⟩) lb cap Xt.out (hrB.below az) dw az.size ?_;intro v2 w4 cY et;have bm:Below w.heap.size w w4:=ao az et az.size (fun g' hg'=>(Own.ax (l:=[]) d7 g' hg').1)))
 rw[List.nil_append]at cY;generalize hn:lb.length=n at*;unfold Own at cY;rw[hn]at cY;have hnm:m=n:=oX.out;obtain⟨gb,Xu,rfl,Ce,afd⟩:=World.ownsRow.form cY aa;have c04:=(bm.cell (p:=⟨g,0,none⟩) tT).trans c0;have qE:w4.drew.cell? ⟨g,0,none⟩=some (.int .u32 (lw:Int)):=c04;have alS:g<w4.heap.size:=Nat.lt_of_lt_of_le tT bm.size;have afe: ∀o:Obj,(w4.alloc o).drew.cell? ⟨g,0,none⟩=some (.int .u32 (lw:Int)):=fun o=>(World.cell?_alloc_lt w4 o ⟨g,0,none⟩ alS).trans c04;have X_:=World.ownsRow.alloc cY (.cells #[.int .u8 (IntKind.u8.wrap ((lw:Int)/16777216)),.int .u8 (IntKind.u8.wrap ((lw:Int)/65536)),.int .u8 (IntKind.u8.wrap ((lw:Int)/256)),.int .u8 (IntKind.u8.wrap (lw:Int))] 5);have vk:=World.news_of_block (heap_alloc_new w4 (.cells #[.int .u8 (IntKind.u8.wrap ((lw:Int)/16777216)),.int .u8 (IntKind.u8.wrap ((lw:Int)/65536)),.int .u8 (IntKind.u8.wrap ((lw:Int)/256)),.int .u8 (IntKind.u8.wrap (lw:Int))] 5));have Fc:n+4≤maxLen:=fF;have ZK:(n+4)*1≤140737488355328:=aa;have oq:w.heap.size≤(w4.alloc (.cells #[.int .u8 (IntKind.u8.wrap ((lw:Int)/16777216)),.int .u8 (IntKind.u8.wrap ((lw:Int)/65536)),.int .u8 (IntKind.u8.wrap ((lw:Int)/256)),.int .u8 (IntKind.u8.wrap (lw:Int))] 5)).drew.heap.size:=by have:=bm.size;show w.heap.size≤(w4.alloc _).heap.size;simp;omega
 have hHH:(w4.alloc (.cells #[.int .u8 (IntKind.u8.wrap ((lw:Int)/16777216)),.int .u8 (IntKind.u8.wrap ((lw:Int)/65536)),.int .u8 (IntKind.u8.wrap ((lw:Int)/256)),.int .u8 (IntKind.u8.wrap (lw:Int))] 5)).drew.heap.size=w4.heap.size+1:=by show(w4.alloc _).heap.size=_;simp
 have HH:=ae hHH;have hK: ∀w6:World,(w4.alloc (.cells #[.int .u8 (IntKind.u8.wrap ((lw:Int)/16777216)),.int .u8 (IntKind.u8.wrap ((lw:Int)/65536)),.int .u8 (IntKind.u8.wrap ((lw:Int)/256)),.int .u8 (IntKind.u8.wrap (lw:Int))] 5)).drew.grownBy w6 (Value.ownBlock (.slice (some ⟨gb,0,none⟩) n Xu))→w6.cell? ⟨g,0,none⟩=some (.int .u32 (lw:Int)):=by
  intro w6 h;refine(h.cell_far ⟨g,0,none⟩ ?_ ?_).trans (afe _);·show g<(w4.alloc _).heap.size;simp;omega
  ·simp[Value.ownBlock];omega
 have HK:=ae hK;have HNM:=ae hnm;have HN:=ae hn;clear hHH hK hn hnm d7 kz et c01 c21 c0 c2;refine wp_region_held_drew (S:=fun w'=>w'.cell? ⟨g,0,none⟩=some (.int .u32 (lw:Int))) ai qE (fun hS=> ?_);refine gK 0 (v:= ?vb0) ?yb0 hS ?_;case yb0=>intro w hSw;go_simp;all_goals(with_reducible rfl)
 refine dM ?_;refine gK 1 (v:= ?vb1) ?yb1 hS ?_;case yb1=>intro w hSw;go_simp;all_goals(with_reducible rfl)
 refine dM ?_;refine gK 2 (v:= ?vb2) ?yb2 hS ?_;case yb2=>intro w hSw;go_simp;all_goals(with_reducible rfl)
 refine dM ?_;refine gK 3 (v:= ?vb3) ?yb3 hS ?_;case yb3=>intro w hSw;go_simp;all_goals(with_reducible rfl)
 refine dM ?_;refine gK 4 (v:= ?vb4) ?yb4 hS ?_;case yb4=>intro w hSw;go_simp;all_goals(with_reducible rfl)
 refine dM ?_;refine gK 5 (v:= ?vb5) ?yb5 hS ?_;case yb5=>intro w hSw;go_simp;all_goals(with_reducible rfl)
 refine dM ?_;refine gK 6 (v:= ?vb6) ?yb6 hS ?_;case yb6=>intro w hSw;go_simp;all_goals(with_reducible rfl)
 refine dM ?_;refine gK 7 (v:= ?vb7) ?yb7 hS ?_;case yb7=>intro w hSw;go_simp;all_goals(with_reducible rfl)
 refine dM ?_;refine gK 8 (v:= ?vb8) ?yb8 hS ?_;case yb8=>intro w hSw;go_simp;all_goals(with_reducible rfl)
 refine dM ?_;refine gK 9 (v:= ?vb9) ?yb9 hS ?_;case yb9=>intro w hSw;go_simp;all_goals(with_reducible rfl)
 refine dM ?_;refine gK 10 (v:= ?aul) ?alT hS ?_;case alT=>intro w hSw;go_simp;all_goals(with_reducible rfl)
 refine dM ?_;refine gK 11 (v:= ?aum) ?alU hS ?_;case alU=>intro w hSw;go_simp;all_goals(with_reducible rfl)
 refine dM ?_;refine gK 12 (v:= ?aun) ?alV hS ?_;case alV=>intro w hSw;go_simp;all_goals(with_reducible rfl)
 refine dM ?_;refine gK 13 (v:= ?auo) ?alW hS ?_;case alW=>intro w hSw;go_simp;all_goals(with_reducible rfl)
 refine dM ?_;refine gK 14 (v:= ?aup) ?alX hS ?_;case alX=>intro w hSw;go_simp;all_goals(with_reducible rfl)
 refine dM ?_;refine gK 15 (v:= ?auq) ?alY hS ?_;case alY=>intro w hSw;go_simp;all_goals(with_reducible rfl)
 refine dM ?_;refine gK 16 (v:= ?aur) ?alZ hS ?_;case alZ=>intro w hSw;go_simp;all_goals(with_reducible rfl)
 refine dM ?_;refine gK 17 (v:= ?aus) ?al0 hS ?_;case al0=>intro w hSw;go_simp;all_goals(with_reducible rfl)
 refine dM ?_;refine gK 18 (v:= ?aut) ?al1 hS ?_;case al1=>intro w hSw;go_simp;all_goals(with_reducible rfl)
 refine dM ?_;refine gK 19 (v:= ?auu) ?al2 hS ?_;case al2=>intro w hSw;go_simp;all_goals(with_reducible rfl)
 refine dM ?_;refine gK 20 (v:= ?auv) ?al3 hS ?_;case al3=>intro w hSw;go_simp;all_goals(with_reducible rfl)
 refine dM ?_;refine gK 21 (v:= ?auw) ?al4 hS ?_;case al4=>intro w hSw;go_simp;all_goals(with_reducible rfl)
 refine dM ?_;refine gK 22 (v:= ?aux) ?al5 hS ?_;case al5=>intro w hSw;go_simp;all_goals(with_reducible rfl)
 refine dM ?_;refine gK 23 (v:= ?auy) ?al6 hS ?_;case al6=>intro w hSw;go_simp;all_goals(with_reducible rfl)
 refine dM ?_;refine wpAnyH_ready (rs:=[24]) ai ag ?_;refine AllReadyH.cons rfl (fun K hK=> ?_) AllReadyH.nil;go_simp;skip;refine hK.out _ _ (afe _) (fun aqr=> ?_);clear hK K;refine wpAnyH_ready (rs:=[25]) ai ag ?_;refine AllReadyH.cons rfl (fun K hK=> ?_) AllReadyH.nil;refine step_append_lies (P:=prog) _ rfl (.tmp 19) (.tmp 43) 22 rfl w.heap.size 5 i (.int .u8 0) 1 1 underlying22 hi kw eQ oC rfl ak (.slice (some ⟨gb,0,none⟩) n Xu) n _ rfl X_.drew ⟨w4.heap.size,0,none⟩ 4 4 (Ng lw) rfl rfl vk RV ak Fc ZK oq (w4.heap.size+1) HH.out ?_;intro g2 uf w6 aff AA _ _;have al7:=HK.out w6 AA;refine hK.out _ _ al7 (fun afg=> ?_);clear hK K;refine gK 26 (v:= ?auz) ?al8 afg ?_;case al8=>intro w hSw;go_simp;all_goals(with_reducible rfl)
 refine dM ?_;refine wpAnyH_done ai ?_ _;go_wp2_with fail;go_ret;refine⟨_,rfl,?_,?_⟩
 ·unfold Own;have hlr:res.length=n+4:=by have h4:=congrArg List.length xF.out;rw[←HJ.out,List.length_append,HN.out];simp[Ng]at h4;omega
  rw[hlr,←HJ.out,List.map_append,←xF.out];exact aff
 ·exact ao ((bm.alloc bm.size _).drew) AA oq (fun g' hg'=>by
   have:gb=g':=(by simpa [Value.ownBlock]using hg');omega)
section
def en(st k l:Int):Int:=
 if k=0 then(if st<4 then 0 else if st<10 then st-3 else st-6)
 else if k=1 then(if 7≤st then 10 else 7)
 else if 7≤st then 11 else if l=1 then 9 else 8
def ik(r:R4)(k d q:Int):R4:=
 if k=0 then r
 else if k=1 then(d,r.1,r.2.1,r.2.2.1)
 else if q=0 then r
 else if q=1 then(r.2.1,r.1,r.2.2.1,r.2.2.2)
 else if q=2 then(r.2.2.1,r.1,r.2.1,r.2.2.2)
 else(r.2.2.2,r.1,r.2.1,r.2.2.1)
section
variable{w w':World}{C base:Nat}{lc lp pb st:Int}{r:R4}{P P':List Nat}{vR vP vP':Value}
end
end

theorem Own.weaken(h:Own base w v l)(hb:gj≤base):Own gj w v l:=by
 rcases h with⟨h1,h2 | ⟨g,cap,cur,h2,h3,h4⟩⟩
 ·exact⟨h1,.inl h2⟩
 ·exact⟨h1,.inr ⟨g,cap,cur,h2,Nat.le_trans hb h3,h4⟩⟩
def fA(h:List UInt8)(back:Nat):Nat→List UInt8
 | 0=>h
 | n+1=>fA h back n++[(fA h back n).getD ((fA h back n).length-back) 0]
theorem eX(h:List UInt8)(back:Nat): ∀n,(fA h back n).length=h.length+n
 | 0=>rfl
 | n+1=>by unfold fA;rw[List.length_append,eX h back n];rfl
def jV(h:List UInt8)(k:Int)(b:UInt8)(l:Nat)(back:Nat):List UInt8:=if k=0 then h++[b]else fA h back l
theorem Cf(w:World)(x:UInt8):Bytes (w.alloc (.cells #[.int .u8 (x.toNat:Nat)] 5)) (some ⟨w.heap.size,0,none⟩) [x]:=by refine .inr ⟨_,_,rfl,ag,fun k hk=> ?_⟩;obtain rfl:k=0:=xr;rw[Nat.zero_add,cell_of_row _ _ _ _ _ _ (heap_alloc_last _ _)];rfl
def Rd.yK(l:List UInt8):Nat:=(l.getD 1 0).toNat*16777216+(l.getD 2 0).toNat*65536+(l.getD 3 0).toNat*256+(l.getD 4 0).toNat
def Rd.start(l:List UInt8):Rd.St:=⟨5,Rd.yK l,4294967295,false⟩
theorem Rd.SF(l:List UInt8):Rd.yK l<4294967296:=by have h1:=(l.getD 1 0).toNat_lt;have h2:=(l.getD 2 0).toNat_lt;have h3:=(l.getD 3 0).toNat_lt;have h4:=(l.getD 4 0).toNat_lt;unfold Rd.yK;omega
theorem Rd.SG(h:5≤l.length):(Rd.start l).ok l:=⟨⟨h,Rd.SF l,by show 4294967295<_;omega⟩,fun _=>by show 16777216≤4294967295;omega⟩
theorem yL(a b k:Nat)(hb:b<2^k):a*2^k ||| b=a*2^k+b:=by rw[←Nat.shiftLeft_eq,←Nat.shiftLeft_add_eq_or_of_lt hb]
theorem JH(a b c d:Nat)(ha:a<256)(hb:b<256)(hc:c<256)(hd:d<256):
  bits .or .u32 (bits .or .u32 (bits .or .u32 (IntKind.u32.wrap (IntKind.u32.wrap (a:Int)*16777216)) (IntKind.u32.wrap (IntKind.u32.wrap (b:Int)*65536))) (IntKind.u32.wrap (IntKind.u32.wrap (c:Int)*256))) (IntKind.u32.wrap (d:Int))=((a*16777216+b*65536+c*256+d:Nat):Int):=by
 have w0: ∀x:Nat,x<256→IntKind.u32.wrap (x:Int)=(x:Int):=fun x hx=>eE;rw[w0 a ha,w0 b hb,w0 c hc,w0 d hd];have e1:IntKind.u32.wrap ((a:Int)*16777216)=((a*16777216:Nat):Int):=eE;have e2:IntKind.u32.wrap ((b:Int)*65536)=((b*65536:Nat):Int):=eE;have e3:IntKind.u32.wrap ((c:Int)*256)=((c*256:Nat):Int):=eE;have o1:a*16777216 ||| b*65536=a*16777216+b*65536:=yL a (b*65536) 24 aa;have o2:(a*16777216+b*65536) ||| c*256=a*16777216+b*65536+c*256:=by have:=yL (a*256+b) (c*256) 16 aa;rw[show(a*256+b)*2^16=a*16777216+b*65536 by omega]at this;exact this
 have o3:(a*16777216+b*65536+c*256) ||| d=a*16777216+b*65536+c*256+d:=by have:=yL (a*65536+b*256+c) d 8 aa;rw[show(a*65536+b*256+c)*2^8=a*16777216+b*65536+c*256 by omega]at this;exact this
 rw[e1,e2,e3,u32_or_nat _ _ aa aa,o1,u32_or_nat _ _ aa aa,o2,u32_or_nat _ _ aa aa,o3]
def V'(w:World)(n:Int)(e:Ending)(w':World):Prop:=e= .returned (.tuple #[.pointer none,.int .i64 n])∧w=w'
def afX(w:World)(l:List UInt8)(e:Ending)(w':World):Prop:=
 ∃g o cap,e= .returned (.tuple #[.pointer (some ⟨g,0,none⟩),.int .i64 0])∧iT w' g o cap l (Rd.start l)∧Below w.heap.size w w'∧w.heap.size≤g∧w.heap.size≤o
theorem JI(A:Option Addr)(l:List UInt8)(c:Nat)(w:World)(h:l.length<5):
  Calls prog 263 #[.slice A l.length c] w (V' w 2):=by
 generalize l.length=L at*;have h':(L:Int)<5:=aa;go_enter func263,ntmps263;go_wp2_with fail;go_ret2;exact⟨rfl,rfl⟩
theorem Bytes.afY{A:Option Addr}(hB:Bytes w A l)(h:5≤l.length): ∃b off,A=some ⟨b,off,none⟩∧b<w.heap.size∧ ∀k,k<l.length→w.cell? ⟨b,off+k,none⟩=some (B8 (l.getD k 0)):=by obtain⟨b,off,rfl,hb,hc⟩:=hB.addr aa;refine⟨b,off,rfl,hb,fun k hk=> ?_⟩;rw[hc k hk];simp[List.getD,hk]
theorem SH(A:Option Addr)(l:List UInt8)(c:Nat)(w:World)(hB:Bytes w A l)(h:5≤l.length)(h0:l.getD 0 0≠0):
  Calls prog 263 #[.slice A l.length c] w (V' w 6):=by
 obtain⟨b,off,rfl,hb,hc⟩:=hB.afY h;have k0:=hc 0 aa;rw[Nat.add_zero]at k0;have dH:((l.getD 0 0).toNat:Int) !=0:=by rw[bne_iff_ne];intro he;exact h0 (UInt8.toNat_inj.1 (by simpa using he))
 generalize l.getD 0 0=b0 at*;generalize l.length=L at*;have h': ¬(L:Int)<5:=aa;have h5:0<L:=aa;have h6:((b0.toNat:Int)==0)=false:=by rw[beq_eq_false_iff_ne];exact bne_iff_ne.1 dH
 clear hc h0;go_enter func263,ntmps263;go_wp2_with fail;go_ret2;exact⟨rfl,rfl⟩
theorem NJ(A:Option Addr)(l:List UInt8)(c:Nat)(w:World)(hB:Bytes w A l)(h:5≤l.length)(hl:l.length≤140737488355328)(h0:l.getD 0 0=0):
  Calls prog 263 #[.slice A l.length c] w (afX w l):=by
 have NK:=hB;obtain⟨b,off,rfl,hb,hc⟩:=hB.afY h;have k0:=hc 0 aa;have k1:=hc 1 aa;have k2:=hc 2 aa;have k3:=hc 3 aa;have k4:=hc 4 aa;rw[Nat.add_zero,h0]at k0;have hcf:=JH _ _ _ _ (l.getD 1 0).toNat_lt (l.getD 2 0).toNat_lt (l.getD 3 0).toNat_lt (l.getD 4 0).toNat_lt;have BN:(l.getD 1 0).toNat*16777216+(l.getD 2 0).toNat*65536+(l.getD 3 0).toNat*256+(l.getD 4 0).toNat=Rd.yK l:=rfl;rw[BN]at hcf;clear BN;generalize l.getD 1 0=b1 at*;generalize l.getD 2 0=b2 at*;generalize l.getD 3 0=b3 at*;generalize l.getD 4 0=b4 at*;have HCF:=ae hcf;have Xt:Value.slice (some ⟨b,off,none⟩) l.length c= .slice (some ⟨b,off,none⟩) l.length c:=rfl;have dw:([]:List UInt8).length+l.length≤140737488355328:=by simpa using hl
 have hBd:Bytes w.drew (some ⟨b,off,none⟩) l:=NK;have HSR:=ae Xt;generalize hL:l.length=L at*;have HL:=ae hL;have h': ¬(L:Int)<5:=aa;have g0:0<L:=aa;have g1:1<L:=aa;have g2:2<L:=aa;have g3:3<L:=aa;have g4:4<L:=aa;have i1:(1:Int)<(L:Int):=aa;have i2:(2:Int)<(L:Int):=aa;have i3:(3:Int)<(L:Int):=aa;have i4:(4:Int)<(L:Int):=aa;clear hc h0 hcf hL Xt hB;go_enter func263,ntmps263;go_wp2_with fail;refine wp_region_held_drew (S:=fun w'=>w'.cell? ⟨b,off+1,none⟩=some (B8 b1)∧w'.cell? ⟨b,off+2,none⟩=some (B8 b2)∧w'.cell? ⟨b,off+3,none⟩=some (B8 b3)∧w'.cell? ⟨b,off+4,none⟩=some (B8 b4)) ai ⟨k1,k2,k3,k4⟩ (fun hS=> ?_);refine af 0 hS (h:=af 1 hS (h:=aL 2 hS (h:=af 3 hS (h:=af 4 hS (h:=af 5 hS (h:=af 6 hS (h:=aL 7 hS (h:=af 8 hS (h:=af 9 hS (h:=af 10 hS (h:=af 11 hS (h:= ?_))))))))))));refine af 12 hS (h:=aL 13 hS (h:=af 14 hS (h:=af 15 hS (h:=af 16 hS (h:=af 17 hS (h:=af 18 hS (h:=aL 19 hS (h:=af 20 hS (h:=af 21 hS (h:=af 22 hS (h:= ?_)))))))))));refine wpAnyH_done ai ?_ _;rw[HCF.out];have hsr:Value.slice (some ⟨b,off,none⟩) L c= .slice (some ⟨b,off,none⟩) l.length c:=by rw[HL.out]
 have HSR:=ae hsr;have ci:Own w.heap.size w.drew (.slice none 0 0) []:=Own.nil _ _;have VS:w.heap.size≤w.drew.heap.size:=Nat.le_refl _;have af0:([]:List UInt8).length+l.length≤140737488355328:=by rw[HL.out];exact dw
 have bw:Below w.heap.size w w.drew:=(Below.refl _ _).drew;generalize hC:Rd.yK l=C at*;have HC:=ae hC;clear hsr k0 k1 k2 k3 k4 HCF hC;generalize w.drew=wd at*;go_wp2_with (at_builtin;refine ap rfl (.const (.slice none 0 0)) (.tmp 35) rfl w.heap.size wd (.slice none 0 0) [] rfl ci (some ⟨b,off,none⟩) l c HSR.out hBd af0 VS ?_;intro v2 w4 cY et;have bm:Below w.heap.size w w4:=ao bw et VS (fun g' hg'=>by cases hg');rw[List.nil_append]at cY;unfold Own at cY;rw[HL.out]at cY;obtain⟨gb,Xu,rfl,Ce,afd⟩:=World.ownsRow.form cY g0)
 go_ret2;have dl:=bm.size;obtain⟨A2,c2,he,_,_,sj⟩:=Own.read (base:=w.heap.size) (l:=l) (by unfold Own;rw[HL.out];exact cY);injection he with he1 he2 Wm;subst he1;refine⟨w4.heap.size,gb,Xu,rfl,⟨C,4294967295,fun _=>⟨HC.out.symm,rfl⟩,?_,sj.alloc _,aa,av⟩,bm.alloc dl _,dl,Ce⟩;rw[HL.out];exact heap_alloc_new w4 _
namespace Rc
def bq(s S:St):Prop:=s.k≤S.k∧s.v*256^(S.k-s.k)≤S.v∧S.v+S.r≤(s.v+s.r)*256^(S.k-s.k)
theorem bq.refl(s:St):bq s s:=⟨Nat.le_refl _,ag,ag⟩
theorem bq.trans{a b c:St}(h:bq a b)(k:bq b c):bq a c:=by
 obtain⟨h1,h2,h3⟩:=h;obtain⟨k1,k2,k3⟩:=k;have e:256^(c.k-a.k)=256^(b.k-a.k)*256^(c.k-b.k):=by rw[←Nat.pow_add];congr 1;omega
 refine⟨aa,?_,?_⟩;·rw[e,←Nat.mul_assoc];exact Nat.le_trans (Nat.mul_le_mul_right _ h2) k2
 ·rw[e,←Nat.mul_assoc];exact Nat.le_trans k3 (Nat.mul_le_mul_right _ h3)
theorem Cn(s:St):bq s s.up:=by
 refine⟨by show s.k≤s.k+1;omega,?_,?_⟩;·show s.v*256^(s.k+1-s.k)≤s.v*256;rw[show s.k+1-s.k=1 by omega];omega
 ·show s.v*256+s.r*256≤(s.v+s.r)*256^(s.k+1-s.k);rw[show s.k+1-s.k=1 by omega];omega
theorem fc: ∀(N:Nat) (s:St),bq s (St.scale N s)
 | 0,s=>bq.refl s
 | N+1,s=>by
  rw[St.scale];split;·exact(Cn s).trans (fc N s.up)
  ·exact bq.refl s
theorem Ge(s:St)(p:Nat)(one:Bool)(h2:p≤2047):bq s (s.pick p one):=by
 have k2:s.r/2048*p≤s.r/2048*2047:=Nat.mul_le_mul_left _ h2;have hr:s.r/2048*2047≤s.r:=aa;unfold St.pick bq;cases one;·simp only[Bool.false_eq_true,if_false,Nat.sub_self,Nat.pow_zero,Nat.mul_one];omega
 ·simp only[if_true,Nat.sub_self,Nat.pow_zero,Nat.mul_one];omega
theorem pj(s:St)(one:Bool):bq s (s.half one):=by
 unfold St.half bq;cases one;·simp only[Bool.false_eq_true,if_false,Nat.sub_self,Nat.pow_zero,Nat.mul_one];omega
 ·simp only[if_true,Nat.sub_self,Nat.pow_zero,Nat.mul_one];omega
theorem yM(s:St)(c:Nat)(one:Bool):bq s (s.bit c one):=(Ge s _ one (lA c).2).trans (fc 2 _)
theorem sV(s:St): ∀(n x:Nat),bq s (s.plain x n)
 | 0,_=>bq.refl s
 | n+1,x=>((sV s n (x/2)).trans (pj _ _)).trans (fc 1 _)
def top(S:St)(k:Nat):Nat:=S.v/256^(S.k-k)
theorem bq.bounds{s S:St}(h:bq s S)(hr:0<S.r):s.v≤top S s.k∧top S s.k<s.v+s.r:=by obtain⟨h1,h2,h3⟩:=h;have hp:0<256^(S.k-s.k):=Nat.pos_of_ne_zero ag;unfold top;exact⟨(Nat.le_div_iff_mul_le hp).2 h2,(Nat.div_lt_iff_lt_mul hp).2 aa⟩
theorem SI(S:St)(k:Nat)(h:k<S.k):top S k=top S (k+1)/256:=by unfold top;rw[Nat.div_div_eq_div_mul,←Nat.pow_succ,show(S.k-(k+1)).succ=S.k-k by omega]
end Rc
def pk(S:Rc.St)(L:List UInt8):Prop:= ∀i (h:i<L.length),i<5+S.k→(L[i]).toNat=S.v/256^(4+S.k-i)%256
def fY(S:Rc.St)(L:List UInt8)(s:Rc.St)(d:Rd.St):Prop:=
 (5+s.k≤L.length→d=⟨5+s.k,Rc.top S s.k-s.v,s.r,false⟩)∧(¬5+s.k≤L.length→d.out=true)
theorem NL(hA:pk S L)(hS:0<S.r)(hI:Rc.bq s.up S)(hr:s.r<16777216)(ho:5+s.k≤L.length):
  fY S L s.up (Rd.next L ⟨5+s.k,Rc.top S s.k-s.v,s.r,false⟩):=by
 have hk:s.k+1≤S.k:=hI.1;obtain⟨b1,b2⟩:=((Rc.Cn s).trans hI).bounds hS;have ht:=Rc.SI S s.k aa;refine⟨fun hn=> ?_,fun hn=> ?_⟩
 ·have hn':5+(s.k+1)≤L.length:=hn;have aH:5+s.k<L.length:=aa;rw[Rd.sA (s:=⟨5+s.k,Rc.top S s.k-s.v,s.r,false⟩) aH];have hb:=hA (5+s.k) aH aa;have aD:(L[5+s.k]).toNat=Rc.top S (s.k+1)%256:=by rw[hb];unfold Rc.top;rw[show 4+S.k-(5+s.k)=S.k-(s.k+1) by omega]
  show(⟨5+s.k+1,(256*(Rc.top S s.k-s.v)+(L[5+s.k]).toNat)%4294967296,s.r*256,false⟩:Rd.St)=⟨5+(s.k+1),Rc.top S (s.k+1)-s.v*256,s.r*256,false⟩;rw[aD];generalize Rc.top S (s.k+1)=T at*;generalize Rc.top S s.k=U at*;have e:(256*(U-s.v)+T%256)%4294967296=T-s.v*256:=aa;rw[e];rfl
 ·have hn': ¬5+(s.k+1)≤L.length:=hn;rw[Rd.oP (s:=⟨5+s.k,Rc.top S s.k-s.v,s.r,false⟩) (by show ¬5+s.k<L.length;omega)]
theorem fZ(hA:pk S L)(hS:0<S.r): ∀(N:Nat) (s:Rc.St) (d:Rd.St),fY S L s d→Rc.bq (Rc.St.scale N s) S→fY S L (Rc.St.scale N s) (Rd.scale L N d)
 | 0,_,_,hF,_=>hF
 | N+1,s,d,hF,hI=>by
  by_cases hr:s.r<16777216
  ·rw[Rc.St.scale,if_pos hr]at hI ⊢;have Xx:Rc.bq s.up S:=(Rc.fc N s.up).trans hI;by_cases ho:5+s.k≤L.length;·rw[hF.1 ho,Rd.rp rfl hr];exact fZ hA hS N s.up _ (NL hA hS Xx hr ho) hI
   ·have hd:=hF.2 ho;rw[Rd.mr hd];have:=fZ hA hS N s.up d ⟨fun h=>absurd (show 5+(s.k+1)≤L.length from h) aa,fun _=>hd⟩ hI;rwa [Rd.mr hd]at this
  ·rw[Rc.St.scale,if_neg hr]at hI ⊢;by_cases ho:5+s.k≤L.length;·rw[hF.1 ho,Rd.uh (show ¬s.r<16777216 from hr)];exact⟨fun _=>rfl,fun h=>absurd ho h⟩
   ·have hd:=hF.2 ho;rw[Rd.mr hd];exact hF
theorem JJ(hA:pk S L)(hS:0<S.r){d:Rd.St}(c:Nat)(one:Bool)(hF:fY S L s d)(hI:Rc.bq (s.bit c one) S):
  fY S L (s.bit c one) (d.bit L (Rc.fair c)).2∧(5+(s.bit c one).k≤L.length→(d.bit L (Rc.fair c)).1=one):=by
 obtain⟨h1,h2⟩:=Rc.lA c;have hk:s.k≤(s.bit c one).k:=(Rc.yM s c one).1;by_cases ho:5+s.k≤L.length
 ·have hd:=hF.1 ho;subst hd;have DM:Rc.bq (s.pick (Rc.fair c) one) S:=(Rc.fc 2 _).trans hI;obtain⟨b1,b2⟩:=DM.bounds hS;have hb:Rd.St.bit L ⟨5+s.k,Rc.top S s.k-s.v,s.r,false⟩ (Rc.fair c)=(Rd.St.one ⟨5+s.k,Rc.top S s.k-s.v,s.r,false⟩ (Rc.fair c),Rd.scale L 2 (Rd.St.pick ⟨5+s.k,Rc.top S s.k-s.v,s.r,false⟩ (Rc.fair c))):=rfl;rw[hb];unfold Rc.St.bit at hI ⊢;generalize Rc.fair c=p at*;cases one with
  | true=>
   have b1':s.v+s.r/2048*p≤Rc.top S s.k:=b1;have hle:s.r/2048*p≤Rc.top S s.k-s.v:=aa;have e1:Rd.St.one ⟨5+s.k,Rc.top S s.k-s.v,s.r,false⟩ p=true:=decide_eq_true hle;have e2:Rd.St.pick ⟨5+s.k,Rc.top S s.k-s.v,s.r,false⟩ p=⟨5+s.k,Rc.top S s.k-s.v-s.r/2048*p,s.r-s.r/2048*p,false⟩:=if_pos hle;rw[e1,e2];refine⟨fZ hA hS 2 _ _ ⟨fun _=> ?_,fun h=>absurd ho h⟩ hI,fun _=>rfl⟩;show _=(⟨5+s.k,Rc.top S s.k-(s.v+s.r/2048*p),s.r-s.r/2048*p,false⟩:Rd.St);rw[Nat.sub_sub]
  | false=>
   have b2':Rc.top S s.k<s.v+s.r/2048*p:=b2;have b1':s.v≤Rc.top S s.k:=b1;have hle: ¬s.r/2048*p≤Rc.top S s.k-s.v:=aa;have e1:Rd.St.one ⟨5+s.k,Rc.top S s.k-s.v,s.r,false⟩ p=false:=decide_eq_false hle;have e2:Rd.St.pick ⟨5+s.k,Rc.top S s.k-s.v,s.r,false⟩ p=⟨5+s.k,Rc.top S s.k-s.v,s.r/2048*p,false⟩:=if_neg hle;rw[e1,e2];exact⟨fZ hA hS 2 _ _ ⟨fun _=>rfl,fun h=>absurd ho h⟩ hI,fun _=>rfl⟩
 ·have hd:=hF.2 ho;have hb:d.bit L (Rc.fair c)=(false,d):=by unfold Rd.St.bit;rw[if_pos hd]
  rw[hb];exact⟨⟨fun h=>absurd h aa,fun _=>hd⟩,fun h=>absurd h aa⟩
theorem qR(hA:pk S L)(hS:0<S.r){d:Rd.St}(hF:fY S L s d): ∀(n x:Nat),Rc.bq (s.plain x n) S→
  fY S L (s.plain x n) (d.rounds L n).2∧(5+(s.plain x n).k≤L.length→(d.rounds L n).1=x%2^n)
 | 0,x,_=>⟨hF,fun _=>by show 0=x%1;omega⟩
 | n+1,x,hI=>by
  have hIh:Rc.bq ((s.plain (x/2) n).half (x%2==1)) S:=(Rc.fc 1 _).trans hI;have DM:Rc.bq (s.plain (x/2) n) S:=(Rc.pj _ _).trans hIh;obtain⟨f1,f2⟩:=qR hA hS hF n (x/2) DM;have qp:s.plain x (n+1)=Rc.St.scale 1 ((s.plain (x/2) n).half (x%2==1)):=rfl;have hk:(s.plain (x/2) n).k≤(s.plain x (n+1)).k:=by rw[qp];exact((Rc.pj _ _).trans (Rc.fc 1 _)).1
  by_cases ho:5+(s.plain (x/2) n).k≤L.length
  ·have hq:=f1.1 ho;have hv:=f2 ho;have sj:d.rounds L (n+1)=(2*(d.rounds L n).1+(if(d.rounds L n).2.r/2≤(d.rounds L n).2.c then 1 else 0),Rd.scale L 1 (d.rounds L n).2.half):=(by rw[Rd.St.rounds,if_neg (by rw[hq];simp)]);rw[sj,qp];have ae1:x%2^(n+1)=2*(x/2%2^n)+x%2:=(by have h1:x%2^(n+1)/2=x/2%2^n:=(by rw[Nat.pow_succ,Nat.mul_comm,Nat.mod_mul_right_div_self]);have h2:x%2^(n+1)%2=x%2:=(by rw[Nat.pow_succ,Nat.mod_mul_left_mod]);omega);rw[ae1,hv,hq];rw[qp]at hI;obtain⟨b1,b2⟩:=hIh.bounds hS;generalize s.plain (x/2) n=q at*;by_cases hx:x%2=1;·have hxb:(x%2==1)=true:=(by simp[hx]);rw[hxb]at hI b1 b2 ⊢;have b1':q.v+q.r/2≤Rc.top S q.k:=b1;have hle:q.r/2≤Rc.top S q.k-q.v:=aa;have e2:Rd.St.half ⟨5+q.k,Rc.top S q.k-q.v,q.r,false⟩=⟨5+q.k,Rc.top S q.k-q.v-q.r/2,q.r/2,false⟩:=if_pos hle;refine⟨?_,fun _=>by show 2*_+(if q.r/2≤Rc.top S q.k-q.v then 1 else 0)=_;rw[if_pos hle,hx]⟩;show fY S L _ (Rd.scale L 1 (Rd.St.half ⟨5+q.k,Rc.top S q.k-q.v,q.r,false⟩));rw[e2];refine fZ hA hS 1 _ _ ⟨fun _=> ?_,fun h=>absurd ho h⟩ hI;show _=(⟨5+q.k,Rc.top S q.k-(q.v+q.r/2),q.r/2,false⟩:Rd.St);rw[Nat.sub_sub]
   ·have hxb:(x%2==1)=false:=(by simp[hx]);rw[hxb]at hI b1 b2 ⊢;have b1':q.v≤Rc.top S q.k:=b1;have b2':Rc.top S q.k<q.v+q.r/2:=b2;have hle: ¬q.r/2≤Rc.top S q.k-q.v:=aa;have e2:Rd.St.half ⟨5+q.k,Rc.top S q.k-q.v,q.r,false⟩=⟨5+q.k,Rc.top S q.k-q.v,q.r/2,false⟩:=if_neg hle;refine⟨?_,fun _=>by show 2*_+(if q.r/2≤Rc.top S q.k-q.v then 1 else 0)=_;rw[if_neg hle];omega⟩;show fY S L _ (Rd.scale L 1 (Rd.St.half ⟨5+q.k,Rc.top S q.k-q.v,q.r,false⟩));rw[e2];exact fZ hA hS 1 _ _ ⟨fun _=>rfl,fun h=>absurd ho h⟩ hI
  ·have hq:=f1.2 ho;have sj:d.rounds L (n+1)=d.rounds L n:=(by rw[Rd.St.rounds,if_pos hq]);rw[sj];exact⟨⟨fun h=>absurd h aa,fun _=>hq⟩,fun h=>absurd h aa⟩
theorem D1(hA:pk S L)(hS:0<S.r){d:Rd.St}(hF:fY S L s d)(n x:Nat)(hI:Rc.bq (s.plain x n) S):
  fY S L (s.plain x n) (d.plain L n).2∧(5+(s.plain x n).k≤L.length→(d.plain L n).1=x%2^n):=by
 obtain⟨f1,f2⟩:=qR hA hS hF n x hI;by_cases ho:5+(s.plain x n).k≤L.length
 ·have hq:=f1.1 ho;have hp:d.plain L n=d.rounds L n:=by unfold Rd.St.plain;rw[if_neg (by rw[hq];simp)]
  rw[hp];exact⟨f1,f2⟩
 ·have hq:=f1.2 ho;have hp:d.plain L n=(0,(d.rounds L n).2):=by unfold Rd.St.plain;rw[if_pos hq]
  rw[hp];exact⟨f1,fun h=>absurd h ho⟩
theorem D3(hA:pk S L)(bL:S.ok)(h5:5≤L.length):fY S L ML (Rd.start L):=by
 refine⟨fun _=> ?_,fun h=>absurd h5 h⟩;have hv:S.v<256^(4+S.k):=S.Fr bL;have hb: ∀i,1≤i→i≤4→(L.getD i 0).toNat=S.v/256^S.k/256^(4-i)%256:=by
  intro i h1 h4;have hg:L.getD i 0=L[i]'aa:=by simp[List.getD,show i<L.length by omega]
  rw[hg,hA i aa aa,Nat.div_div_eq_div_mul,←Nat.pow_add,show S.k+(4-i)=4+S.k-i by omega]
 have ht:S.v/256^S.k<4294967296:=by rw[Nat.div_lt_iff_lt_mul (Nat.pos_of_ne_zero ag)];rw[Nat.pow_add]at hv;exact hv
 show(⟨5,Rd.yK L,4294967295,false⟩:Rd.St)=⟨5+0,S.v/256^(S.k-0)-0,4294967295,false⟩;have e1:=hb 1 aa aa;have e2:=hb 2 aa aa;have e3:=hb 3 aa aa;have e4:=hb 4 aa aa;rw[Nat.sub_zero,Nat.sub_zero];unfold Rd.yK;rw[e1,e2,e3,e4];generalize S.v/256^S.k=T at*;simp only[show(4:Nat)-1=3 from rfl,show(4:Nat)-2=2 from rfl,show(4:Nat)-3=1 from rfl,show(4:Nat)-4=0 from rfl,show(256:Nat)^3=16777216 from rfl,show(256:Nat)^2=65536 from rfl,show(256:Nat)^1=256 from rfl,show(256:Nat)^0=1 from rfl];have e:T/16777216%256*16777216+T/65536%256*65536+T/256%256*256+T/1%256=T:=aa;rw[e]
theorem yN(S:Rc.St):pk S (Rc.be (5+S.k) S.v):=by intro i h h5;rw[Rc.R_ (5+S.k) S.v i h5,UInt8.toNat_ofNat',show 5+S.k-1-i=4+S.k-i by omega];omega
theorem JK(h:pk S L)(bL:S.ok)(hl:0<L.length):L.getD 0 0=0:=by
 have hg:L.getD 0 0=L[0]:=by simp[List.getD,hl]
 have hv:S.v<256^(4+S.k):=S.Fr bL;rw[hg];apply UInt8.toNat_inj.1;rw[h 0 hl aa,Nat.sub_zero,Nat.div_eq_of_lt hv];rfl

theorem qg{e:Nat}{xs:List Value}(h:w.ownsRow base e 1 v n xs)(hb:gj≤base):w.ownsRow gj e 1 v n xs:=by
 rcases h with⟨h1,h2 | ⟨g,cap,cur,h2,h3,h4⟩⟩
 ·exact⟨h1,.inl h2⟩
 ·exact⟨h1,.inr ⟨g,cap,cur,h2,aa,h4⟩⟩


end Go.Proofs.YtfcaoggfnkhfiaaGreatDoor
