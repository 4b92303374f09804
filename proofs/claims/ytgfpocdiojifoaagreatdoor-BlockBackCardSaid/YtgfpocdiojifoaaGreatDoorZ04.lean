import Derived.Test.YtgfpocdiojifoaaGreatDoorZ03
import Derived.Deep.DeepCutAuto
namespace Go.Proofs.YtgfpocdiojifoaaGreatDoor
set_option maxRecDepth 100000
set_option maxHeartbeats 8000000
open Go.RowKit
theorem ku.below{w w':World}{g o cap:Nat}{l:List UInt8}{s:Rd.St}(h:ku w g o cap l s)(hb:Below w.heap.size w w'):ku w' g o cap l s:=by
 obtain⟨x,y,h1,h2⟩:=h;exact⟨x,y,h1,h2.below hb⟩
theorem Nv(g o cap:Nat)(l:List UInt8)(x y pos:Nat)(out:Bool)(w:World)(hE:dZ w g o cap l x y pos out):
  Calls Tryz.prog 231 #[.pointer (some ⟨g,0,none⟩)] w fun e w'=>e= .returned (.bool out)∧w=w':=by
 have k4:=c54 hE.blk
 go_enter Tryz.func231,Tryz.ntmps231
 go_wp2_with fail
 go_ret
 exact⟨rfl,rfl⟩
theorem QB(g o cap:Nat)(l:List UInt8)(s:Rd.St)(w:World)(hE:ku w g o cap l s):
  Calls Tryz.prog 231 #[.pointer (some ⟨g,0,none⟩)] w fun e w'=>e= .returned (.bool s.out)∧w=w':=by
 obtain⟨x,y,_,hT⟩:=hE
 exact Nv g o cap l x y _ _ w hT
def ag7(w:World)(g o cap:Nat)(l:List UInt8)(b:Bool)(s:Rd.St)(e:Ending)(w':World):Prop:=e= .returned (.int .i64 (dK b))∧Moved w g o cap l s w'
theorem Nw(g o cap:Nat)(l:List UInt8)(s:Rd.St)(p:Nat)(w:World)(hE:ku w g o cap l s)(hs:s.ok l)(hl:l.length≤140737488355328)(h1:1≤p)(h2:p≤2047):
  Calls Tryz.prog 265 #[.pointer (some ⟨g,0,none⟩),.int .u16 (p:Nat)] w (ag7 w g o cap l (s.bit l p).1 (s.bit l p).2):=by
 obtain⟨x,y,hxy,hT⟩:=hE
 obtain⟨pos,c,r,out⟩:=s
 have hO:=Lib.hid (Nv g o cap l x y pos out w hT)
 cases out with
 | true=>
  have hb:(Rd.St.bit l ⟨pos,c,r,true⟩ p)=(false,⟨pos,c,r,true⟩):=rfl
  rw[hb]
  have hT0:dZ w g o cap l x y pos true:=hT
  clear hT hxy hb hs
  go_enter Tryz.func265,Tryz.ntmps265
  go_wp2_with fail
  refine hO.out.mono ?_
  rintro e w' ⟨rfl,rfl⟩
  go_wp2_with fail
  go_ret
  exact⟨rfl,⟨x,y,(fun h=>by cases h),hT0⟩,Only.refl _ _⟩
 | false=>
  obtain rfl:c=x:=(hxy rfl).1.symm
  obtain rfl:r=y:=(hxy rfl).2.symm
  have hT0:dZ w g o cap l c r pos false:=hT
  have hb:(Rd.St.bit l ⟨pos,c,r,false⟩ p)=(Rd.St.one ⟨pos,c,r,false⟩ p,Rd.scale l 2 (Rd.St.pick ⟨pos,c,r,false⟩ p)):=rfl
  obtain⟨hpf,hpr⟩:=Rd.St.kF hs rfl h1 h2
  have ag8:r<4294967296:=hs.1.2.2
  have hc32:c<4294967296:=hs.1.2.1
  have hbd:=F7 r p ag8 h2
  have akZ:r/2048*p≤r/2048*2047:=Nat.mul_le_mul_left _ h2
  have k0:=Vu hT0.blk
  have k1:=c51 hT0.blk
  have f0:=frozen_of_row w g 0 _ _ hT0.blk
  have f1:=frozen_of_row w g 1 _ _ hT0.blk
  rw[hb]
  clear hb hT hxy hs
  by_cases hlt:r/2048*p≤c
  ·have hone:Rd.St.one ⟨pos,c,r,false⟩ p=true:=decide_eq_true hlt
   have hpk:Rd.St.pick ⟨pos,c,r,false⟩ p=⟨pos,c-r/2048*p,r-r/2048*p,false⟩:=if_pos hlt
   rw[hone]
   rw[hpk]at hpf hpr ⊢
   have hbr:r/2048*p≤r:=by omega
   clear hone hpk
   generalize r/2048*p=bnd at*
   have hn: ¬(c:Int)<(bnd:Int):=by omega
   have e1:(c:Int)-(bnd:Int)=((c-bnd:Nat):Int):=by omega
   have e2:(r:Int)-(bnd:Int)=((r-bnd:Nat):Int):=by omega
   have hT1:dZ ((w.setCell ⟨g,0,none⟩ (.int .u32 ((c-bnd:Nat):Int))).setCell ⟨g,1,none⟩ (.int .u32 ((r-bnd:Nat):Int))) g o cap l (c-bnd) (r-bnd) pos false:=
    ⟨s51 (s50 hT0.blk _) _,fJ (fJ hT0.own hT0.ne _) hT0.ne _,hT0.ne,by simpa using hT0.lt⟩
   have hsh:=Lib.hid (qm 2 g o cap l ⟨pos,c-bnd,r-bnd,false⟩ _ ⟨_,_,(fun _=>⟨rfl,rfl⟩),hT1⟩ hpf hl (fun _=>by show 16777216≤(r-bnd)*256^2;have:8192≤r-bnd:=hpr;omega))
   have k1':=c51 (s50 hT0.blk (.int .u32 ((c-bnd:Nat):Int)))
   have f1':=frozen_of_row (w.setCell ⟨g,0,none⟩ (.int .u32 ((c-bnd:Nat):Int))) g 1 _ _ (s50 hT0.blk (.int .u32 ((c-bnd:Nat):Int)))
   have hcb:c-bnd<4294967296:=by omega
   have hrb:r-bnd<4294967296:=by omega
   generalize c-bnd=cb at*
   generalize r-bnd=rb at*
   go_enter Tryz.func265,Tryz.ntmps265
   go_wp2_with fail
   refine hO.out.mono ?_
   rintro e w' ⟨rfl,rfl⟩
   go_wp2_with fail
   refine hsh.out.mono ?_
   rintro e w1 ⟨rfl,hE2,hon⟩
   go_wp2_with fail
   go_ret
   exact⟨rfl,hE2,((((Only.refl _ _).setCell (p:=⟨g,0,none⟩) (.inl (by simp)) _).setCell (p:=⟨g,1,none⟩) (.inl (by simp)) _).trans hon (by simp))⟩
  ·have hone:Rd.St.one ⟨pos,c,r,false⟩ p=false:=decide_eq_false hlt
   have hpk:Rd.St.pick ⟨pos,c,r,false⟩ p=⟨pos,c,r/2048*p,false⟩:=if_neg hlt
   rw[hone]
   rw[hpk]at hpf hpr ⊢
   clear hone hpk
   generalize r/2048*p=bnd at*
   have hn:(c:Int)<(bnd:Int):=by omega
   have hT1:dZ (w.setCell ⟨g,1,none⟩ (.int .u32 (bnd:Nat))) g o cap l c bnd pos false:=
    ⟨s51 hT0.blk _,fJ hT0.own hT0.ne _,hT0.ne,by simpa using hT0.lt⟩
   have hsh:=Lib.hid (qm 2 g o cap l ⟨pos,c,bnd,false⟩ _ ⟨_,_,(fun _=>⟨rfl,rfl⟩),hT1⟩ hpf hl (fun _=>by show 16777216≤bnd*256^2;have:8192≤bnd:=hpr;omega))
   go_enter Tryz.func265,Tryz.ntmps265
   go_wp2_with fail
   refine hO.out.mono ?_
   rintro e w' ⟨rfl,rfl⟩
   go_wp2_with fail
   refine hsh.out.mono ?_
   rintro e w1 ⟨rfl,hE2,hon⟩
   go_wp2_with fail
   go_ret
   exact⟨rfl,hE2,((Only.refl _ _).setCell (p:=⟨g,1,none⟩) (.inl (by simp)) _).trans hon (by simp)⟩
def ag9(w:World)(g o cap:Nat)(l:List UInt8)(b:Bool)(p:Nat)(s:Rd.St)(e:Ending)(w':World):Prop:=
 e= .returned (.tuple #[.int .i64 (dK b),.int .u16 (p:Nat)])∧Moved w g o cap l s w'
theorem RS{b:Bool}{p:Nat}(h1:1≤p)(h2:p≤2047):((Rc.next p b:Nat):Int)=if b then(p:Int)-(p:Int)/32 else(p:Int)+(2048-(p:Int))/32:=by
 unfold Rc.next;cases b<;>simp<;>omega
theorem VY(g o cap:Nat)(l:List UInt8)(s:Rd.St)(c:BitVec 16)(n:Int)(w:World)(hE:ku w g o cap l s)(hs:s.ok l)(hl:l.length≤140737488355328):
  Calls Tryz.prog 262 #[.pointer (some ⟨g,0,none⟩),.int .u16 c.toNat,.int .i64 n] w
   (ag9 w g o cap l (s.bit l (Rc.fair c.toNat)).1 (Rc.next (Rc.fair c.toNat) (s.bit l (Rc.fair c.toNat)).1) (s.bit l (Rc.fair c.toNat)).2):=by
 obtain⟨hp1,hp2⟩:=Rc.kX c.toNat
 have hch:=Lib.hid (Nw g o cap l s (Rc.fair c.toNat) w hE hs hl hp1 hp2)
 have hc:=c.isLt
 have hnx:=RS (b:=(s.bit l (Rc.fair c.toNat)).1) hp1 hp2
 generalize(s.bit l (Rc.fair c.toNat)).2=s' at*
 generalize(s.bit l (Rc.fair c.toNat)).1=b at*
 have hfair:((Rc.fair c.toNat:Nat):Int)=if(c.toNat:Int)<1∨2048≤(c.toNat:Int)then 1024 else c.toNat:=by
  unfold Rc.fair;split<;>split<;>omega
 generalize Rc.fair c.toNat=p at*
 have HF:=Lib.hid hfair
 generalize hN:Rc.next p b=nx at*
 have HN:=Lib.hid hnx
 clear hE hs hfair hnx hN
 by_cases h1:(c.toNat:Int)<1
 ·have hp0:p=1024:=by have:=HF.out;rw[if_pos (.inl h1)]at this;omega
  subst hp0
  clear HF
  cases b with
  | false=>
   have hn:(nx:Int)=1024+(2048-1024)/32:=HN.out
   have rP:=Lib.hid hn
   clear hn HN
   go_enter Tryz.func262,Tryz.ntmps262
   go_wp2_with fail
   refine hch.out.mono ?_
   rintro e w' ⟨rfl,hmv⟩
   rw[show dK false=0 from rfl]
   go_wp2_with fail
   go_ret2
   exact⟨congrArg (fun n:Int=>Ending.returned (.tuple #[.int .i64 0,.int .u16 n])) rP.out.symm,hmv⟩
  | true=>
   have hn:(nx:Int)=1024-1024/32:=HN.out
   have rP:=Lib.hid hn
   clear hn HN
   go_enter Tryz.func262,Tryz.ntmps262
   go_wp2_with fail
   refine hch.out.mono ?_
   rintro e w' ⟨rfl,hmv⟩
   rw[show dK true=1 from rfl]
   go_wp2_with fail
   go_ret2
   exact⟨congrArg (fun n:Int=>Ending.returned (.tuple #[.int .i64 1,.int .u16 n])) rP.out.symm,hmv⟩
 by_cases h2:2048≤(c.toNat:Int)
 ·have hp0:p=1024:=by have:=HF.out;rw[if_pos (.inr h2)]at this;omega
  subst hp0
  clear HF
  cases b with
  | false=>
   have hn:(nx:Int)=1024+(2048-1024)/32:=HN.out
   have rP:=Lib.hid hn
   clear hn HN
   go_enter Tryz.func262,Tryz.ntmps262
   go_wp2_with fail
   refine hch.out.mono ?_
   rintro e w' ⟨rfl,hmv⟩
   rw[show dK false=0 from rfl]
   go_wp2_with fail
   go_ret2
   exact⟨congrArg (fun n:Int=>Ending.returned (.tuple #[.int .i64 0,.int .u16 n])) rP.out.symm,hmv⟩
  | true=>
   have hn:(nx:Int)=1024-1024/32:=HN.out
   have rP:=Lib.hid hn
   clear hn HN
   go_enter Tryz.func262,Tryz.ntmps262
   go_wp2_with fail
   refine hch.out.mono ?_
   rintro e w' ⟨rfl,hmv⟩
   rw[show dK true=1 from rfl]
   go_wp2_with fail
   go_ret2
   exact⟨congrArg (fun n:Int=>Ending.returned (.tuple #[.int .i64 1,.int .u16 n])) rP.out.symm,hmv⟩
 have hp0:p=c.toNat:=by have:=HF.out;rw[if_neg (by omega)]at this;omega
 subst hp0
 clear HF
 cases b with
 | false=>
  have hn:(nx:Int)=(c.toNat:Int)+(2048-(c.toNat:Int))/32:=HN.out
  have rP:=Lib.hid hn
  clear hn HN
  go_enter Tryz.func262,Tryz.ntmps262
  go_wp2_with fail
  refine hch.out.mono ?_
  rintro e w' ⟨rfl,hmv⟩
  rw[show dK false=0 from rfl]
  go_wp2_with fail
  go_ret2
  exact⟨congrArg (fun n:Int=>Ending.returned (.tuple #[.int .i64 0,.int .u16 n])) rP.out.symm,hmv⟩
 | true=>
  have hn:(nx:Int)=(c.toNat:Int)-(c.toNat:Int)/32:=HN.out
  have rP:=Lib.hid hn
  clear hn HN
  go_enter Tryz.func262,Tryz.ntmps262
  go_wp2_with fail
  refine hch.out.mono ?_
  rintro e w' ⟨rfl,hmv⟩
  rw[show dK true=1 from rfl]
  go_wp2_with fail
  go_ret2
  exact⟨congrArg (fun n:Int=>Ending.returned (.tuple #[.int .i64 1,.int .u16 n])) rP.out.symm,hmv⟩
def Says(w:World)(b:Bool)(e:Ending)(w':World):Prop:=e= .returned (.bool b)∧Below w.heap.size w w'
theorem VZ(g o cap:Nat)(l:List UInt8)(s:Rd.St)(w:World)(hE:ku w g o cap l s):
  Calls Tryz.prog 218 #[.pointer (some ⟨g,0,none⟩)] w (Says w (s.done l)):=by
 obtain⟨x,y,hxy,hT0⟩:=hE
 obtain⟨pos,c,r,out⟩:=s
 have hT:dZ w g o cap l x y pos out:=hT0
 have hO:=Lib.hid (fun w' (h:dZ w' g o cap l x y pos out)=>Nv g o cap l x y pos out w' h)
 have k0:w.drew.cell? ⟨g,0,none⟩=some (.int .u32 (x:Nat)):=Vu hT.blk
 have k2:w.drew.cell? ⟨g,2,none⟩=some (.slice (some ⟨o,0,none⟩) l.length cap):=c52 hT.blk
 have k3:w.drew.cell? ⟨g,3,none⟩=some (.int .i64 (pos:Nat)):=c53 hT.blk
 clear hT0
 cases out with
 | true=>
  rw[show Rd.St.done l ⟨pos,c,r,true⟩=false from rfl]
  clear hxy
  generalize l.length=L at k2
  go_enter Tryz.func218,Tryz.ntmps218
  go_wp2_with fail
  refine wp_region_held_drew (S:=fun w'=>w'.cell? ⟨g,0,none⟩=some (.int .u32 (x:Nat))∧w'.cell? ⟨g,2,none⟩=some (.slice (some ⟨o,0,none⟩) L cap)∧w'.cell? ⟨g,3,none⟩=some (.int .i64 (pos:Nat))) (by kernel_rfl) ⟨k0,k2,k3⟩ (fun hS=> ?_)
  refine tq 0 hS ?_
  refine tr 1 (fun K hK=> ?_)
  go_simp
  refine(hO.out _ (hT.below (aK _))).mono ?_
  rintro e w2 ⟨rfl,rfl⟩
  go_wp2_with fail
  refine hK.out _ _ hS (fun _=> ?_)
  clear hK K
  refine tq 2 hS ?_
  refine tq 3 hS ?_
  refine wpAnyH_take (i:=4) (oi:={dst:=some 7,op:=Op.move (Operand.tmp 0),type:=283,pos:= "rcdec.go:76",after:= #[{on:=3,ground:=Ground.guard}],guard:=some (3,true)}) (v:=undef) rfl (by kernel_rfl) (by kernel_rfl) (by kernel_rfl) (fun _ _ _ h=>h) (Or.inr ⟨by rfl,rfl⟩) hS ?_
  simp only[Act.put,List.setIfInBounds_toArray,List.set_cons_zero,List.set_cons_succ]
  refine wpAnyH_take (i:=5) (oi:={dst:=some 8,op:=Op.nilCheck (Operand.tmp 7),type:=0,pos:= "rcdec.go:76",after:= #[{on:=4,ground:=Ground.data},{on:=3,ground:=Ground.guard}],guard:=some (3,true)}) (v:=undef) rfl (by kernel_rfl) (by kernel_rfl) (by kernel_rfl) (fun _ _ _ h=>h) (Or.inr ⟨by rfl,rfl⟩) hS ?_
  simp only[Act.put,List.setIfInBounds_toArray,List.set_cons_zero,List.set_cons_succ]
  refine wpAnyH_take (i:=6) (oi:={dst:=some 9,op:=Op.fieldAddr 296 (Operand.tmp 8) 3,type:=0,pos:= "rcdec.go:76",after:= #[{on:=5,ground:=Ground.data},{on:=3,ground:=Ground.guard}],guard:=some (3,true)}) (v:=undef) rfl (by kernel_rfl) (by kernel_rfl) (by kernel_rfl) (fun _ _ _ h=>h) (Or.inr ⟨by rfl,rfl⟩) hS ?_
  simp only[Act.put,List.setIfInBounds_toArray,List.set_cons_zero,List.set_cons_succ]
  refine wpAnyH_take (i:=7) (oi:={dst:=some 10,op:=Op.load 3 (Operand.tmp 9),type:=3,pos:= "rcdec.go:76",after:= #[{on:=6,ground:=Ground.data},{on:=3,ground:=Ground.guard}],guard:=some (3,true)}) (v:=undef) rfl (by kernel_rfl) (by kernel_rfl) (by kernel_rfl) (fun _ _ _ h=>h) (Or.inr ⟨by rfl,rfl⟩) hS ?_
  simp only[Act.put,List.setIfInBounds_toArray,List.set_cons_zero,List.set_cons_succ]
  refine wpAnyH_take (i:=8) (oi:={dst:=some 11,op:=Op.move (Operand.tmp 0),type:=283,pos:= "rcdec.go:76",after:= #[{on:=3,ground:=Ground.guard}],guard:=some (3,true)}) (v:=undef) rfl (by kernel_rfl) (by kernel_rfl) (by kernel_rfl) (fun _ _ _ h=>h) (Or.inr ⟨by rfl,rfl⟩) hS ?_
  simp only[Act.put,List.setIfInBounds_toArray,List.set_cons_zero,List.set_cons_succ]
  refine wpAnyH_take (i:=9) (oi:={dst:=some 12,op:=Op.nilCheck (Operand.tmp 11),type:=0,pos:= "rcdec.go:76",after:= #[{on:=8,ground:=Ground.data},{on:=3,ground:=Ground.guard}],guard:=some (3,true)}) (v:=undef) rfl (by kernel_rfl) (by kernel_rfl) (by kernel_rfl) (fun _ _ _ h=>h) (Or.inr ⟨by rfl,rfl⟩) hS ?_
  simp only[Act.put,List.setIfInBounds_toArray,List.set_cons_zero,List.set_cons_succ]
  refine wpAnyH_take (i:=10) (oi:={dst:=some 13,op:=Op.fieldAddr 296 (Operand.tmp 12) 2,type:=0,pos:= "rcdec.go:76",after:= #[{on:=9,ground:=Ground.data},{on:=3,ground:=Ground.guard}],guard:=some (3,true)}) (v:=undef) rfl (by kernel_rfl) (by kernel_rfl) (by kernel_rfl) (fun _ _ _ h=>h) (Or.inr ⟨by rfl,rfl⟩) hS ?_
  simp only[Act.put,List.setIfInBounds_toArray,List.set_cons_zero,List.set_cons_succ]
  refine wpAnyH_take (i:=11) (oi:={dst:=some 14,op:=Op.load 22 (Operand.tmp 13),type:=22,pos:= "rcdec.go:76",after:= #[{on:=10,ground:=Ground.data},{on:=3,ground:=Ground.guard}],guard:=some (3,true)}) (v:=undef) rfl (by kernel_rfl) (by kernel_rfl) (by kernel_rfl) (fun _ _ _ h=>h) (Or.inr ⟨by rfl,rfl⟩) hS ?_
  simp only[Act.put,List.setIfInBounds_toArray,List.set_cons_zero,List.set_cons_succ]
  refine wpAnyH_take (i:=12) (oi:={dst:=some 15,op:=Op.call {callee:=Callee.builtin Builtin.len,args:= #[Operand.tmp 14],argTypes:= #[22]},type:=3,pos:= "rcdec.go:76",after:= #[{on:=11,ground:=Ground.data},{on:=3,ground:=Ground.guard}],guard:=some (3,true)}) (v:=undef) rfl (by kernel_rfl) (by kernel_rfl) (by kernel_rfl) (fun _ _ _ h=>h) (Or.inr ⟨by rfl,rfl⟩) hS ?_
  simp only[Act.put,List.setIfInBounds_toArray,List.set_cons_zero,List.set_cons_succ]
  refine wpAnyH_take (i:=13) (oi:={dst:=some 16,op:=Op.binOp BinOp.eql 3 (Operand.tmp 10) (Operand.tmp 15) 3,type:=4,pos:= "rcdec.go:76",after:= #[{on:=7,ground:=Ground.data},{on:=12,ground:=Ground.data},{on:=3,ground:=Ground.guard}],guard:=some (3,true)}) (v:=undef) rfl (by kernel_rfl) (by kernel_rfl) (by kernel_rfl) (fun _ _ _ h=>h) (Or.inr ⟨by rfl,rfl⟩) hS ?_
  simp only[Act.put,List.setIfInBounds_toArray,List.set_cons_zero,List.set_cons_succ]
  refine tq 14 hS ?_
  refine tq 15 hS ?_
  refine wpAnyH_take (i:=16) (oi:={dst:=some 19,op:=Op.move (Operand.tmp 0),type:=283,pos:= "rcdec.go:76",after:= #[{on:=15,ground:=Ground.guard}],guard:=some (15,true)}) (v:=undef) rfl (by kernel_rfl) (by kernel_rfl) (by kernel_rfl) (fun _ _ _ h=>h) (Or.inr ⟨by rfl,rfl⟩) hS ?_
  simp only[Act.put,List.setIfInBounds_toArray,List.set_cons_zero,List.set_cons_succ]
  refine wpAnyH_take (i:=17) (oi:={dst:=some 20,op:=Op.nilCheck (Operand.tmp 19),type:=0,pos:= "rcdec.go:76",after:= #[{on:=16,ground:=Ground.data},{on:=15,ground:=Ground.guard}],guard:=some (15,true)}) (v:=undef) rfl (by kernel_rfl) (by kernel_rfl) (by kernel_rfl) (fun _ _ _ h=>h) (Or.inr ⟨by rfl,rfl⟩) hS ?_
  simp only[Act.put,List.setIfInBounds_toArray,List.set_cons_zero,List.set_cons_succ]
  refine wpAnyH_take (i:=18) (oi:={dst:=some 21,op:=Op.fieldAddr 296 (Operand.tmp 20) 0,type:=0,pos:= "rcdec.go:76",after:= #[{on:=17,ground:=Ground.data},{on:=15,ground:=Ground.guard}],guard:=some (15,true)}) (v:=undef) rfl (by kernel_rfl) (by kernel_rfl) (by kernel_rfl) (fun _ _ _ h=>h) (Or.inr ⟨by rfl,rfl⟩) hS ?_
  simp only[Act.put,List.setIfInBounds_toArray,List.set_cons_zero,List.set_cons_succ]
  refine wpAnyH_take (i:=19) (oi:={dst:=some 22,op:=Op.load 24 (Operand.tmp 21),type:=24,pos:= "rcdec.go:76",after:= #[{on:=18,ground:=Ground.data},{on:=15,ground:=Ground.guard}],guard:=some (15,true)}) (v:=undef) rfl (by kernel_rfl) (by kernel_rfl) (by kernel_rfl) (fun _ _ _ h=>h) (Or.inr ⟨by rfl,rfl⟩) hS ?_
  simp only[Act.put,List.setIfInBounds_toArray,List.set_cons_zero,List.set_cons_succ]
  refine wpAnyH_take (i:=20) (oi:={dst:=some 23,op:=Op.binOp BinOp.eql 24 (Operand.tmp 22) (Operand.const (Value.int IntKind.u32 0)) 24,type:=4,pos:= "rcdec.go:76",after:= #[{on:=19,ground:=Ground.data},{on:=15,ground:=Ground.guard}],guard:=some (15,true)}) (v:=undef) rfl (by kernel_rfl) (by kernel_rfl) (by kernel_rfl) (fun _ _ _ h=>h) (Or.inr ⟨by rfl,rfl⟩) hS ?_
  simp only[Act.put,List.setIfInBounds_toArray,List.set_cons_zero,List.set_cons_succ]
  refine tq 21 hS ?_
  refine tq 22 hS ?_
  refine wpAnyH_done (by kernel_rfl) ?_ _
  go_wp2_with fail
  go_ret
  exact⟨rfl,(Below.refl _ _).drew⟩
 | false=>
  obtain rfl:c=x:=(hxy rfl).1.symm
  have hd:Rd.St.done l ⟨pos,c,r,false⟩=(pos==l.length&&c==0):=rfl
  rw[hd]
  clear hxy hd
  generalize l.length=L at k2 ⊢
  by_cases hp:pos=L
  ·have hpi:((pos:Int)==(L:Int))=true:=by simp[hp]
   by_cases hc:c=0
   ·have hci:((c:Int)==0)=true:=by simp[hc]
    rw[show(pos==L&&c==0)=true by simp[hp,hc]]
    clear hp hc
    go_enter Tryz.func218,Tryz.ntmps218
    go_wp2_with fail
    refine wp_region_held_drew (S:=fun w'=>w'.cell? ⟨g,0,none⟩=some (.int .u32 (c:Nat))∧w'.cell? ⟨g,2,none⟩=some (.slice (some ⟨o,0,none⟩) L cap)∧w'.cell? ⟨g,3,none⟩=some (.int .i64 (pos:Nat))) (by kernel_rfl) ⟨k0,k2,k3⟩ (fun hS=> ?_)
    refine tq 0 hS ?_
    refine tr 1 (fun K hK=> ?_)
    go_simp
    refine(hO.out _ (hT.below (aK _))).mono ?_
    rintro e w2 ⟨rfl,rfl⟩
    go_wp2_with fail
    refine hK.out _ _ hS (fun _=> ?_)
    clear hK K
    refine tq 2 hS ?_
    refine tq 3 hS ?_
    refine tq 4 hS ?_
    refine tq 5 hS ?_
    refine tq 6 hS ?_
    refine tp 7 rfl (fun w hSw=>by obtain⟨j0,j2,j3⟩:=hSw;go_simp;all_goals(with_reducible rfl)) hS ?_
    refine tq 8 hS ?_
    refine tq 9 hS ?_
    refine tq 10 hS ?_
    refine tp 11 rfl (fun w hSw=>by obtain⟨j0,j2,j3⟩:=hSw;go_simp;all_goals(with_reducible rfl)) hS ?_
    refine tq 12 hS ?_
    refine tq 13 hS ?_
    refine tq 14 hS ?_
    refine tq 15 hS ?_
    refine tq 16 hS ?_
    refine tq 17 hS ?_
    refine tq 18 hS ?_
    refine tp 19 rfl (fun w hSw=>by obtain⟨j0,j2,j3⟩:=hSw;go_simp;all_goals(with_reducible rfl)) hS ?_
    refine tq 20 hS ?_
    refine tq 21 hS ?_
    refine tq 22 hS ?_
    refine wpAnyH_done (by kernel_rfl) ?_ _
    go_wp2_with fail
    go_ret
    exact⟨rfl,(Below.refl _ _).drew⟩
   ·have hci:((c:Int)==0)=false:=beq_eq_false_iff_ne.2 (by omega)
    rw[show(pos==L&&c==0)=false by simp[hc]]
    clear hp hc
    go_enter Tryz.func218,Tryz.ntmps218
    go_wp2_with fail
    refine wp_region_held_drew (S:=fun w'=>w'.cell? ⟨g,0,none⟩=some (.int .u32 (c:Nat))∧w'.cell? ⟨g,2,none⟩=some (.slice (some ⟨o,0,none⟩) L cap)∧w'.cell? ⟨g,3,none⟩=some (.int .i64 (pos:Nat))) (by kernel_rfl) ⟨k0,k2,k3⟩ (fun hS=> ?_)
    refine tq 0 hS ?_
    refine tr 1 (fun K hK=> ?_)
    go_simp
    refine(hO.out _ (hT.below (aK _))).mono ?_
    rintro e w2 ⟨rfl,rfl⟩
    go_wp2_with fail
    refine hK.out _ _ hS (fun _=> ?_)
    clear hK K
    refine tq 2 hS ?_
    refine tq 3 hS ?_
    refine tq 4 hS ?_
    refine tq 5 hS ?_
    refine tq 6 hS ?_
    refine tp 7 rfl (fun w hSw=>by obtain⟨j0,j2,j3⟩:=hSw;go_simp;all_goals(with_reducible rfl)) hS ?_
    refine tq 8 hS ?_
    refine tq 9 hS ?_
    refine tq 10 hS ?_
    refine tp 11 rfl (fun w hSw=>by obtain⟨j0,j2,j3⟩:=hSw;go_simp;all_goals(with_reducible rfl)) hS ?_
    refine tq 12 hS ?_
    refine tq 13 hS ?_
    refine tq 14 hS ?_
    refine tq 15 hS ?_
    refine tq 16 hS ?_
    refine tq 17 hS ?_
    refine tq 18 hS ?_
    refine tp 19 rfl (fun w hSw=>by obtain⟨j0,j2,j3⟩:=hSw;go_simp;all_goals(with_reducible rfl)) hS ?_
    refine tq 20 hS ?_
    refine tq 21 hS ?_
    refine tq 22 hS ?_
    refine wpAnyH_done (by kernel_rfl) ?_ _
    go_wp2_with fail
    go_ret
    exact⟨rfl,(Below.refl _ _).drew⟩
  ·have hpi:((pos:Int)==(L:Int))=false:=beq_eq_false_iff_ne.2 (by omega)
   rw[show(pos==L&&c==0)=false by simp[hp]]
   clear hp
   go_enter Tryz.func218,Tryz.ntmps218
   go_wp2_with fail
   refine wp_region_held_drew (S:=fun w'=>w'.cell? ⟨g,0,none⟩=some (.int .u32 (c:Nat))∧w'.cell? ⟨g,2,none⟩=some (.slice (some ⟨o,0,none⟩) L cap)∧w'.cell? ⟨g,3,none⟩=some (.int .i64 (pos:Nat))) (by kernel_rfl) ⟨k0,k2,k3⟩ (fun hS=> ?_)
   refine tq 0 hS ?_
   refine tr 1 (fun K hK=> ?_)
   go_simp
   refine(hO.out _ (hT.below (aK _))).mono ?_
   rintro e w2 ⟨rfl,rfl⟩
   go_wp2_with fail
   refine hK.out _ _ hS (fun _=> ?_)
   clear hK K
   refine tq 2 hS ?_
   refine tq 3 hS ?_
   refine tq 4 hS ?_
   refine tq 5 hS ?_
   refine tq 6 hS ?_
   refine tp 7 rfl (fun w hSw=>by obtain⟨j0,j2,j3⟩:=hSw;go_simp;all_goals(with_reducible rfl)) hS ?_
   refine tq 8 hS ?_
   refine tq 9 hS ?_
   refine tq 10 hS ?_
   refine tp 11 rfl (fun w hSw=>by obtain⟨j0,j2,j3⟩:=hSw;go_simp;all_goals(with_reducible rfl)) hS ?_
   refine tq 12 hS ?_
   refine tq 13 hS ?_
   refine tq 14 hS ?_
   refine tq 15 hS ?_
   refine wpAnyH_take (i:=16) (oi:={dst:=some 19,op:=Op.move (Operand.tmp 0),type:=283,pos:= "rcdec.go:76",after:= #[{on:=15,ground:=Ground.guard}],guard:=some (15,true)}) (v:=undef) rfl (by kernel_rfl) (by kernel_rfl) (by kernel_rfl) (fun _ _ _ h=>h) (Or.inr ⟨by rfl,rfl⟩) hS ?_
   simp only[Act.put,List.setIfInBounds_toArray,List.set_cons_zero,List.set_cons_succ]
   refine wpAnyH_take (i:=17) (oi:={dst:=some 20,op:=Op.nilCheck (Operand.tmp 19),type:=0,pos:= "rcdec.go:76",after:= #[{on:=16,ground:=Ground.data},{on:=15,ground:=Ground.guard}],guard:=some (15,true)}) (v:=undef) rfl (by kernel_rfl) (by kernel_rfl) (by kernel_rfl) (fun _ _ _ h=>h) (Or.inr ⟨by rfl,rfl⟩) hS ?_
   simp only[Act.put,List.setIfInBounds_toArray,List.set_cons_zero,List.set_cons_succ]
   refine wpAnyH_take (i:=18) (oi:={dst:=some 21,op:=Op.fieldAddr 296 (Operand.tmp 20) 0,type:=0,pos:= "rcdec.go:76",after:= #[{on:=17,ground:=Ground.data},{on:=15,ground:=Ground.guard}],guard:=some (15,true)}) (v:=undef) rfl (by kernel_rfl) (by kernel_rfl) (by kernel_rfl) (fun _ _ _ h=>h) (Or.inr ⟨by rfl,rfl⟩) hS ?_
   simp only[Act.put,List.setIfInBounds_toArray,List.set_cons_zero,List.set_cons_succ]
   refine wpAnyH_take (i:=19) (oi:={dst:=some 22,op:=Op.load 24 (Operand.tmp 21),type:=24,pos:= "rcdec.go:76",after:= #[{on:=18,ground:=Ground.data},{on:=15,ground:=Ground.guard}],guard:=some (15,true)}) (v:=undef) rfl (by kernel_rfl) (by kernel_rfl) (by kernel_rfl) (fun _ _ _ h=>h) (Or.inr ⟨by rfl,rfl⟩) hS ?_
   simp only[Act.put,List.setIfInBounds_toArray,List.set_cons_zero,List.set_cons_succ]
   refine wpAnyH_take (i:=20) (oi:={dst:=some 23,op:=Op.binOp BinOp.eql 24 (Operand.tmp 22) (Operand.const (Value.int IntKind.u32 0)) 24,type:=4,pos:= "rcdec.go:76",after:= #[{on:=19,ground:=Ground.data},{on:=15,ground:=Ground.guard}],guard:=some (15,true)}) (v:=undef) rfl (by kernel_rfl) (by kernel_rfl) (by kernel_rfl) (fun _ _ _ h=>h) (Or.inr ⟨by rfl,rfl⟩) hS ?_
   simp only[Act.put,List.setIfInBounds_toArray,List.set_cons_zero,List.set_cons_succ]
   refine tq 21 hS ?_
   refine tq 22 hS ?_
   refine wpAnyH_done (by kernel_rfl) ?_ _
   go_wp2_with fail
   go_ret
   exact⟨rfl,(Below.refl _ _).drew⟩
def aej(w:World)(g o cap:Nat)(l:List UInt8)(v:Nat)(s:Rd.St)(e:Ending)(w':World):Prop:=e= .returned (.int .u32 (v:Nat))∧Moved w g o cap l s w'
theorem Rd.St.Ia{l:List UInt8}{s:Rd.St}{n m:Nat}(hnm:n≤m)(h:(s.rounds l n).2.out=true):s.plain l m=(0,(s.rounds l n).2):=by
 unfold Rd.St.plain;rw[Rd.St.Ns hnm h,if_pos h]
theorem Rd.St.JQ{l:List UInt8}{s:Rd.St}{n:Nat}(h:(s.rounds l n).2.out=false):s.plain l n=s.rounds l n:=by
 unfold Rd.St.plain;rw[if_neg (by simp[h])]
theorem Ny(g o cap:Nat)(l:List UInt8)(s:Rd.St)(u:BitVec 32)(n:Int)(w:World)(hE:ku w g o cap l s)(hs:s.ok l)(hl:l.length≤140737488355328):
  Calls Tryz.prog 263 #[.pointer (some ⟨g,0,none⟩),.int .u32 u.toNat,.int .i64 n] w (aej w g o cap l (s.plain l (many n)).1 (s.plain l (many n)).2):=by
 go_enter Tryz.func263,Tryz.ntmps263
 go_upto_region 2 with(fail)
 go_cut [10,11] (fun s10 s11 wx=>w=wx∧s10= .int .i64 ((many n:Nat):Int)∧s11= .int .i64 0)
 case first=>
  go_wp2_with fail
  all_goals
   go_meet
   refine⟨rfl,congrArg (Value.int .i64) ?_,rfl⟩
   unfold many
   omega
 case rest=>
  obtain⟨rfl,rfl,rfl⟩:=hcut
  have hm:many n≤32:=by unfold many;omega
  generalize many n=m at*
  go_wp2_with fail
  go_loopw [7,11] (fun vv i wr=> ∃t:Nat,t≤m∧vv= .int .u32 ((s.rounds l t).1:Nat)∧i= .int .i64 (t:Nat)∧ku wr g o cap l (s.rounds l t).2∧Only [g] w wr) (fun _ i _=>m-(intOf i).toNat)
  case atStart=>exact⟨0,by omega,rfl,rfl,hE,Only.refl _ _⟩
  case round=>
   obtain⟨t,ht,rfl,rfl,hD,hon⟩:=hrel
   obtain⟨V3,Nz⟩:=Rd.St.yQ hs t
   clear hE
   have hO:=Lib.hid (QB g o cap l _ wr hD)
   by_cases hout:(s.rounds l t).2.out=true
   ·have hpl:=Rd.St.Ia ht hout
    have Nc:=Lib.hid hpl
    rw[hout]at hO
    have iL:=Lib.hid hout
    generalize(s.rounds l t).2=q at*
    generalize(s.rounds l t).1=v at*
    clear hpl hout
    by_cases hlt:t<m
    ·have hlt':(t:Int)<m:=by omega
     go_wp2_with fail
     refine hO.out.mono ?_
     rintro e w' ⟨rfl,rfl⟩
     go_wp2_with fail
     go_ret
     exact⟨by rw[Nc.out];rfl,by rw[Nc.out];exact hD,hon⟩
    ·have hlt': ¬(t:Int)<m:=by omega
     go_wp2_with fail
     refine hO.out.mono ?_
     rintro e w' ⟨rfl,rfl⟩
     go_wp2_with fail
     go_ret
     exact⟨by rw[Nc.out];rfl,by rw[Nc.out];exact hD,hon⟩
   ·have JR:(s.rounds l t).2.out=false:=by simpa using hout
    rw[JR]at hO
    have hnext:s.rounds l (t+1)=(2*(s.rounds l t).1+(if(s.rounds l t).2.r/2≤(s.rounds l t).2.c then 1 else 0),Rd.scale l 1 (s.rounds l t).2.half):=by
     rw[Rd.St.rounds,if_neg hout]
    have HN:=Lib.hid hnext
    have HPI:=Lib.hid (fun h:t=m=>(h▸Rd.St.JQ JR:s.plain l m=s.rounds l t))
    clear hnext hout
    generalize hQ:s.rounds l t=Q at*
    obtain⟨v,q⟩:=Q
    simp only at HN V3 Nz hD JR HPI
    clear hQ
    have hout:=JR
    clear JR
    by_cases hlt:t<m
    ·have hlt':(t:Int)<m:=by omega
     clear HPI
     obtain⟨x,y,hxy,hT0⟩:=hD
     obtain⟨pos,c,r,out⟩:=q
     simp only at hout
     subst hout
     obtain rfl:c=x:=(hxy rfl).1.symm
     obtain rfl:r=y:=(hxy rfl).2.symm
     obtain⟨hhf,hhr⟩:=Rd.St.oZ V3 rfl
     have ag8:r<4294967296:=V3.1.2.2
     have hc32:c<4294967296:=V3.1.2.1
     have hT:dZ wr g o cap l c r pos false:=hT0
     have ada:Rd.St.half ⟨pos,c,r,false⟩=if r/2≤c then⟨pos,c-r/2,r/2,false⟩else⟨pos,c,r/2,false⟩:=rfl
     simp only at HN
     have hr2:(r:Int)/2=((r/2:Nat):Int):=by omega
     have hrl:r/2<4294967296:=by omega
     have k0:=Vu hT.blk
     have k1:=c51 hT.blk
     have f1:=frozen_of_row wr g 1 _ _ hT.blk
     generalize hrh:r/2=rh at*
     have hT1:dZ (wr.setCell ⟨g,1,none⟩ (.int .u32 (rh:Nat))) g o cap l c rh pos false:=⟨s51 hT.blk _,fJ hT.own hT.ne _,hT.ne,by simpa using hT.lt⟩
     have kG:Only [g] w (wr.setCell ⟨g,1,none⟩ (.int .u32 (rh:Nat))):=hon.setCell (.inl (by simp)) _
     generalize hw1:wr.setCell ⟨g,1,none⟩ (.int .u32 (rh:Nat))=w1 at*
     have HW1:=Lib.hid hw1
     have HHF:=Lib.hid ada
     clear hw1 hxy hT0 hrh V3 ada
     have q0:w1.drew.cell? ⟨g,0,none⟩=some (.int .u32 (c:Nat)):=Vu hT1.blk
     have q1:w1.drew.cell? ⟨g,1,none⟩=some (.int .u32 (rh:Nat)):=c51 hT1.blk
     have hv2:2*v<4294967296:=by
      have:2^(t+1)≤2^32:=Nat.pow_le_pow_right (by omega) (by omega)
      rw[Nat.pow_succ]at this;omega
     have hvi:(v:Int)*2<4294967296:=by omega
     by_cases hcr:rh≤c
     ·have hhe:Rd.St.half ⟨pos,c,r,false⟩=⟨pos,c-rh,rh,false⟩:=by rw[HHF.out,if_pos hcr]
      have hci:(rh:Int)≤(c:Int):=by omega
      rw[if_pos hcr,hhe]at HN
      rw[hhe]at hhf hhr
      have hsub:IntKind.u32.wrap ((c:Int)-(rh:Int))=((c-rh:Nat):Int):=by rw[IntKind.wrap_u32];omega
      have hor:bits .or .u32 ((v:Int)*2) 1=((2*v+1:Nat):Int):=by
       rw[show(v:Int)*2=((v*2:Nat):Int) by omega,show(1:Int)=((1:Nat):Int)from rfl,u32_or_nat _ _ (by omega) (by omega)]
       congr 1
       have e1:v*2=v <<< 1:=by rw[Nat.shiftLeft_eq]
       rw[e1,←Nat.shiftLeft_add_eq_or_of_lt (by omega),Nat.shiftLeft_eq];omega
      have hcb:c-rh<4294967296:=by omega
      generalize c-rh=cb at*
      generalize hV2:2*v+1=v2 at*
      have HV2:=Lib.hid hV2
      clear hhe hV2
      go_wp2_with fail
      refine hO.out.mono ?_
      rintro e w' ⟨rfl,rfl⟩
      go_upto_region 8 with(fail)
      rw[HW1.out]
      clear k0 k1 f1 HW1 hO
      refine wp_region_held_drew (S:=fun w'=>w'.cell? ⟨g,0,none⟩=some (.int .u32 (c:Nat))∧w'.cell? ⟨g,1,none⟩=some (.int .u32 (rh:Nat))) (by kernel_rfl) ⟨q0,q1⟩ (fun hS=> ?_)
      refine tq 0 hS ?_
      refine tq 1 hS ?_
      refine tq 2 hS ?_
      refine tp 3 rfl (fun w hSw=>by obtain⟨j0,j1⟩:=hSw;go_simp;all_goals(with_reducible rfl)) hS ?_
      refine tq 4 hS ?_
      refine tq 5 hS ?_
      refine tq 6 hS ?_
      refine tp 7 rfl (fun w hSw=>by obtain⟨j0,j1⟩:=hSw;go_simp;all_goals(with_reducible rfl)) hS ?_
      refine tq 8 hS ?_
      refine wpAnyH_done (by kernel_rfl) ?_ _
      have hT2:=hT1.below (aK w1)
      have iQ:=kG.drew
      clear q0 q1 hT1 kG
      generalize w1.drew=wd at*
      go_upto_region 9 with(fail)
      have k0:wd.drew.cell? ⟨g,0,none⟩=some (.int .u32 (c:Nat)):=Vu hT2.blk
      have q1:wd.drew.cell? ⟨g,1,none⟩=some (.int .u32 (rh:Nat)):=c51 hT2.blk
      have f0:wd.drew.frozen? ⟨g,0,none⟩=false:=frozen_of_row wd.drew g 0 _ _ hT2.blk
      have aha:dZ (wd.setCell ⟨g,0,none⟩ (.int .u32 (cb:Nat))) g o cap l cb rh pos false:=⟨s50 hT2.blk _,fJ hT2.own hT2.ne _,hT2.ne,by simpa using hT2.lt⟩
      have oU:=aha.below (aK _)
      have eU:Only [g] w (wd.setCell ⟨g,0,none⟩ (.int .u32 (cb:Nat))).drew:=(iQ.setCell (.inl (by simp)) _).drew
      have hq:(wd.setCell ⟨g,0,none⟩ (.int .u32 (cb:Nat))).drew.cell? ⟨g,1,none⟩=some (.int .u32 (rh:Nat)):=c51 oU.blk
      clear aha
      have hsh:=Lib.hid (qm 1 g o cap l ⟨pos,cb,rh,false⟩ _ ⟨_,_,(fun _=>⟨rfl,rfl⟩),oU⟩ hhf hl (fun _=>by show 16777216≤rh*256^1;have:8388608≤rh:=hhr;omega))
      refine wp_region_held_drew (S:=fun w'=>w'.cell? ⟨g,1,none⟩=some (.int .u32 (rh:Nat))) (by kernel_rfl) q1 (fun hS=> ?_)
      refine tq 0 hS ?_
      refine tq 1 hS ?_
      refine tq 2 hS ?_
      refine tq 4 hS ?_
      refine tq 5 hS ?_
      refine tq 6 hS ?_
      refine tp 7 rfl (fun w hSw=>by have j1:=hSw;go_simp;all_goals(with_reducible rfl)) hS ?_
      refine tr 3 (fun K hK=> ?_)
      go_simp
      refine hK.out _ _ hS (fun _=> ?_)
      clear hK K
      refine tq 8 hS ?_
      refine tq 9 hS ?_
      refine tq 10 hS ?_
      refine tr 11 (fun K hK=> ?_)
      go_simp
      refine hK.out _ _ hq (fun _=> ?_)
      clear hK K
      refine wpAnyH_done (by kernel_rfl) ?_ _
      generalize(wd.setCell ⟨g,0,none⟩ (.int .u32 (cb:Nat))).drew=w3 at*
      clear k0 q1 f0 hq hT2 iQ
      go_wp2_with fail
      refine hsh.out.mono ?_
      rintro e w4 ⟨rfl,hE4,kH⟩
      go_wp2_with fail
      go_roundw
      case rel=>exact⟨t+1,by omega,by rw[HN.out],congrArg (Value.int .i64) (by omega),by rw[HN.out];exact hE4,eU.trans kH (by simp)⟩
      case measure=>simp[intOf]<;>omega
     ·have hhe:Rd.St.half ⟨pos,c,r,false⟩=⟨pos,c,rh,false⟩:=by rw[HHF.out,if_neg hcr]
      have hci: ¬(rh:Int)≤(c:Int):=by omega
      rw[if_neg hcr,hhe]at HN
      rw[hhe]at hhf hhr
      clear hhe
      go_wp2_with fail
      refine hO.out.mono ?_
      rintro e w' ⟨rfl,rfl⟩
      go_upto_region 8 with(fail)
      rw[HW1.out]
      clear k0 k1 f1 HW1 hO
      refine wp_region_held_drew (S:=fun w'=>w'.cell? ⟨g,0,none⟩=some (.int .u32 (c:Nat))∧w'.cell? ⟨g,1,none⟩=some (.int .u32 (rh:Nat))) (by kernel_rfl) ⟨q0,q1⟩ (fun hS=> ?_)
      refine tq 0 hS ?_
      refine tq 1 hS ?_
      refine tq 2 hS ?_
      refine tp 3 rfl (fun w hSw=>by obtain⟨j0,j1⟩:=hSw;go_simp;all_goals(with_reducible rfl)) hS ?_
      refine tq 4 hS ?_
      refine tq 5 hS ?_
      refine tq 6 hS ?_
      refine tp 7 rfl (fun w hSw=>by obtain⟨j0,j1⟩:=hSw;go_simp;all_goals(with_reducible rfl)) hS ?_
      refine tq 8 hS ?_
      refine wpAnyH_done (by kernel_rfl) ?_ _
      have hT2:=hT1.below (aK w1)
      have iQ:=kG.drew
      clear q0 q1 hT1 kG
      generalize w1.drew=wd at*
      have hsh:=Lib.hid (qm 1 g o cap l ⟨pos,c,rh,false⟩ _ ⟨_,_,(fun _=>⟨rfl,rfl⟩),hT2⟩ hhf hl (fun _=>by show 16777216≤rh*256^1;have:8388608≤rh:=hhr;omega))
      go_wp2_with fail
      refine hsh.out.mono ?_
      rintro e w4 ⟨rfl,hE4,kH⟩
      go_wp2_with fail
      go_roundw
      case rel=>exact⟨t+1,by omega,by rw[HN.out];exact congrArg (Value.int .u32) (by omega),congrArg (Value.int .i64) (by omega),by rw[HN.out];exact hE4,iQ.trans kH (by simp)⟩
      case measure=>simp[intOf]<;>omega
    ·have hlt': ¬(t:Int)<m:=by omega
     have Nc:=Lib.hid (HPI.out (by omega))
     clear HPI HN
     go_wp2_with fail
     refine hO.out.mono ?_
     rintro e w' ⟨rfl,rfl⟩
     go_wp2_with fail
     go_ret
     exact⟨by rw[Nc.out];rfl,by rw[Nc.out];exact hD,hon⟩
end Go.Proofs.YtgfpocdiojifoaaGreatDoor
