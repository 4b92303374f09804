import Derived.Test.YtgfpocdiojifoaaGreatDoorZ35
import Derived.Deep.DeepCutAuto
namespace Go.Proofs.YtgfpocdiojifoaaGreatDoor
set_option maxRecDepth 100000
set_option maxHeartbeats 8000000
open Go.RowKit
def wM(p q:Int):Bool:=(decide (p= -1)||decide (1≤p))&&(decide (q= -1)||decide (0≤q))
def yD(d:Nat):Bool:=decide (aJ (aV d)=d)
structure gU where
 p:Int
 q:Int
 l:List bK
 d:Nat
def gU.ok(h:gU):Prop:= -9223372036854775808≤h.p∧h.p≤9223372036854775807∧ -9223372036854775808≤h.q∧h.q≤9223372036854775807∧h.d<4294967296
def jI(h:gU):Bool:=wM h.p h.q&&lu h.l&&yD h.d
abbrev G7(h:gU)(A:Option Addr)(c:Nat):Value:= .agg #[.int .i64 h.p,.int .i64 h.q,.slice A h.l.length c,.int .u32 (h.d:Nat)]
abbrev kV(h:gU)(A:Option Addr)(c:Nat):Obj:= .cells #[.int .i64 h.p,.int .i64 h.q,.slice A h.l.length c,.int .u32 (h.d:Nat)] 51
theorem vO(w:World)(h:gU)(A:Option Addr)(c:Nat):(w.alloc (kV h A c)).cell? ⟨w.heap.size,0,none⟩=some (.int .i64 h.p)∧(w.alloc (kV h A c)).cell? ⟨w.heap.size,1,none⟩=some (.int .i64 h.q)∧
  (w.alloc (kV h A c)).cell? ⟨w.heap.size,2,none⟩=some (.slice A h.l.length c)∧(w.alloc (kV h A c)).cell? ⟨w.heap.size,3,none⟩=some (.int .u32 (h.d:Nat)):=by
 refine⟨by simp,by simp,by simp,by simp⟩
theorem Py(h:gU)(hok:h.ok)(A:Option Addr)(c:Nat)(w:World)(hF0:gJ w A h.l)(hl:h.l.length≤20):
  Calls Tryz.prog 43 #[G7 h A c] w fun e w'=>e= .returned (.bool (jI h))∧Below w.heap.size w w':=by
 have HV:=Lib.hid (show jI h=(wM h.p h.q&&lu h.l&&yD h.d)from rfl)
 have hB0:Below w.heap.size w (w.alloc (kV h A c)):=(Below.refl _ _).alloc (Nat.le_refl _) _
 have hcs:=vO w h A c
 have hF:=hF0.below hB0
 have HM:=Lib.hid (fun w' (hf:gJ w' A h.l)=>yc A h.l c w' hf hl)
 obtain⟨p,q,l,d⟩:=h
 obtain⟨o1,o2,o3,o4,o5⟩: -9223372036854775808≤p∧p≤9223372036854775807∧ -9223372036854775808≤q∧q≤9223372036854775807∧d<4294967296:=hok
 have HCO:=Lib.hid (fun w'=>yx d o5 w')
 have HDI:=Lib.hid (fun w'=>kP (aV d) (uh d) w')
 have HDL:=ug (aV d)
 have HDB:=Lib.hid (show yD d=decide (aJ (aV d)=d)from rfl)
 simp only[kV]at hcs hB0 hF
 simp only at HV HM
 generalize jI ⟨p,q,l,d⟩=R at*
 generalize hBX:Obj.cells #[Value.int .i64 p,.int .i64 q,.slice A l.length c,.int .u32 (d:Nat)] 51=BX at*
 have HSB:=Lib.hid (show wM p q=((decide (p= -1)||decide (1≤p))&&(decide (q= -1)||decide (0≤q)))from rfl)
 have HB0:=Lib.hid hB0
 clear hB0
 generalize wM p q=sz at*
 have hsz:w.heap.size<(w.alloc BX).heap.size:=by simp
 have HC2:=Lib.hid (fun(w':World) (hb:Below (w.alloc BX).heap.size (w.alloc BX) w')=>(hb.cell (p:=⟨w.heap.size,2,none⟩) hsz).trans hcs.2.2.1)
 have HC3:=Lib.hid (fun(w':World) (hb:Below (w.alloc BX).heap.size (w.alloc BX) w')=>(hb.cell (p:=⟨w.heap.size,3,none⟩) hsz).trans hcs.2.2.2)
 obtain⟨k0,k1,_,_⟩:=hcs
 subst hBX
 go_enter Tryz.func43,Tryz.ntmps43
 go_upto_region 1 with fail
 go_cut [3]from 4 (fun s3 wx=>s3= .bool (decide (p= -1)||decide (1≤p))∧wx=w.alloc (.cells #[.int .i64 p,.int .i64 q,.slice A l.length c,.int .u32 (d:Nat)] 51))
 case first=>
  by_cases hp:p= -1
  ·subst hp
   go_wp2_with fail
   go_meet
   exact⟨rfl,rfl⟩
  ·by_cases hp1:1≤p
   ·have e:(decide (p= -1)||decide (1≤p))=true:=by simp[hp1]
    have Pz:=Lib.hid e
    clear e
    go_wp2_with fail
    go_meet
    exact⟨by rw[Pz.out],rfl⟩
   ·have e:(decide (p= -1)||decide (1≤p))=false:=by simp[hp,hp1]
    have Pz:=Lib.hid e
    clear e
    go_wp2_with fail
    go_meet
    exact⟨by rw[Pz.out,show(p== -1)=false by simp[hp]],rfl⟩
 case rest=>
 obtain⟨rfl,rfl⟩:=hcut
 generalize(decide (p= -1)||decide (1≤p))=b1 at*
 go_upto_region 2 with fail
 go_cut [3]from 4 (fun s3 wx=>s3= .bool sz∧wx=w.alloc (.cells #[.int .i64 p,.int .i64 q,.slice A l.length c,.int .u32 (d:Nat)] 51))
 case first=>
  cases b1 with
  | false=>
   have e:sz=false:=by rw[HSB.out,Bool.false_and]
   have Pz:=Lib.hid e
   clear e
   go_wp2_with fail
   go_meet
   exact⟨by rw[Pz.out],rfl⟩
  | true=>
   have HE:Hid (sz=(decide (q= -1)||decide (0≤q))):=Lib.hid (by rw[HSB.out,Bool.true_and])
   by_cases hq:q= -1
   ·subst hq
    have e:sz=true:=by rw[HE.out];rfl
    have Pz:=Lib.hid e
    clear e
    go_wp2_with fail
    go_meet
    exact⟨by rw[Pz.out],rfl⟩
   ·by_cases hq1:0≤q
    ·have e:sz=true:=by rw[HE.out];simp[hq1]
     have Pz:=Lib.hid e
     clear e
     go_wp2_with fail
     go_meet
     exact⟨by rw[Pz.out],rfl⟩
    ·have e:sz=false:=by rw[HE.out];simp[hq,hq1]
     have Pz:=Lib.hid e
     clear e
     go_wp2_with fail
     go_meet
     exact⟨by rw[Pz.out,show(q== -1)=false by simp[hq]],rfl⟩
 case rest=>
 obtain⟨rfl,rfl⟩:=hcut
 clear HSB k0 k1 hF0
 obtain⟨BX,hBX⟩: ∃BX,Obj.cells #[Value.int .i64 p,.int .i64 q,.slice A l.length c,.int .u32 (d:Nat)] 51=BX:=⟨_,rfl⟩
 rw[hBX]at HB0 hF HC2 HC3 ⊢
 have hdr:Below (w.alloc BX).heap.size (w.alloc BX) (w.alloc BX).drew:=kN _
 have hdw:=hdr
 clear hBX hsz o1 o2 o3 o4
 cases sz with
 | false=>
  have HF:Hid (R=false):=Lib.hid (by rw[HV.out];rfl)
  go_upto_region 3 with fail
  refine wp_region_held_drew (S:=fun w'=>Below (w.alloc BX).heap.size (w.alloc BX) w') (by kernel_rfl) hdr (fun hS=> ?_)
  refine tq 0 hS ?_
  refine tq 1 hS ?_
  refine wpAnyH_take (i:=2) (oi:={dst:=some 25,op:=Op.fieldAddr 51 (Operand.tmp 1) 2,type:=0,pos:= "header.go:68",after:= #[{on:=1,ground:=Ground.guard}],guard:=some (1,true)}) (v:=undef) rfl (by kernel_rfl) (by kernel_rfl) (by kernel_rfl) (fun _ _ _ h=>h) (Or.inr ⟨by rfl,rfl⟩) hS ?_
  simp only[Act.put,List.setIfInBounds_toArray,List.set_cons_zero,List.set_cons_succ]
  refine wpAnyH_take (i:=3) (oi:={dst:=some 26,op:=Op.load 23 (Operand.tmp 25),type:=23,pos:= "header.go:68",after:= #[{on:=2,ground:=Ground.data},{on:=1,ground:=Ground.guard}],guard:=some (1,true)}) (v:=undef) rfl (by kernel_rfl) (by kernel_rfl) (by kernel_rfl) (fun _ _ _ h=>h) (Or.inr ⟨by rfl,rfl⟩) hS ?_
  simp only[Act.put,List.setIfInBounds_toArray,List.set_cons_zero,List.set_cons_succ]
  refine wpAnyH_take (i:=4) (oi:={dst:=some 27,op:=Op.call {callee:=Callee.value (Operand.func 25),args:= #[Operand.tmp 26],argTypes:= #[23]},type:=4,pos:= "header.go:68",after:= #[{on:=3,ground:=Ground.data},{on:=1,ground:=Ground.chain},{on:=1,ground:=Ground.guard}],guard:=some (1,true)}) (v:=undef) rfl (by kernel_rfl) (by kernel_rfl) (by kernel_rfl) (fun _ _ _ h=>h) (Or.inr ⟨by rfl,rfl⟩) hS ?_
  simp only[Act.put,List.setIfInBounds_toArray,List.set_cons_zero,List.set_cons_succ]
  refine tq 5 hS ?_
  refine tq 6 hS ?_
  refine wpAnyH_take (i:=7) (oi:={dst:=some 30,op:=Op.fieldAddr 51 (Operand.tmp 1) 3,type:=0,pos:= "header.go:68",after:= #[{on:=6,ground:=Ground.guard}],guard:=some (6,true)}) (v:=undef) rfl (by kernel_rfl) (by kernel_rfl) (by kernel_rfl) (fun _ _ _ h=>h) (Or.inr ⟨by rfl,rfl⟩) hS ?_
  simp only[Act.put,List.setIfInBounds_toArray,List.set_cons_zero,List.set_cons_succ]
  refine wpAnyH_take (i:=8) (oi:={dst:=some 31,op:=Op.load 24 (Operand.tmp 30),type:=24,pos:= "header.go:68",after:= #[{on:=7,ground:=Ground.data},{on:=6,ground:=Ground.guard}],guard:=some (6,true)}) (v:=undef) rfl (by kernel_rfl) (by kernel_rfl) (by kernel_rfl) (fun _ _ _ h=>h) (Or.inr ⟨by rfl,rfl⟩) hS ?_
  simp only[Act.put,List.setIfInBounds_toArray,List.set_cons_zero,List.set_cons_succ]
  refine wpAnyH_take (i:=9) (oi:={dst:=some 32,op:=Op.call {callee:=Callee.value (Operand.func 17),args:= #[Operand.tmp 31],argTypes:= #[24]},type:=3,pos:= "header.go:68",after:= #[{on:=8,ground:=Ground.data},{on:=6,ground:=Ground.chain},{on:=6,ground:=Ground.guard}],guard:=some (6,true)}) (v:=undef) rfl (by kernel_rfl) (by kernel_rfl) (by kernel_rfl) (fun _ _ _ h=>h) (Or.inr ⟨by rfl,rfl⟩) hS ?_
  simp only[Act.put,List.setIfInBounds_toArray,List.set_cons_zero,List.set_cons_succ]
  refine wpAnyH_take (i:=10) (oi:={dst:=some 33,op:=Op.call {callee:=Callee.value (Operand.func 16),args:= #[Operand.tmp 32],argTypes:= #[3]},type:=24,pos:= "header.go:68",after:= #[{on:=9,ground:=Ground.data},{on:=9,ground:=Ground.chain},{on:=6,ground:=Ground.guard}],guard:=some (6,true)}) (v:=undef) rfl (by kernel_rfl) (by kernel_rfl) (by kernel_rfl) (fun _ _ _ h=>h) (Or.inr ⟨by rfl,rfl⟩) hS ?_
  simp only[Act.put,List.setIfInBounds_toArray,List.set_cons_zero,List.set_cons_succ]
  refine wpAnyH_take (i:=11) (oi:={dst:=some 34,op:=Op.fieldAddr 51 (Operand.tmp 1) 3,type:=0,pos:= "header.go:68",after:= #[{on:=6,ground:=Ground.guard}],guard:=some (6,true)}) (v:=undef) rfl (by kernel_rfl) (by kernel_rfl) (by kernel_rfl) (fun _ _ _ h=>h) (Or.inr ⟨by rfl,rfl⟩) hS ?_
  simp only[Act.put,List.setIfInBounds_toArray,List.set_cons_zero,List.set_cons_succ]
  refine wpAnyH_take (i:=12) (oi:={dst:=some 35,op:=Op.load 24 (Operand.tmp 34),type:=24,pos:= "header.go:68",after:= #[{on:=11,ground:=Ground.data},{on:=6,ground:=Ground.guard}],guard:=some (6,true)}) (v:=undef) rfl (by kernel_rfl) (by kernel_rfl) (by kernel_rfl) (fun _ _ _ h=>h) (Or.inr ⟨by rfl,rfl⟩) hS ?_
  simp only[Act.put,List.setIfInBounds_toArray,List.set_cons_zero,List.set_cons_succ]
  refine wpAnyH_take (i:=13) (oi:={dst:=some 36,op:=Op.binOp BinOp.eql 24 (Operand.tmp 33) (Operand.tmp 35) 24,type:=4,pos:= "header.go:68",after:= #[{on:=10,ground:=Ground.data},{on:=12,ground:=Ground.data},{on:=6,ground:=Ground.guard}],guard:=some (6,true)}) (v:=undef) rfl (by kernel_rfl) (by kernel_rfl) (by kernel_rfl) (fun _ _ _ h=>h) (Or.inr ⟨by rfl,rfl⟩) hS ?_
  simp only[Act.put,List.setIfInBounds_toArray,List.set_cons_zero,List.set_cons_succ]
  refine tq 14 hS ?_
  refine tq 15 hS ?_
  refine wpAnyH_done (by kernel_rfl) ?_ _
  go_wp2_with fail
  go_ret
  exact⟨by rw[HF.out];rfl,HB0.out.trans (hdr.mono HB0.out.size)⟩
 | true=>
  rw[Bool.true_and]at HV
  generalize lu l=m at*
  cases m with
  | false=>
   have HF:Hid (R=false):=Lib.hid (by rw[HV.out];rfl)
   go_upto_region 3 with fail
   refine wp_region_held_drew (S:=fun w'=>Below (w.alloc BX).heap.size (w.alloc BX) w') (by kernel_rfl) hdr (fun hS=> ?_)
   refine tq 0 hS ?_
   refine tq 1 hS ?_
   refine tq 2 hS ?_
   refine tp 3 rfl (fun w hSw=>by have j2:=HC2.out w hSw;go_simp;all_goals(with_reducible rfl)) hS ?_
   refine tr 4 (fun K hK=> ?_)
   go_simp
   refine(HM.out (w.alloc BX).drew (hF.below hdw)).mono ?_
   rintro e w1 ⟨rfl,hb1⟩
   have g1:Below (w.alloc BX).heap.size (w.alloc BX) w1:=hdr.trans (hb1.mono hdr.size)
   go_wp2_with fail
   refine hK.out _ _ g1 (fun _=> ?_)
   clear hK K
   refine tq 5 g1 ?_
   refine tq 6 g1 ?_
   refine wpAnyH_take (i:=7) (oi:={dst:=some 30,op:=Op.fieldAddr 51 (Operand.tmp 1) 3,type:=0,pos:= "header.go:68",after:= #[{on:=6,ground:=Ground.guard}],guard:=some (6,true)}) (v:=undef) rfl (by kernel_rfl) (by kernel_rfl) (by kernel_rfl) (fun _ _ _ h=>h) (Or.inr ⟨by rfl,rfl⟩) g1 ?_
   simp only[Act.put,List.setIfInBounds_toArray,List.set_cons_zero,List.set_cons_succ]
   refine wpAnyH_take (i:=8) (oi:={dst:=some 31,op:=Op.load 24 (Operand.tmp 30),type:=24,pos:= "header.go:68",after:= #[{on:=7,ground:=Ground.data},{on:=6,ground:=Ground.guard}],guard:=some (6,true)}) (v:=undef) rfl (by kernel_rfl) (by kernel_rfl) (by kernel_rfl) (fun _ _ _ h=>h) (Or.inr ⟨by rfl,rfl⟩) g1 ?_
   simp only[Act.put,List.setIfInBounds_toArray,List.set_cons_zero,List.set_cons_succ]
   refine wpAnyH_take (i:=9) (oi:={dst:=some 32,op:=Op.call {callee:=Callee.value (Operand.func 17),args:= #[Operand.tmp 31],argTypes:= #[24]},type:=3,pos:= "header.go:68",after:= #[{on:=8,ground:=Ground.data},{on:=6,ground:=Ground.chain},{on:=6,ground:=Ground.guard}],guard:=some (6,true)}) (v:=undef) rfl (by kernel_rfl) (by kernel_rfl) (by kernel_rfl) (fun _ _ _ h=>h) (Or.inr ⟨by rfl,rfl⟩) g1 ?_
   simp only[Act.put,List.setIfInBounds_toArray,List.set_cons_zero,List.set_cons_succ]
   refine wpAnyH_take (i:=10) (oi:={dst:=some 33,op:=Op.call {callee:=Callee.value (Operand.func 16),args:= #[Operand.tmp 32],argTypes:= #[3]},type:=24,pos:= "header.go:68",after:= #[{on:=9,ground:=Ground.data},{on:=9,ground:=Ground.chain},{on:=6,ground:=Ground.guard}],guard:=some (6,true)}) (v:=undef) rfl (by kernel_rfl) (by kernel_rfl) (by kernel_rfl) (fun _ _ _ h=>h) (Or.inr ⟨by rfl,rfl⟩) g1 ?_
   simp only[Act.put,List.setIfInBounds_toArray,List.set_cons_zero,List.set_cons_succ]
   refine wpAnyH_take (i:=11) (oi:={dst:=some 34,op:=Op.fieldAddr 51 (Operand.tmp 1) 3,type:=0,pos:= "header.go:68",after:= #[{on:=6,ground:=Ground.guard}],guard:=some (6,true)}) (v:=undef) rfl (by kernel_rfl) (by kernel_rfl) (by kernel_rfl) (fun _ _ _ h=>h) (Or.inr ⟨by rfl,rfl⟩) g1 ?_
   simp only[Act.put,List.setIfInBounds_toArray,List.set_cons_zero,List.set_cons_succ]
   refine wpAnyH_take (i:=12) (oi:={dst:=some 35,op:=Op.load 24 (Operand.tmp 34),type:=24,pos:= "header.go:68",after:= #[{on:=11,ground:=Ground.data},{on:=6,ground:=Ground.guard}],guard:=some (6,true)}) (v:=undef) rfl (by kernel_rfl) (by kernel_rfl) (by kernel_rfl) (fun _ _ _ h=>h) (Or.inr ⟨by rfl,rfl⟩) g1 ?_
   simp only[Act.put,List.setIfInBounds_toArray,List.set_cons_zero,List.set_cons_succ]
   refine wpAnyH_take (i:=13) (oi:={dst:=some 36,op:=Op.binOp BinOp.eql 24 (Operand.tmp 33) (Operand.tmp 35) 24,type:=4,pos:= "header.go:68",after:= #[{on:=10,ground:=Ground.data},{on:=12,ground:=Ground.data},{on:=6,ground:=Ground.guard}],guard:=some (6,true)}) (v:=undef) rfl (by kernel_rfl) (by kernel_rfl) (by kernel_rfl) (fun _ _ _ h=>h) (Or.inr ⟨by rfl,rfl⟩) g1 ?_
   simp only[Act.put,List.setIfInBounds_toArray,List.set_cons_zero,List.set_cons_succ]
   refine tq 14 g1 ?_
   refine tq 15 g1 ?_
   refine wpAnyH_done (by kernel_rfl) ?_ _
   go_wp2_with fail
   go_ret
   exact⟨by rw[HF.out];rfl,HB0.out.trans (g1.mono HB0.out.size)⟩
  | true=>
   have HF:Hid (R=yD d):=Lib.hid (by rw[HV.out,Bool.true_and])
   have hdec:yD d=((aJ (aV d):Int)==(d:Int)):=by rw[HDB.out,Bool.eq_iff_iff];simp;omega
   rw[hdec]at HF
   clear hdec HDB
   generalize aJ (aV d)=D at*
   go_upto_region 3 with fail
   refine wp_region_held_drew (S:=fun w'=>Below (w.alloc BX).heap.size (w.alloc BX) w') (by kernel_rfl) hdr (fun hS=> ?_)
   refine tq 0 hS ?_
   refine tq 1 hS ?_
   refine tq 2 hS ?_
   refine tp 3 rfl (fun w hSw=>by have j2:=HC2.out w hSw;go_simp;all_goals(with_reducible rfl)) hS ?_
   refine tr 4 (fun K hK=> ?_)
   go_simp
   refine(HM.out (w.alloc BX).drew (hF.below hdw)).mono ?_
   rintro e w1 ⟨rfl,hb1⟩
   have g1:Below (w.alloc BX).heap.size (w.alloc BX) w1:=hdr.trans (hb1.mono hdr.size)
   go_wp2_with fail
   refine hK.out _ _ g1 (fun _=> ?_)
   clear hK K
   refine tq 5 g1 ?_
   refine tq 6 g1 ?_
   refine tq 7 g1 ?_
   refine tp 8 rfl (fun w hSw=>by have j3:=HC3.out w hSw;go_simp;all_goals(with_reducible rfl)) g1 ?_
   refine tq 11 g1 ?_
   refine tp 12 rfl (fun w hSw=>by have j3:=HC3.out w hSw;go_simp;all_goals(with_reducible rfl)) g1 ?_
   refine tr 9 (fun K hK=> ?_)
   go_simp
   refine(HCO.out w1).mono ?_
   rintro e w2 ⟨rfl,rfl⟩
   go_wp2_with fail
   refine hK.out _ _ g1 (fun _=> ?_)
   clear hK K
   refine tr 10 (fun K hK=> ?_)
   go_simp
   refine(HDI.out w1).mono ?_
   rintro e w2 ⟨rfl,rfl⟩
   go_wp2_with fail
   refine hK.out _ _ g1 (fun _=> ?_)
   clear hK K
   refine tq 13 g1 ?_
   refine tq 14 g1 ?_
   refine tq 15 g1 ?_
   refine wpAnyH_done (by kernel_rfl) ?_ _
   go_wp2_with fail
   go_ret
   exact⟨by rw[HF.out];rfl,HB0.out.trans (g1.mono HB0.out.size)⟩
def aY(n:Nat):Nat:=(4-n%4)%4
def nJ(b:List UInt8):List UInt8:=b++List.replicate (aY b.length) 0
def kQ(x:Int):List UInt8:=if x= -1 then []else Vl.put 9 x.toNat
def fB(f:bK):List UInt8:=(nI f).getD []
def zI(f:bK):List UInt8:=Vl.put 9 f.id.toNat++(Vl.put 9 (fB f).length++fB f)
def fM(l:List bK):List UInt8:=l.flatMap zI
def bQ(d:Nat):bK:=⟨33,d⟩
def fZ(h:gU):Nat:=h.l.length+(if h.p= -1 then 0 else 64)+(if h.q= -1 then 0 else 128)
def yE(h:gU):List UInt8:=kQ h.p++kQ h.q++fM (h.l++[bQ h.d])
def bH(h:gU):List UInt8:=0::UInt8.ofNat (fZ h)::yE h
def jC(h:gU):List UInt8:=(nJ (bH h)).set 0 (UInt8.ofNat ((nJ (bH h)).length/4))
def gB(h:gU):List UInt8:=jC h++uf (jC h)
theorem Ep(l:List bK)(f:bK):fM (l++[f])=fM l++zI f:=by simp[fM]
def vS(f:bK):Prop:=f.ok∧0≤f.id∧f.id≤33∧nI f=some (fB f)∧(fB f).length≤4
theorem Zm(f:bK)(hok:f.ok)(h:eG f=true):vS f:=by
 have hid:f.id≠33:=by
  intro e
  obtain⟨id,n⟩:=f
  obtain rfl:id=33:=e
  rw[Zd]at h;cases h
 have hb:nI f=if f.id=3 then some [UInt8.ofNat (f.n-1)]else if f.n=0 then some []else some (bytesOf true f.n):=by
  unfold nI;rw[if_neg hid,if_pos h]
 have hr:0≤f.id∧f.id≤33:=by
  rcases D9 f h with⟨e,_⟩ | ⟨_,e,_⟩
  ·omega
  ·rcases e with e | e | e | e<;>omega
 refine⟨hok,hr.1,hr.2,?_,?_⟩
 ·unfold fB;rw[hb]
  split
  ·rfl
  ·split<;>rfl
 ·unfold fB;rw[hb]
  split
  ·simp
  ·split
   ·simp
   ·simp[bytesOf]
theorem UF(d:Nat)(hd:d<4294967296)(h:yD d=true):vS (bQ d):=by
 have h':aJ (aV d)=d:=by simpa [yD]using h
 have hb:nI (bQ d)=some [UInt8.ofNat (aV d)]:=by
  unfold nI bQ;rw[if_pos rfl,if_pos h']
 refine⟨⟨by show(-9223372036854775808:Int)≤33;omega,by show(33:Int)≤9223372036854775807;omega,hd⟩,by show(0:Int)≤33;omega,by show(33:Int)≤33;omega,?_,?_⟩
 ·unfold fB;rw[hb];rfl
 ·unfold fB;rw[hb];simp
theorem uj(h:gU)(hok:h.ok)(hf: ∀f∈h.l,f.ok)(hv:jI h=true):(∀f∈h.l++[bQ h.d],vS f)∧h.l.length≤3∧(h.p= -1∨1≤h.p)∧(h.q= -1∨0≤h.q):=by
 simp only[jI,wM,lu,Bool.and_eq_true,Bool.or_eq_true,decide_eq_true_eq,List.all_eq_true]at hv
 obtain⟨⟨⟨h1,h2⟩,h3,h4⟩,h5⟩:=hv
 refine⟨fun f hm=> ?_,h3,h1,h2⟩
 rcases List.mem_append.1 hm with hm | hm
 ·exact Zm f (hf f hm) (h4 f hm)
 ·obtain rfl:f=bQ h.d:=by simpa using hm
  exact UF _ hok.2.2.2.2 h5
theorem LZ(f:bK)(h:vS f):(zI f).length≤24:=by
 have h1:=(Vl.iE 9 f.id.toNat).2
 have h2:=(Vl.iE 9 (fB f).length).2
 have h3:=h.2.2.2.2
 simp only[zI,List.length_append];omega
theorem qN(l:List bK)(h: ∀f∈l,vS f):(fM l).length≤24*l.length:=by
 induction l with
 | nil=>simp[fM]
 | cons f l ih=>
  have h1:=LZ f (h f (by simp))
  have h2:=ih (fun g hg=>h g (by simp[hg]))
  simp only[fM,List.flatMap_cons,List.length_append,List.length_cons]at h2 ⊢
  omega
theorem iW(x:Int):(kQ x).length≤10:=by
 unfold kQ
 split
 ·simp
 ·exact(Vl.iE 9 _).2
theorem anc(n:Nat)(h:n≤3):bits .or .u8 (n:Int) 64=((n+64:Nat):Int):=by
 match n,h with
 | 0,_=>rfl
 | 1,_=>rfl
 | 2,_=>rfl
 | 3,_=>rfl
theorem Q5(n:Nat)(h:n≤3):bits .or .u8 (n:Int) 128=((n+128:Nat):Int)∧bits .or .u8 ((n+64:Nat):Int) 128=((n+64+128:Nat):Int):=by
 match n,h with
 | 0,_=>exact⟨rfl,rfl⟩
 | 1,_=>exact⟨rfl,rfl⟩
 | 2,_=>exact⟨rfl,rfl⟩
 | 3,_=>exact⟨rfl,rfl⟩
def Jf(bo base:Nat)(w1:World)(L:List UInt8)(wx:World):Prop:= ∃v,Box bo wx v∧Own base wx v L∧Below base w1 wx
theorem Jf.opened{bo base:Nat}{w1 wx:World}{a x:UInt8}{r:List UInt8}(h:Jf bo base w1 (a::x::r) wx): ∃g c,Box bo wx (.slice (some ⟨g,0,none⟩) (r.length+2) c)∧Own base wx (.slice (some ⟨g,0,none⟩) (r.length+2) c) (a::x::r)∧Below base w1 wx∧base≤g∧g≠bo∧
  wx.cell? ⟨g,1,none⟩=some (.int .u8 (x.toNat:Nat))∧wx.frozen? ⟨g,1,none⟩=false∧wx.frozen? ⟨g,0,none⟩=false∧r.length+2≤c∧c≤9223372036854775807∧wx.cell? ⟨g,0,none⟩=some (.int .u8 (a.toNat:Nat)):=by
 obtain⟨v,hx,ho,hb⟩:=h
 obtain⟨g,c,rfl,h1,h2,h3,h4,h5,h6⟩:=ho.opened (by simp)
 refine⟨g,c,hx,ho,hb,h1,?_,h5 1 (by simp),h6 1,h6 0,by simpa using h3,h4,h5 0 (by simp)⟩
 intro e
 exact hx.ne ho (by rw[e];rfl)
theorem Box.store{bo g i:Nat}{w:World}{v u:Value}(h:Box bo w v)(hg:g≠bo):Box bo (w.setCell ⟨g,i,none⟩ u) v:=(ah _ _ _ _ (fun e=>hg e.symm)).trans h
theorem Es{bo base g c:Nat}{w1 wx:World}{a x:UInt8}{r:List UInt8}(hx:Box bo wx (.slice (some ⟨g,0,none⟩) (r.length+2) c))(ho:Own base wx (.slice (some ⟨g,0,none⟩) (r.length+2) c) (a::x::r))(hb:Below base w1 wx)(hg:base≤g)(hne:g≠bo)(s:Nat)(hs:s<256):
  Box bo (wx.setCell ⟨g,1,none⟩ (.int .u8 (s:Nat))) (.slice (some ⟨g,0,none⟩) (r.length+2) c)∧Own base (wx.setCell ⟨g,1,none⟩ (.int .u8 (s:Nat))) (.slice (some ⟨g,0,none⟩) (r.length+2) c) (a::UInt8.ofNat s::r)∧Below base w1 (wx.setCell ⟨g,1,none⟩ (.int .u8 (s:Nat))):=by
 have h:=ho.store 1 (by simp) (UInt8.ofNat s)
 have e:((UInt8.ofNat s).toNat:Nat)=s:=by rw[UInt8.toNat_ofNat'];omega
 rw[e]at h
 exact⟨hx.store hne,h,Below.setCell hb hg _⟩
def Jg(bo:Nat)(w:World):Nat:=match w.cell? ⟨bo,0,none⟩with
 | some (.slice _ n _)=>n
 | _=>0
theorem Box.len{bo n c:Nat}{A:Option Addr}{w:World}(h:Box bo w (.slice A n c)):Jg bo w=n:=by
 unfold Jg;rw[h.cell]
theorem UG{bo base g c n:Nat}{w1 wx:World}{a:UInt8}{r:List UInt8}(hx:Box bo wx (.slice (some ⟨g,0,none⟩) n c))(ho:Own base wx (.slice (some ⟨g,0,none⟩) n c) (a::r))(hb:Below base w1 wx)(hg:base≤g)(hne:g≠bo)(s:Nat)(hs:s<256):
  Box bo (wx.setCell ⟨g,0,none⟩ (.int .u8 (s:Nat))) (.slice (some ⟨g,0,none⟩) n c)∧Own base (wx.setCell ⟨g,0,none⟩ (.int .u8 (s:Nat))) (.slice (some ⟨g,0,none⟩) n c) (UInt8.ofNat s::r)∧Below base w1 (wx.setCell ⟨g,0,none⟩ (.int .u8 (s:Nat))):=by
 have h:=ho.store 0 (by simp) (UInt8.ofNat s)
 have e:((UInt8.ofNat s).toNat:Nat)=s:=by rw[UInt8.toNat_ofNat'];omega
 rw[e]at h
 exact⟨hx.store hne,h,Below.setCell hb hg _⟩
theorem wO{ops:Array Oper}{o:Oper}{a:Act}{K:Act→World→Prop}{Q:Exit→Act→World→Prop}(hgd:o.guard=none)(s x:Operand)
  (ho:o.op= .call {callee:= .builtin .append,args:= #[s,x],argTypes:= #[22,22]})
  (base:Nat) (w:World) (v:Value) (xs:List UInt8) (hs:a.eval s=v) (hown:Own base w v xs) (A:Option Addr) (l:List UInt8) (c:Nat) (hx:a.eval x= .slice A l.length c) (hB:Bytes w A l)
  (hsz:xs.length+l.length≤140737488355328) (hbase:base≤w.heap.size)
  (h: ∀v' w',Own base w' v' (xs++l)→w.grownBy w' v.ownBlock→K (a.put o.dst v') w'):if Region.wanted o (yielded ops a.tmps)=true then Oper.wp Tryz.prog o a w K Q else K (a.put o.dst undef) w:=by
 rw[if_pos (by simp[Region.wanted,hgd])]
 obtain⟨v',w',hr,h2,h3⟩:=kE base o.type w v xs hown A l c hB hsz hbase
 unfold Oper.wp execOp
 simp only[ho,resolve,invoke,builtin,Sem.run_bind,Sem.run_pure,Result.andThen_ok,List.map_toArray,List.map_cons,List.map_nil,hs,hx,hr]
 exact h v' w' h2 h3

end Go.Proofs.YtgfpocdiojifoaaGreatDoor
