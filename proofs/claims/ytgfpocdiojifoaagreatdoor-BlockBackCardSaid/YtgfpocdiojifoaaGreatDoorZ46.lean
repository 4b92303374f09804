import Derived.Test.YtgfpocdiojifoaaGreatDoorZ45
import Derived.OwnWalk
namespace Go.Proofs.YtgfpocdiojifoaaGreatDoor
set_option maxRecDepth 100000
set_option maxHeartbeats 8000000
open Go.RowKit
theorem jF{ops:Array Oper}{o:Oper}{a:Act}{K:Act→World→Prop}{Q:Exit→Act→World→Prop}(hgd:o.guard=none)(x y:Operand)(ho:o.op= .makeSlice 22 x y)
  (base n:Nat) (w:World) (hx:a.eval x= .int .i64 (n:Nat)) (hy:a.eval y= .int .i64 (n:Nat)) (hn:n≤1000000) (hbase:base≤w.heap.size)
  (h: ∀w',Own base w' (.slice (some ⟨w.heap.size,0,none⟩) n n) (List.replicate n 0)→w.grownBy w' none→K (a.put o.dst (.slice (some ⟨w.heap.size,0,none⟩) n n)) w'):if Region.wanted o (yielded ops a.tmps)=true then Oper.wp Tryz.prog o a w K Q else K (a.put o.dst undef) w:=by
 rw[if_pos (by simp[Region.wanted,hgd])]
 obtain⟨i,hi,hz0,hz1,hz2⟩:=info_parts wW
 obtain⟨w',hr,h1,h2⟩:=run_make_full (P:=Tryz.prog) w base 22 5 i (.int .u8 0) 1 Tryz.underlying22 hi hz0 hz1 .i64 .i64 n (by rw[hz2];omega) (by unfold maxLen;omega) hbase
 rw[Xl]at h1
 have ho2:Own base w' (.slice (some ⟨w.heap.size,0,none⟩) n n) (List.replicate n 0):=by
  unfold Own
  rw[List.length_replicate,List.map_replicate]
  exact h1
 unfold Oper.wp execOp
 simp only[ho,hx,hy,Sem.run_bind,Sem.run_pure,Result.andThen_ok,hr]
 exact h w' ho2 h2
def dX(w:World)(r:gU×Nat×Nat)(e:Ending)(w':World):Prop:=
 ∃A c,e= .returned (.tuple #[G7 r.1 A c,.int .i64 (r.2.1:Nat),.int .i64 (r.2.2:Nat)])∧gJ w' A r.1.l∧r.1.l.length≤c∧c≤9223372036854775807∧Below w.heap.size w w'
theorem dX.err{w w':World}{l:List UInt8}{er:Nat}(h:jD l=(dP,0,er))(hb:Below w.heap.size w w'):dX w (jD l) (.returned (.tuple #[.agg #[.int .i64 0,.int .i64 0,.slice none 0 0,.int .u32 0],.int .i64 0,.int .i64 (er:Nat)])) w':=by
 unfold dX;rw[h];exact⟨none,0,rfl,.inl rfl,Nat.le_refl _,by omega,hb⟩
theorem dX.yes{w w':World}{l:List UInt8}{h:gU}{n c:Nat}{A:Option Addr}(hg:jD l=(h,n,0))(hb:Below w.heap.size w w')(hf:gJ w' A h.l)(hc:h.l.length≤c)(hm:c≤9223372036854775807):dX w (jD l) (.returned (.tuple #[G7 h A c,.int .i64 (n:Nat),.int .i64 0])) w':=by
 unfold dX;rw[hg];exact⟨A,c,rfl,hf,hc,hm,hb⟩
theorem Qm{l x:List UInt8}(h:fH l=(x,0)):x=l.take (bM l-4)∧bM l≤l.length∧8≤bM l∧bM l≤1024:=by
 have hdef:fH l=if l.length=0 then([],2)else if l.getD 0 0=0 then([],4)else if l.length<bM l then([],2)
  else if(uf (l.take (bM l-4))==part l (bM l-4) 4)=false then([],4)else(l.take (bM l-4),0):=rfl
 rw[hdef]at h
 by_cases h0:l.length=0
 ·rw[if_pos h0]at h;simp at h
 rw[if_neg h0]at h
 by_cases h1:l.getD 0 0=0
 ·rw[if_pos h1]at h;simp at h
 rw[if_neg h1]at h
 by_cases h2:l.length<bM l
 ·rw[if_pos h2]at h;simp at h
 rw[if_neg h2]at h
 have hx:=(l.getD 0 0).toNat_lt
 have hp:0<(l.getD 0 0).toNat:=by
  rcases Nat.eq_zero_or_pos (l.getD 0 0).toNat with e | e
  ·exact absurd (UInt8.toNat_inj.1 (by simpa using e)) h1
  ·exact e
 split at h
 ·simp at h
 ·simp only[Prod.mk.injEq,and_true]at h
  exact⟨h.symm,by omega,by unfold bM;omega,by unfold bM;omega⟩
theorem Ve{s:Nat}{p q:Int}{l l2:List UInt8}(h:jJ s l=some (p,q,l2)):l2.length≤l.length:=by
 rw[zM]at h
 split at h
 ·cases h
 ·rename_i p1 l1 h1
  split at h
  ·cases h
  ·rename_i q1 l3 h3
   injection h with h;injection h with e1 h;injection h with e2 e3
   subst e3
   have a1:=(EK h1).1
   have a2:=(EK h3).1
   omega
theorem MQ: ∀(many k i:Nat) (l:List UInt8) (acc:List bK),(bT many k i l acc).2.1.length≤l.length
 | _,0,_,_,_=>Nat.le_refl _
 | many,k+1,i,l,acc=>by
  rw[qQ]
  split
  ·simp
  ·split
   ·simp
   ·exact Nat.le_trans (MQ many k (i+1) _ _) (Ru l).2
theorem EM: ∀(many k i:Nat) (l:List UInt8) (acc:List bK),(bT many k i l acc).2.2=0→(bT many k i l acc).1.length=acc.length+k
 | _,0,_,_,_,_=>rfl
 | many,k+1,i,l,acc,h=>by
  rw[qQ]at h ⊢
  split at h
  ·rename_i h1;exact absurd h h1
  ·rename_i h1
   rw[if_neg h1]
   split at h
   ·cases h
   ·rename_i h2
    rw[if_neg h2]
    have:=EM many k (i+1) _ _ h
    rw[this,List.length_append];simp;omega
theorem oI{base b n:Nat}{w:World}(h:Own base w (.slice (some ⟨b,0,none⟩) n n) (List.replicate n 0)):Bytes w (some ⟨b,0,none⟩) (List.replicate n 0):=by
 obtain⟨A8,c8,e8,_,_,hb8⟩:=h.read
 injection e8 with e1 e2 e3
 rw[e1];exact hb8
theorem Z8(l:List UInt8):(l==List.replicate l.length 0)=l.all (· ==0):=by
 induction l with
 | nil=>rfl
 | cons x l ih=>simp only[List.length_cons,List.replicate_succ,List.all_cons];rw[←ih];rfl
theorem gJ.set{w:World}{A:Option Addr}{l:List bK}(h:gJ w A l){g i:Nat}(hA: ∀a,A=some a→a.block≠g)(u:Value):gJ (w.setCell ⟨g,i,none⟩ u) A l:=by
 rcases h with h | ⟨b,off,rfl,hb,hat⟩
 ·exact .inl h
 ·have hne:b≠g:=hA ⟨b,off,none⟩ rfl
  have hblk:(w.setCell ⟨g,i,none⟩ u).heap[b]? =w.heap[b]? :=ah _ _ _ _ (fun e=>hne e)
  refine .inr ⟨b,off,rfl,by simp;exact hb,fun k hk=>⟨?_,?_,(hat k hk).ok⟩⟩
  ·exact(World.cell?_of_block (a:=⟨b,off+k*2,none⟩) hblk).trans (hat k hk).c0
  ·exact(World.cell?_of_block (a:=⟨b,off+k*2+1,none⟩) hblk).trans (hat k hk).c1
theorem Vf(A:Option Addr)(l:List UInt8)(c:Nat)(w:World)(hB:Bytes w A l)(hc:l.length≤c)(hm:c≤9223372036854775807)(hl:l.length≤1000000):
  Calls Tryz.prog 65 #[.slice A l.length c] w (dX w (jD l)):=by
 obtain⟨W0,hW0⟩: ∃W0,w.alloc (.cells #[.int .i64 0,.int .i64 0,.slice none 0 0,.int .u32 0] 51)=W0:=⟨_,rfl⟩
 have hb0:Below w.heap.size w W0:=by rw[←hW0];exact(Below.refl _ _).alloc (Nat.le_refl _) _
 have hr0:eF w.heap.size W0 (.int .i64 0) (.int .i64 0) (.slice none 0 0) (.int .u32 0):=by rw[←hW0];exact heap_alloc_last _ _
 have hz0:W0.heap.size=w.heap.size+1:=by rw[←hW0];simp
 have HW0:=Lib.hid hW0
 have HSL:=Lib.hid (Vd A l c W0 (hB.below hb0) hc hm hl)
 have EL:=Lib.hid (fun(wx:World) (h:Below w.heap.size w wx) (a b c d:Value)=>(show Below w.heap.size w ((((wx.setCell ⟨w.heap.size,0,none⟩ a).setCell ⟨w.heap.size,1,none⟩ b).setCell ⟨w.heap.size,2,none⟩ c).setCell ⟨w.heap.size,3,none⟩ d)from
  Below.setCell (p:=⟨w.heap.size,3,none⟩) (Below.setCell (p:=⟨w.heap.size,2,none⟩) (Below.setCell (p:=⟨w.heap.size,1,none⟩) (Below.setCell (p:=⟨w.heap.size,0,none⟩) h (Nat.le_refl _) a) (Nat.le_refl _) b) (Nat.le_refl _) c) (Nat.le_refl _) d))
 have HGD:Hid (jD l=if(fH l).2≠0 then(dP,0,(fH l).2)else if(l.getD 1 0).toNat/4%16≠0 then(dP,0,5)
  else if(iF (l.getD 1 0).toNat ((fH l).1.drop 2)).2≠0 then(dP,0,(iF (l.getD 1 0).toNat ((fH l).1.drop 2)).2)
  else((iF (l.getD 1 0).toNat ((fH l).1.drop 2)).1,bM l,0)):=Lib.hid rfl
 have HB:=Lib.hid hB
 clear hW0 hB
 go_enter Tryz.func65,Tryz.ntmps65
 go_upto_region 1 with fail
 rw[HW0.out]
 clear HW0
 go_wp2_with fail
 refine HSL.out.mono ?_
 rintro e w1 ⟨hb1,hs1⟩
 have Vg:=Lib.hid (hb0.trans (hb1.mono hb0.size))
 have hr1:eF w.heap.size w1 (.int .i64 0) (.int .i64 0) (.slice none 0 0) (.int .u32 0):=(hb1.block _ (by omega)).trans hr0
 have hsz1:w.heap.size<w1.heap.size:=by have:=hb1.size;omega
 have HR1:=Lib.hid hr1
 rcases hs1 with⟨hse,rfl⟩ | ⟨hse,rfl⟩
 case inr=>
  have HF:=Lib.hid (show jD l=(dP,0,(fH l).2) by rw[HGD.out,if_pos hse])
  obtain⟨z0,z1,z2,z3⟩:=hr1.cells
  have F9:=hr1.frozen 0
  have Gf:=hr1.frozen 1
  have Jt:=hr1.frozen 2
  have Ju:=hr1.frozen 3
  have VF:(0:Int)<((fH l).2:Int):=by omega
  generalize(fH l).2=er at*
  clear hse hr1 hb1 hr0 HGD
  go_wp2_with fail
  obtain⟨k0,k1,k2,k3⟩:=eF.ret HR1.out (.int .i64 0) (.int .i64 0) (.slice none 0 0) (.int .u32 0)
  exact bodyPost_ret (v:= .tuple #[.agg #[.int .i64 0,.int .i64 0,.slice none 0 0,.int .u32 0],.int .i64 0,.int .i64 (er:Nat)]) (by simp[results,Tryz.results65,go_sem,k0,k1,k2,k3]) rfl (dX.err HF.out (EL.out w1 Vg.out _ _ _ _))
 obtain⟨x,e0⟩: ∃x,fH l=(x,0):=⟨(fH l).1,Prod.ext rfl hse⟩
 obtain⟨hx,hZl,hZ8,hZm⟩:=Qm e0
 obtain⟨p,hp⟩: ∃p,bM l-4=p:=⟨_,rfl⟩
 rw[hp]at hx ⊢
 subst hx
 have ajO:=Lib.hid (show bM l=p+4 by omega)
 have agd:Hid (jD l=if(l.getD 1 0).toNat/4%16≠0 then(dP,0,5)
  else if(iF (l.getD 1 0).toNat ((l.take p).drop 2)).2≠0 then(dP,0,(iF (l.getD 1 0).toNat ((l.take p).drop 2)).2)
  else((iF (l.getD 1 0).toNat ((l.take p).drop 2)).1,p+4,0)):=Lib.hid (by rw[HGD.out,e0,if_neg (fun h=>h rfl),ajO.out])
 obtain⟨b,off,rfl,hbl,hcell⟩:=HB.out.addr (by omega)
 have hk1:w.cell? ⟨b,off+1,none⟩=some (.int .u8 ((l.getD 1 0).toNat:Nat)):=by
  have h:=hcell 1 (by omega)
  rw[h];simp[List.getD,show 1<l.length by omega]
 have Jz:=Lib.hid (fun(wx:World) (h:Below w.heap.size w wx)=>(h.cell (p:=⟨b,off+1,none⟩) hbl).trans hk1)
 have hj1:=Jz.out w1 Vg.out
 have Ry:=(l.getD 1 0).toNat_lt
 obtain⟨_,_,ha3,Vh⟩:=Rw ⟨(l.getD 1 0).toNat,Ry⟩
 simp only at ha3 Vh
 have hl2:((l.take p).drop 2).length=p-2:=by rw[List.length_drop,List.length_take];omega
 have hB2:=Lib.hid (fun(wx:World) (h:Below w.heap.size w wx)=>Bytes.drop 2 ((HB.out.below h).take p))
 generalize(l.getD 1 0).toNat=s at*
 generalize(l.take p).drop 2=l2 at*
 have hpi:(4:Int)≤(p:Int):=by omega
 have hpc:(p:Int)≤(c:Int):=by omega
 have hc2: ¬c=2:=by omega
 obtain⟨p2,hp2⟩: ∃p2,p-2=p2:=⟨_,rfl⟩
 have HP2:=Lib.hid hp2
 have aub:p2≤1024:=by omega
 rw[hp2]at hl2
 obtain⟨v60,an6⟩: ∃v,bits .and .u8 (s:Int) 60=v:=⟨_,rfl⟩
 rw[an6]at Vh
 obtain⟨z0,z1,z2,z3⟩:=hr1.cells
 have F9:=hr1.frozen 0
 have Gf:=hr1.frozen 1
 have Jt:=hr1.frozen 2
 have Ju:=hr1.frozen 3
 clear hcell hk1 hr1 hb1 hr0 HGD e0 hse hp
 by_cases h60:s/4%16=0
 case neg=>
  have HF:=Lib.hid (show jD l=(dP,0,5) by rw[agd.out,if_pos h60])
  have hvb:(v60==0)=false:=by
   cases h:v60==0 with
   | false=>rfl
   | true=>exact absurd (Vh.1 (by simpa using h)) h60
  clear Vh h60
  go_wp2_with fail
  obtain⟨k0,k1,k2,k3⟩:=eF.ret HR1.out (.int .i64 0) (.int .i64 0) (.slice none 0 0) (.int .u32 0)
  exact bodyPost_ret (v:= .tuple #[.agg #[.int .i64 0,.int .i64 0,.slice none 0 0,.int .u32 0],.int .i64 0,.int .i64 5]) (by simp[results,Tryz.results65,go_sem,k0,k1,k2,k3]) rfl (dX.err HF.out (EL.out w1 Vg.out _ _ _ _))
 have acX:Hid (jD l=if(iF s l2).2≠0 then(dP,0,(iF s l2).2)else((iF s l2).1,p+4,0)):=Lib.hid (by rw[agd.out,if_neg (fun h=>h h60)])
 have hv0:v60=0:=Vh.2 h60
 subst hv0
 clear Vh h60 agd
 have hx2:Box w1.heap.size (w1.alloc (.cells #[.slice (some ⟨b,off+2,none⟩) p2 (c-2)] 22)) (.slice (some ⟨b,off+2,none⟩) l2.length (c-2)):=by rw[hl2];exact heap_alloc_last _ _
 have uY:Below w1.heap.size w1 (w1.alloc (.cells #[.slice (some ⟨b,off+2,none⟩) p2 (c-2)] 22)):=(Below.refl _ _).alloc (Nat.le_refl _) _
 have Qk:Below w.heap.size w (w1.alloc (.cells #[.slice (some ⟨b,off+2,none⟩) p2 (c-2)] 22)):=Vg.out.trans (uY.mono Vg.out.size)
 have hR2:Rest w1.heap.size (w1.alloc (.cells #[.slice (some ⟨b,off+2,none⟩) p2 (c-2)] 22)) l2:=⟨_,_,hx2,hB2.out _ Qk,fun a e=>by injection e with e;rw[←e];show b<w1.heap.size;have:=Vg.out.size;omega,by rw[hl2];omega,by omega⟩
 have CG:=Lib.hid (Ql w1.heap.size s l2 _ hR2 (by rw[hl2];omega) Ry)
 have hj2:=Jz.out _ Qk
 have an7:=Lib.hid Qk
 have abM:=Lib.hid uY
 have an8:=Lib.hid hR2.lt
 have ajP:Hid (eF w.heap.size (w1.alloc (.cells #[.slice (some ⟨b,off+2,none⟩) p2 (c-2)] 22)) (.int .i64 0) (.int .i64 0) (.slice none 0 0) (.int .u32 0)):=Lib.hid ((uY.block _ hsz1).trans HR1.out)
 have Qn:=Lib.hid (show iF s l2=match jJ s l2 with
  | none=>(dP,4)
  | some (p,q,l2)=>if(bT (s%4) (s%4+1) 0 l2 []).2.2≠0 then(dP,(bT (s%4) (s%4+1) 0 l2 []).2.2)
   else if(bT (s%4) (s%4+1) 0 l2 []).2.1.all (· ==0)=false then(dP,5)
   else(⟨p,q,(bT (s%4) (s%4+1) 0 l2 []).1.take (s%4),((bT (s%4) (s%4+1) 0 l2 []).1.getD (s%4) ⟨0,0⟩).n⟩,0)from rfl)
 clear hx2 uY Qk hR2 z0 z1 z2 z3 F9 Gf Jt Ju
 go_upto_region 9 with fail
 generalize w1.alloc (.cells #[.slice (some ⟨b,off+2,none⟩) p2 (c-2)] 22)=w2 at*
 go_wp2_with fail
 refine CG.out.mono ?_
 rintro e w3 ⟨hb3,hk3,hd3⟩
 have ajQ:=Lib.hid (an7.out.trans (hb3.mono (by omega)))
 have hr3:eF w.heap.size w3 (.int .i64 0) (.int .i64 0) (.slice none 0 0) (.int .u32 0):=(hb3.block _ hsz1).trans ajP.out
 have hsz3:w1.heap.size<w3.heap.size:=by have h1:=hk3.1;have h2:=ajP.out;have h3:=abM.out.size;have h4:=an8.out;omega
 cases hsm:jJ s l2 with
 | none=>
  rw[hsm]at hd3 Qn
  obtain rfl:=hd3
  have HF:=Lib.hid (show jD l=(dP,0,4) by rw[acX.out,Qn.out];rfl)
  have xU:Below w3.heap.size w3 (w3.alloc (.cells #[.int .i64 0,.int .i64 0,.slice none 0 0,.int .u32 0] 51)):=(Below.refl _ _).alloc (Nat.le_refl _) _
  have HR4:=Lib.hid (show eF w.heap.size (w3.alloc (.cells #[.int .i64 0,.int .i64 0,.slice none 0 0,.int .u32 0] 51)) (.int .i64 0) (.int .i64 0) (.slice none 0 0) (.int .u32 0)from(xU.block _ (by omega)).trans hr3)
  have acY:=Lib.hid (ajQ.out.trans (xU.mono (by omega)))
  obtain⟨z0,z1,z2,z3⟩:=HR4.out.cells
  have F9:=HR4.out.frozen 0
  have Gf:=HR4.out.frozen 1
  have Jt:=HR4.out.frozen 2
  have Ju:=HR4.out.frozen 3
  clear hsm xU hb3 hk3 hr3
  go_wp2_with fail
  obtain⟨k0,k1,k2,k3⟩:=eF.ret HR4.out (.int .i64 0) (.int .i64 0) (.slice none 0 0) (.int .u32 0)
  exact bodyPost_ret (v:= .tuple #[.agg #[.int .i64 0,.int .i64 0,.slice none 0 0,.int .u32 0],.int .i64 0,.int .i64 4]) (by simp[results,Tryz.results65,go_sem,k0,k1,k2,k3]) rfl (dX.err HF.out (EL.out _ acY.out _ _ _ _))
 | some r3=>
  obtain⟨p',q',l3⟩:=r3
  rw[hsm]at hd3 Qn
  obtain⟨rfl,Vx⟩:=hd3
  have hl3:=Ve hsm
  obtain⟨W4,sJ⟩: ∃W4,w3.alloc (.cells #[.int .i64 p',.int .i64 q',.slice none 0 0,.int .u32 0] 51)=W4:=⟨_,rfl⟩
  have WJ:=Lib.hid sJ
  have xU:Below w3.heap.size w3 W4:=by rw[←sJ];exact(Below.refl _ _).alloc (Nat.le_refl _) _
  have hh4:eF w3.heap.size W4 (.int .i64 p') (.int .i64 q') (.slice none 0 0) (.int .u32 0):=by rw[←sJ];exact heap_alloc_last _ _
  have hz4:W4.heap.size=w3.heap.size+1:=by rw[←sJ];simp
  have acY:=Lib.hid (ajQ.out.trans (xU.mono (by omega)))
  have hr4:eF w.heap.size W4 (.int .i64 0) (.int .i64 0) (.slice none 0 0) (.int .u32 0):=(xU.block _ (by omega)).trans hr3
  have hR4:Rest w1.heap.size W4 l3:=Vx.keep (xU.mono (by omega))
  have hm4:s%4≤3:=by omega
  have HFL:=Lib.hid (Vb w1.heap.size (s%4) l3 W4 hR4 (by omega) hm4)
  have hj4:=Jz.out W4 acY.out
  have hl4:=MQ (s%4) (s%4+1) 0 l3 []
  clear hsm sJ xU hb3 hk3 hr3 Vx hR4
  go_upto_region 12 with fail
  rw[WJ.out]
  clear WJ
  obtain⟨s4,hs4⟩: ∃s4,s%4=s4:=⟨_,rfl⟩
  rw[hs4]at ha3 HFL Qn hl4 hm4
  clear hs4
  go_wp2_with fail
  refine HFL.out.mono ?_
  rintro e w5 ⟨A5,c5,d5,rfl,hb5,hk5,her,hyes⟩
  have hh5:eF w3.heap.size w5 (.int .i64 p') (.int .i64 q') (.slice none 0 0) (.int .u32 0):=(hk5.2 _ (by omega) (by omega)).trans hh4
  have hr5:eF w.heap.size w5 (.int .i64 0) (.int .i64 0) (.slice none 0 0) (.int .u32 0):=(hb5.block _ hsz1).trans hr4
  have ajR:=Lib.hid (acY.out.trans (hb5.mono (by omega)))
  have hcnt:=EM s4 (s4+1) 0 l3 []
  obtain⟨FR,hFR⟩: ∃FR,bT s4 (s4+1) 0 l3 []=FR:=⟨_,rfl⟩
  rw[hFR]at her hyes Qn hl4 hcnt ⊢
  clear hFR
  obtain⟨acc,l4,er⟩:=FR
  obtain⟨y0,y1,y2,y3⟩:=hh5.cells
  have yf2:=hh5.frozen 2
  have yf3:=hh5.frozen 3
  have hne:w3.heap.size≠w.heap.size:=by omega
  by_cases he:er=0
  case neg=>
   obtain⟨rfl,rfl,rfl⟩:=her he
   have HF:=Lib.hid (show jD l=(dP,0,er) by
    have e:iF s l2=(dP,er):=by rw[Qn.out];simp only[];rw[if_pos he]
    rw[acX.out,e,if_pos he])
   have HV:Hid ((if er=0 then s4 else 0)=0):=Lib.hid (if_neg he)
   simp only[]
   rw[HV.out]
   have QM:Hid (eF w.heap.size ((w5.setCell ⟨w3.heap.size,2,none⟩ (.slice none 0 0)).setCell ⟨w3.heap.size,3,none⟩ (.int .u32 ((0:Nat):Int))) (.int .i64 0) (.int .i64 0) (.slice none 0 0) (.int .u32 0)):=Lib.hid ((hr5.other hne).other hne)
   have an9:Hid (Below w.heap.size w ((w5.setCell ⟨w3.heap.size,2,none⟩ (.slice none 0 0)).setCell ⟨w3.heap.size,3,none⟩ (.int .u32 ((0:Nat):Int)))):=Lib.hid (Below.setCell (p:=⟨w3.heap.size,3,none⟩) (Below.setCell (p:=⟨w3.heap.size,2,none⟩) ajR.out (by show w.heap.size≤w3.heap.size;omega) _) (by show w.heap.size≤w3.heap.size;omega) _)
   have VF:((er:Int)==0)=false:=by simp;omega
   clear he her hyes hb5 hk5 hr5 hh5
   go_upto_region 13 with fail
   generalize(w5.setCell ⟨w3.heap.size,2,none⟩ (.slice none 0 0)).setCell ⟨w3.heap.size,3,none⟩ (.int .u32 ((0:Nat):Int))=w6 at*
   obtain⟨z0,z1,z2,z3⟩:=QM.out.cells
   have F9:=QM.out.frozen 0
   have Gf:=QM.out.frozen 1
   have Jt:=QM.out.frozen 2
   have Ju:=QM.out.frozen 3
   clear y0 y1 y2 y3 yf2 yf3
   go_wp2_with fail
   obtain⟨k0,k1,k2,k3⟩:=eF.ret QM.out (.int .i64 0) (.int .i64 0) (.slice none 0 0) (.int .u32 0)
   exact bodyPost_ret (v:= .tuple #[.agg #[.int .i64 0,.int .i64 0,.slice none 0 0,.int .u32 0],.int .i64 0,.int .i64 (er:Nat)]) (by simp[results,Tryz.results65,go_sem,k0,k1,k2,k3]) rfl (dX.err HF.out (EL.out w6 an9.out _ _ _ _))
  case pos=>
   subst he
   obtain⟨hR5,hF5,hd5,hsc,aob,hA5⟩:=hyes rfl
   simp only at hR5 hF5 hd5
   have HD5:=Lib.hid hd5
   clear hd5
   have HLEN:=Lib.hid (show(acc.take s4).length=s4 by have h:acc.length=0+(s4+1):=hcnt rfl;rw[List.length_take];omega)
   clear hcnt
   have Vj:Below w.heap.size w ((w5.setCell ⟨w3.heap.size,2,none⟩ (.slice A5 s4 c5)).setCell ⟨w3.heap.size,3,none⟩ (.int .u32 (d5:Nat))):=Below.setCell (p:=⟨w3.heap.size,3,none⟩) (Below.setCell (p:=⟨w3.heap.size,2,none⟩) ajR.out (by show w.heap.size≤w3.heap.size;omega) _) (by show w.heap.size≤w3.heap.size;omega) _
   have hR6:Rest w1.heap.size ((w5.setCell ⟨w3.heap.size,2,none⟩ (.slice A5 s4 c5)).setCell ⟨w3.heap.size,3,none⟩ (.int .u32 (d5:Nat))) l4:=hR5.keep (Below.setCell (p:=⟨w3.heap.size,3,none⟩) (Below.setCell (p:=⟨w3.heap.size,2,none⟩) (Below.refl _ _) (by show w1.heap.size+1≤w3.heap.size;omega) _) (by show w1.heap.size+1≤w3.heap.size;omega) _)
   have QM:eF w.heap.size ((w5.setCell ⟨w3.heap.size,2,none⟩ (.slice A5 s4 c5)).setCell ⟨w3.heap.size,3,none⟩ (.int .u32 (d5:Nat))) (.int .i64 0) (.int .i64 0) (.slice none 0 0) (.int .u32 0):=(hr5.other hne).other hne
   have hh6:eF w3.heap.size ((w5.setCell ⟨w3.heap.size,2,none⟩ (.slice A5 s4 c5)).setCell ⟨w3.heap.size,3,none⟩ (.int .u32 (d5:Nat))) (.int .i64 p') (.int .i64 q') (.slice A5 s4 c5) (.int .u32 (d5:Nat)):=(hh5.set2 _).ajK _
   have hF6:gJ ((w5.setCell ⟨w3.heap.size,2,none⟩ (.slice A5 s4 c5)).setCell ⟨w3.heap.size,3,none⟩ (.int .u32 (d5:Nat))) A5 (acc.take s4):=(hF5.set (fun a e=>by have:=hA5 a e;omega) _).set (fun a e=>by have:=hA5 a e;omega) _
   simp only[]
   have Lc:=Lib.hid (And.intro Vj (And.intro hR6 (And.intro QM (And.intro hh6 hF6))))
   clear Vj hR6 QM hh6 hF6 her hyes hb5 hk5 hr5 hh5 hR5 hF5
   go_upto_region 15 with fail
   generalize(w5.setCell ⟨w3.heap.size,2,none⟩ (.slice A5 s4 c5)).setCell ⟨w3.heap.size,3,none⟩ (.int .u32 (d5:Nat))=w6 at*
   obtain⟨Vj,⟨A6,c6,hx6,Fg,hA6,hc6,hm6⟩,QM,hh6,hF6⟩:=Lc.out
   have ajU:l4.length≤1000000:=by have h:l4.length≤l3.length:=hl4;omega
   have CJ:=Lib.hid ajU
   have aud:=hx6.lt
   have HXC:=Lib.hid (fun(wx:World) (h:Below w6.heap.size w6 wx)=>(hx6.below h).cell)
   have HE:=Lib.hid (show ∀A2 w',Below w6.heap.size w6 w'→Bytes w' A2 (List.replicate l4.length 0)→Calls Tryz.prog 36 #[.slice A6 l4.length c6,.slice A2 l4.length l4.length] w' fun e w''=>e= .returned (.bool (l4.all (· ==0)))∧w'=w'' from fun A2 w' h h2=>by
    have:=zN A6 A2 l4 (List.replicate l4.length 0) c6 l4.length w' (Fg.below h) h2
    rw[List.length_replicate,Z8]at this
    exact this)
   have UW:=Lib.hid (show iF s l2=if l4.all (· ==0)=false then(dP,5)else(⟨p',q',acc.take s4,(acc.getD s4 ⟨0,0⟩).n⟩,0) by rw[Qn.out];rfl)
   generalize l4.all (· ==0)=v at*
   have hdr:Below w6.heap.size w6 w6.drew:=kN w6
   have HH6:=Lib.hid hh6
   have ajV:=Lib.hid QM
   have aoc:=Lib.hid hF6
   clear y0 y1 y2 y3 yf2 yf3 hx6 Fg hA6 hl4 ajU hh6 QM hF6
   refine wp_region_held_drew (S:=fun w'=>Below w6.heap.size w6 w') (by kernel_rfl) hdr (fun hS=> ?_)
   refine tp 0 rfl (fun w hSw=>by have j:=HXC.out w hSw;go_simp;all_goals(with_reducible rfl)) hS ?_
   refine tp 1 rfl (fun w hSw=>by have j:=HXC.out w hSw;go_simp;all_goals(with_reducible rfl)) hS ?_
   refine tq 2 hS ?_
   refine tr 3 (fun K hK=> ?_)
   refine jF rfl (.tmp 62) (.tmp 62) rfl w6.heap.size l4.length w6.drew rfl rfl CJ.out (Nat.le_refl _) ?_
   intro w7 Bd VD
   have g7:Below w6.heap.size w6 w7:=hdr.trans (below_grown (Below.refl _ _) VD (Nat.le_refl _) (fun g e=>by cases e))
   have Oh:=Lib.hid (HE.out (some ⟨w6.drew.heap.size,0,none⟩) w7 g7 (oI Bd))
   clear Bd VD
   simp only[Act.put,List.setIfInBounds_toArray,List.set_cons_zero,List.set_cons_succ]
   refine hK.out _ _ g7 (fun _=> ?_)
   clear hK K
   refine tr 4 (fun K hK=> ?_)
   go_simp
   refine Oh.out.mono ?_
   rintro e w8 ⟨rfl,rfl⟩
   go_wp2_with fail
   refine hK.out _ _ g7 (fun _=> ?_)
   clear hK K
   refine tr 5 (fun K hK=> ?_)
   go_simp
   refine hK.out _ _ g7 (fun _=> ?_)
   clear hK K
   refine wpAnyH_done (by kernel_rfl) ?_ _
   have ajW:=Lib.hid (Vj.trans (g7.mono Vj.size))
   have Z9:eF w.heap.size w7 (.int .i64 0) (.int .i64 0) (.slice none 0 0) (.int .u32 0):=(g7.block _ (by have:=ajV.out;have h9:=Vj.size;have h8:=(Array.getElem?_eq_some_iff.1 this).1;exact h8)).trans ajV.out
   have HR7:=Lib.hid Z9
   obtain⟨z0,z1,z2,z3⟩:=Z9.cells
   have F9:=Z9.frozen 0
   have Gf:=Z9.frozen 1
   have Jt:=Z9.frozen 2
   have Ju:=Z9.frozen 3
   cases v with
   | false=>
    have HF:=Lib.hid (show jD l=(dP,0,5) by
     have e:iF s l2=(dP,5):=by rw[UW.out,if_pos rfl]
     rw[acX.out,e];rfl)
    clear Z9
    go_wp2_with fail
    obtain⟨k0,k1,k2,k3⟩:=eF.ret HR7.out (.int .i64 0) (.int .i64 0) (.slice none 0 0) (.int .u32 0)
    exact bodyPost_ret (v:= .tuple #[.agg #[.int .i64 0,.int .i64 0,.slice none 0 0,.int .u32 0],.int .i64 0,.int .i64 5]) (by simp[results,Tryz.results65,go_sem,k0,k1,k2,k3]) rfl (dX.err HF.out (EL.out w7 ajW.out _ _ _ _))
   | true=>
    have HF:=Lib.hid (show jD l=(⟨p',q',acc.take s4,d5⟩,p+4,0) by
     have e:iF s l2=(⟨p',q',acc.take s4,(acc.getD s4 ⟨0,0⟩).n⟩,0):=by rw[UW.out,if_neg (by simp)]
     rw[acX.out,e,HD5.out];rfl)
    have hh7:eF w3.heap.size w7 (.int .i64 p') (.int .i64 q') (.slice A5 s4 c5) (.int .u32 (d5:Nat)):=(g7.block _ (Array.getElem?_eq_some_iff.1 HH6.out).1).trans HH6.out
    obtain⟨y0,y1,y2,y3⟩:=hh7.cells
    clear Z9 hh7
    go_wp2_with fail
    obtain⟨k0,k1,k2,k3⟩:=eF.ret HR7.out (.int .i64 p') (.int .i64 q') (.slice A5 s4 c5) (.int .u32 (d5:Nat))
    have acZ: ∀a,A5=some a→a.block≠w.heap.size:=fun a e=>by have:=hA5 a e;omega
    have hfin:=dX.yes (w:=w) (l:=l) (A:=A5) (c:=c5) HF.out (EL.out w7 ajW.out (.int .i64 p') (.int .i64 q') (.slice A5 s4 c5) (.int .u32 (d5:Nat))) (((((aoc.out.below g7).set acZ _).set acZ _).set acZ _).set acZ _) (by show(acc.take s4).length≤c5;rw[HLEN.out];exact hsc) aob
    have ajX:dX w (jD l) (.returned (.tuple #[.agg #[.int .i64 p',.int .i64 q',.slice A5 s4 c5,.int .u32 (d5:Nat)],.int .i64 ((p:Int)+4),.int .i64 0])) ((((w7.setCell ⟨w.heap.size,0,none⟩ (.int .i64 p')).setCell ⟨w.heap.size,1,none⟩ (.int .i64 q')).setCell ⟨w.heap.size,2,none⟩ (.slice A5 s4 c5)).setCell ⟨w.heap.size,3,none⟩ (.int .u32 (d5:Nat))):=by
     simp only[G7,HLEN.out]at hfin
     exact hfin
    exact bodyPost_ret (v:= .tuple #[.agg #[.int .i64 p',.int .i64 q',.slice A5 s4 c5,.int .u32 (d5:Nat)],.int .i64 ((p:Int)+4),.int .i64 0]) (by simp[results,Tryz.results65,go_sem,k0,k1,k2,k3]) rfl ajX
theorem Vk(s:Nat)(l:List UInt8):iF s l=match jJ s l with
 | none=>(dP,4)
 | some (p,q,l2)=>if(bT (s%4) (s%4+1) 0 l2 []).2.2≠0 then(dP,(bT (s%4) (s%4+1) 0 l2 []).2.2)
  else if(bT (s%4) (s%4+1) 0 l2 []).2.1.all (· ==0)=false then(dP,5)
  else(⟨p,q,(bT (s%4) (s%4+1) 0 l2 []).1.take (s%4),((bT (s%4) (s%4+1) 0 l2 []).1.getD (s%4) ⟨0,0⟩).n⟩,0):=rfl
theorem get_put(n:Nat)(more:List UInt8)(h:n<9223372036854775808):Vl.get (Vl.put 9 n++more)=(n,(Vl.put 9 n).length,0):=by
 have h9:n<128^9:=by rw[show(128:Nat)^9=9223372036854775808 by decide];exact h
 have e:Vl.put 9 n=Vl.put 8 n:=by
  have key: ∀(f m:Nat),m<128^(f+1)→Vl.put (f+1) m=Vl.put f m:=by
   intro f
   induction f with
   | zero=>intro m hm;rw[Vl.jh (by simpa using hm),Vl.jh (by simpa using hm)]
   | succ f ih=>
    intro m hm
    by_cases hs:m<128
    ·rw[Vl.jh hs,Vl.jh hs]
    ·rw[Vl.yw hs,Vl.yw hs,ih (m/128) (by rw[Nat.div_lt_iff_lt_mul (by omega)];rw[Nat.pow_succ]at hm;exact hm)]
  exact key 8 n h9
 have:=Vl.Z4 (Vl.put 9 n++more) more 8 n 0 9 (by rw[e];rfl) h9 (by omega) (by omega)
 unfold Vl.get
 rw[this,e]
 simp[Vl.num]
theorem MR{x:Int}(z:Bool)(more:List UInt8)(hlo:x= -1∨0≤x)(hhi:x≤9223372036854775807)(hz:z=true→x≠0):wS (decide (x≠ -1)) z (kQ x++more)=some (x,more):=by
 unfold wS kQ
 by_cases h:x= -1
 ·subst h;simp
 ·have h0:0≤x:=by omega
  rw[if_pos (by simp[h]),if_neg h]
  have hn:iI (Vl.put 9 x.toNat++more)=some (x.toNat,more):=by
   unfold iI
   rw[get_put x.toNat more (by omega)]
   rw[if_pos rfl,List.drop_left]
  rw[hn]
  have hx:((x.toNat:Nat):Int)=x:=by omega
  have:(z&&x.toNat==0)=false:=by
   cases z with
   | false=>rfl
   | true=>have:=hz rfl;simp;omega
  simp only[this,Bool.false_eq_true,if_false,hx]
theorem ac0(f:bK)(h:vS f)(more:List UInt8):jS (zI f++more)=(f,more,0):=by
 obtain⟨hok,h0,lI,hb,hl⟩:=h
 have n1:iI (zI f++more)=some (f.id.toNat,Vl.put 9 (fB f).length++(fB f++more)):=by
  unfold iI zI
  rw[List.append_assoc,List.append_assoc,get_put _ _ (by omega),if_pos rfl,List.drop_left]
 have n2:iI (Vl.put 9 (fB f).length++(fB f++more))=some ((fB f).length,fB f++more):=by
  unfold iI
  rw[get_put _ _ (by omega),if_pos rfl,List.drop_left]
 have hid:((f.id.toNat:Nat):Int)=f.id:=by omega
 unfold jS
 simp only[n1,n2]
 rw[if_neg (by simp),if_neg (by omega),List.take_left,hid,Pq f hok _ hb]
 simp only[List.drop_left]
theorem MV(many:Nat): ∀(fs:List bK) (i:Nat) (acc:List bK) (more:List UInt8),(∀f∈fs,vS f)→(∀j (h:j<fs.length),(fs[j].id==33)=(i+j==many))→bT many fs.length i (fM fs++more) acc=(acc++fs,more,0)
 | [],i,acc,more,_,_=>by simp[bT,fM]
 | f::fs,i,acc,more,hg,hj=>by
  have e0:fM (f::fs)++more=zI f++(fM fs++more):=by simp[fM]
  have h1:=ac0 f (hg f (by simp)) (fM fs++more)
  have h0:=hj 0 (by simp)
  simp only[List.getElem_cons_zero,Nat.add_zero]at h0
  rw[List.length_cons,qQ,e0,h1]
  rw[if_neg (by simp),if_neg (by rw[h0];simp)]
  rw[MV many fs (i+1) (acc++[f]) more (fun g hm=>hg g (by simp[hm])) (fun j h=>by
   have:=hj (j+1) (by simpa using h)
   simp only[List.getElem_cons_succ]at this
   rw[this];congr 1;omega)]
  simp
theorem Vm(n:Nat):(List.replicate n (0:UInt8)).all (· ==0)=true:=by
 rw[List.all_eq_true];intro x hx;rw[List.eq_of_mem_replicate hx];rfl
theorem Vo(h:gU)(hok:h.ok)(hf: ∀f∈h.l,f.ok)(hv:jI h=true)(n:Nat):iF (fZ h) (yE h++List.replicate n 0)=(h,0):=by
 obtain⟨hg,h3,hp,hq⟩:=uj h hok hf hv
 obtain⟨o1,o2,o3,o4,o5⟩:=hok
 have aod: ∀f∈h.l,f.id≠33:=fun f hm e=>by
  have hv2:=hv
  simp only[jI,lu,Bool.and_eq_true,List.all_eq_true]at hv2
  have h5:=hv2.1.2.2 f hm
  obtain⟨id,m⟩:=f
  obtain rfl:id=33:=e
  rw[Zd]at h5;cases h5
 have s1:(fZ h/64%2==1)=decide (h.p≠ -1):=by
  unfold fZ
  rw[Bool.eq_iff_iff]
  by_cases h1:h.p= -1<;>by_cases h2:h.q= -1<;>simp[h1,h2]<;>omega
 have s2:(fZ h/128==1)=decide (h.q≠ -1):=by
  unfold fZ
  rw[Bool.eq_iff_iff]
  by_cases h1:h.p= -1<;>by_cases h2:h.q= -1<;>simp[h1,h2]<;>omega
 have s3:fZ h%4=h.l.length:=by
  unfold fZ
  by_cases h1:h.p= -1<;>by_cases h2:h.q= -1<;>simp[h1,h2]<;>omega
 have hs:jJ (fZ h) (yE h++List.replicate n 0)=some (h.p,h.q,fM (h.l++[bQ h.d])++List.replicate n 0):=by
  rw[zM,s1,s2]
  unfold yE
  rw[List.append_assoc,List.append_assoc,MR true _ (by omega) o2 (fun _=>by omega)]
  simp only
  rw[MR false _ (by omega) o4 (by simp)]
 have hfl:=MV h.l.length (h.l++[bQ h.d]) 0 [] (List.replicate n 0) hg (fun j hj=>by
  rw[List.length_append,List.length_singleton]at hj
  by_cases hjl:j<h.l.length
  ·have hne:=aod _ (List.getElem_mem hjl)
   rw[List.getElem_append_left hjl]
   have e1:((h.l[j]).id==33)=false:=by simp[hne]
   have e2:(0+j==h.l.length)=false:=by simp;omega
   rw[e1,e2]
  ·obtain rfl:j=h.l.length:=by omega
   rw[List.getElem_append_right (Nat.le_refl _)]
   simp[bQ])
 rw[List.length_append,List.length_singleton,List.nil_append]at hfl
 rw[Vk,hs,s3]
 simp only[hfl]
 rw[if_neg (by simp),if_neg (by rw[Vm];simp)]
 have e1:(h.l++[bQ h.d]).take h.l.length=h.l:=by rw[List.take_left]
 have e2:((h.l++[bQ h.d]).getD h.l.length ⟨0,0⟩).n=h.d:=by simp[List.getD,bQ]
 rw[e1,e2]
theorem yK(h:gU)(hok:h.ok)(hf: ∀f∈h.l,f.ok)(hv:jI h=true):5≤(bH h).length∧(bH h).length≤120:=by
 obtain⟨hg,h3,_,_⟩:=uj h hok hf hv
 have a1:=iW h.p
 have a2:=iW h.q
 have a3:=qN _ hg
 have a4:3≤(zI (bQ h.d)).length:=by
  have hl:=hg (bQ h.d) (by simp)
  have p1:0<(Vl.put 9 (bQ h.d).id.toNat).length:=(Vl.iE 9 _).1
  have p2:0<(Vl.put 9 (fB (bQ h.d)).length).length:=(Vl.iE 9 _).1
  have p3:(fB (bQ h.d)).length=1:=by
   have hb:=hl.2.2.2.1
   unfold nI bQ at hb
   rw[if_pos rfl]at hb
   split at hb
   ·injection hb with hb
    have:(fB ⟨33,h.d⟩).length=1:=by rw[←hb];rfl
    exact this
   ·cases hb
  simp only[zI,List.length_append];omega
 have a5:(fM (h.l++[bQ h.d])).length=(fM h.l).length+(zI (bQ h.d)).length:=by rw[Ep,List.length_append]
 have a6:(bH h).length=(kQ h.p).length+(kQ h.q).length+(fM (h.l++[bQ h.d])).length+2:=by
  simp only[bH,yE,List.length_cons,List.length_append]
 rw[List.length_append,List.length_singleton]at a3
 omega
theorem lH(h:gU)(hok:h.ok)(hf: ∀f∈h.l,f.ok)(hv:jI h=true):(gB h).length=(nJ (bH h)).length+4∧(nJ (bH h)).length%4=0∧8≤(nJ (bH h)).length∧(nJ (bH h)).length≤124:=by
 have a:=yK h hok hf hv
 have e:(nJ (bH h)).length=(bH h).length+aY (bH h).length:=by simp[nJ]
 refine⟨by rw[gB,List.length_append,lF,jC,List.length_set],?_,?_,?_⟩
 ·rw[e];unfold aY;omega
 ·rw[e];unfold aY;omega
 ·rw[e];unfold aY;omega
theorem Vp(h:gU)(behind:List UInt8)(hok:h.ok)(hf: ∀f∈h.l,f.ok)(hv:jI h=true):jD (gB h++behind)=(h,(gB h).length,0):=by
 obtain⟨hL,hm,h8,aue⟩:=lH h hok hf hv
 have hrest:=Vo h hok hf hv (aY (bH h).length)
 obtain⟨hg,h3,hp,hq⟩:=uj h hok hf hv
 have hbl:(jC h).length=(nJ (bH h)).length:=by rw[jC,List.length_set]
 have e0:(gB h++behind).getD 0 0=UInt8.ofNat ((nJ (bH h)).length/4):=by
  have:0<(jC h).length:=by omega
  rw[gB,List.append_assoc]
  simp only[List.getD]
  rw[List.getElem?_append_left this]
  simp only[jC,List.getElem?_set_self (show 0<(nJ (bH h)).length by omega)]
  rfl
 have e1:(gB h++behind).getD 1 0=UInt8.ofNat (fZ h):=by
  have:1<(jC h).length:=by omega
  rw[gB,List.append_assoc]
  simp only[List.getD]
  rw[List.getElem?_append_left this]
  simp only[jC,List.getElem?_set_ne (show 0≠1 by omega)]
  rfl
 have t0:((gB h++behind).getD 0 0).toNat=(nJ (bH h)).length/4:=by rw[e0,oG _ (by omega)]
 have hsz:bM (gB h++behind)=(nJ (bH h)).length+4:=by unfold bM;rw[t0];omega
 have hs4:bM (gB h++behind)-4=(jC h).length:=by omega
 have htk:(gB h++behind).take (bM (gB h++behind)-4)=jC h:=by rw[hs4,gB,List.append_assoc,List.take_left]
 have hpt:part (gB h++behind) (bM (gB h++behind)-4) 4=uf (jC h):=by
  unfold part
  have h4:(uf (jC h)).length=4:=lF _
  rw[hs4,gB,List.append_assoc,List.drop_left,List.take_append_of_le_length (by omega),List.take_of_length_le (by omega)]
 have hse:fH (gB h++behind)=(jC h,0):=by
  unfold fH
  rw[if_neg (by rw[List.length_append];omega),if_neg (by
   intro e;rw[e]at t0
   have:(0:UInt8).toNat=0:=rfl
   omega),if_neg (by rw[hsz,List.length_append,hL];omega),if_neg (by rw[htk,hpt];simp),htk]
 have Ry:fZ h<256:=by
  unfold fZ
  by_cases h1:h.p= -1<;>by_cases h2:h.q= -1<;>simp[h1,h2]<;>omega
 have aoe:fZ h/4%16=0:=by
  unfold fZ
  by_cases h1:h.p= -1<;>by_cases h2:h.q= -1<;>simp[h1,h2]<;>omega
 have hd2:(jC h).drop 2=yE h++List.replicate (aY (bH h).length) 0:=by
  unfold jC nJ bH
  rfl
 unfold jD
 rw[hse,e1,oG _ Ry]
 simp only
 rw[if_neg (by simp),if_neg (by rw[aoe];simp),hd2,hrest]
 simp only
 rw[if_neg (by simp),hsz,hL]
end Go.Proofs.YtgfpocdiojifoaaGreatDoor
