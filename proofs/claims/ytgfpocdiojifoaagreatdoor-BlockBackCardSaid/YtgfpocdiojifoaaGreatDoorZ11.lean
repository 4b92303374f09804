import Derived.Test.YtgfpocdiojifoaaGreatDoorZ10
import Derived.Deep.RegionHeld3
namespace Go.Proofs.YtgfpocdiojifoaaGreatDoor
set_option maxRecDepth 100000
set_option maxHeartbeats 8000000
open Go.RowKit
theorem dL(w:World)(o:Obj):Below w.heap.size w (w.alloc o):=(Below.refl _ _).alloc (Nat.le_refl _) _
theorem ny(a b:BitVec 32):((a.toNat:Int)+(b.toNat:Int))%4294967296=((a+b).toNat:Int):=by
 rw[BitVec.toNat_add];omega
theorem Xc(w:World):(w.alloc (.cells pI 250)).rowIs w.heap.size 250 8 (fun _=> .int .u32 0):=by
 have h:=World.rowIs_alloc w pI 250 (fun _=> .int .u32 0) (fun i hi=>by
  unfold pI at hi ⊢
  rw[Array.getElem?_replicate,if_pos (by simpa using hi)])
 have e:pI.size=8:=by simp[pI]
 rwa [e]at h
theorem abl(ws:R8)(blk:List UInt8)(hblk:blk.length=64)(w:World)(hK: ∀i,i<64→w.cell? ⟨2,i,none⟩=some (aQ (Kc i)))(h1:2<w.heap.size):
  Calls Tryz.prog 168 #[.agg ws.agg,.agg (blk.map B8).toArray] w fun e w'=>e= .returned (.agg (vV ws blk).agg)∧Below w.heap.size w w':=by
 have alx:=(zero_of_info adl).1
 have hz8:=(zero_of_info aeJ).1
 have HK:=Lib.hid hK
 have HSP:=Lib.hid (NQ blk hblk)
 have hbs:(blk.map B8).toArray.size=64:=by simpa using hblk
 have HWI:=Lib.hid (J9 blk)
 have aly:=Lib.hid (Gm blk)
 have HWS:=Lib.hid (NS blk)
 have HRN:Hid (∀n r,rounds blk (n+1) r=roundOf (Kc n) (wd blk n) (rounds blk n r)):=Lib.hid (fun _ _=>rfl)
 have HMX:Hid (vV ws blk=ws.add (rounds blk 64 ws)):=Lib.hid rfl
 generalize hbl:(blk.map B8).toArray=bl at*
 have lQ:=Lib.hid hbs
 clear hbs hbl hK hblk
 generalize words blk=W at*
 go_enter Tryz.func168,Tryz.ntmps168
 have eA:(w.alloc (.cells ws.agg 250)).heap.size=w.heap.size+1:=by simp
 have eB:((w.alloc (.cells ws.agg 250)).alloc (.cells bl 251)).heap.size=w.heap.size+1+1:=by simp
 have E8:=dL w (.cells ws.agg 250)
 have hbB:=dL (w.alloc (.cells ws.agg 250)) (.cells bl 251)
 have hbC:=dL ((w.alloc (.cells ws.agg 250)).alloc (.cells bl 251)) (.cells pI 250)
 have oK:(((w.alloc (.cells ws.agg 250)).alloc (.cells bl 251)).alloc (.cells pI 250)).rowIs w.heap.size 250 8 (fun i=>aQ (ws.get i)):=
  ((World.rowIs_alloc w ws.agg 250 (fun i=>aQ (ws.get i)) (fun i hi=>ws.Ij i hi)).alloc _).alloc _
 have Nk:(((w.alloc (.cells ws.agg 250)).alloc (.cells bl 251)).alloc (.cells pI 250)).rowIs (w.heap.size+1+1) 250 8 (fun _=> .int .u32 0):=by
  have h:=Xc ((w.alloc (.cells ws.agg 250)).alloc (.cells bl 251))
  rw[eB]at h;exact h
 have hcB:(((w.alloc (.cells ws.agg 250)).alloc (.cells bl 251)).alloc (.cells pI 250)).heap[w.heap.size+1]? =some (.cells bl 251 (0,0)):=by
  rw[hbC.block _ (by simp),←eA];exact heap_alloc_last _ _
 have hb3:Below w.heap.size w (((w.alloc (.cells ws.agg 250)).alloc (.cells bl 251)).alloc (.cells pI 250)):=(E8.trans (hbB.mono E8.size)).trans (hbC.mono (by simp;omega))
 have eC:(((w.alloc (.cells ws.agg 250)).alloc (.cells bl 251)).alloc (.cells pI 250)).heap.size=w.heap.size+1+1+1:=by simp
 have HAA:Hid (∀i,i<8→ws.agg[i]? =some (aQ (ws.get i))):=Lib.hid ws.Ij
 clear eA eB E8 hbB hbC
 go_wp2_with (refine wpList_load_row rfl 251 _ rfl (w.heap.size+1) rfl 251 bl _ _ hcB Tryz.underlying251 rfl (by rw[NR,lQ.out]) ?_)
 generalize((w.alloc (.cells ws.agg 250)).alloc (.cells bl 251)).alloc (.cells pI 250)=w3 at*
 refine(HSP.out w3).mono ?_
 rintro e w4 ⟨rfl,hb4⟩
 have ahC:=oK.of_block (hb4.block _ (by omega))
 have ahD:=Nk.of_block (hb4.block _ (by omega))
 have g4:=hb3.trans (hb4.mono hb3.size)
 have hs4:=hb4.size
 have hlast:=heap_alloc_last w4 (.cells zero64 277)
 clear oK Nk hcB hb4 hb3
 go_wp2_with (refine wpList_store_row rfl 277 _ _ rfl w4.heap.size W rfl rfl 277 zero64 hlast (by rw[BU,HWS.out]) (by rw[HWS.out];simp[zero64]) aly.out ?_)
 rw[World.setRow_alloc_new]
 have Xd:=heap_alloc_last w4 (.cells W 277)
 have hb5:=dL w4 (.cells W 277)
 have FD:=ahC.alloc (.cells W 277)
 have ahE:=ahD.alloc (.cells W 277)
 have g5:=g4.trans (hb5.mono g4.size)
 clear hlast hb5 ahC ahD g4
 generalize w4.alloc (.cells W 277)=w5 at*
 have k0:w5.drew.cell? ⟨w.heap.size,0,none⟩=some (aQ ws.a):=FD.cell (i:=0) (by omega)
 have k1:w5.drew.cell? ⟨w.heap.size,1,none⟩=some (aQ ws.b):=FD.cell (i:=1) (by omega)
 have k2:w5.drew.cell? ⟨w.heap.size,2,none⟩=some (aQ ws.c):=FD.cell (i:=2) (by omega)
 have k3:w5.drew.cell? ⟨w.heap.size,3,none⟩=some (aQ ws.d):=FD.cell (i:=3) (by omega)
 refine wp_region_held_drew (S:=fun w'=>w'.cell? ⟨w.heap.size,0,none⟩=some (aQ ws.a)∧w'.cell? ⟨w.heap.size,1,none⟩=some (aQ ws.b)∧w'.cell? ⟨w.heap.size,2,none⟩=some (aQ ws.c)∧w'.cell? ⟨w.heap.size,3,none⟩=some (aQ ws.d)) (by kernel_rfl) ⟨k0,k1,k2,k3⟩ (fun hS=> ?_)
 refine tq 0 hS ?_
 refine tp 1 rfl (fun w hSw=>by obtain⟨j0,j1,j2,j3⟩:=hSw;go_simp;all_goals(with_reducible rfl)) hS ?_
 refine tq 2 hS ?_
 refine tp 3 rfl (fun w hSw=>by obtain⟨j0,j1,j2,j3⟩:=hSw;go_simp;all_goals(with_reducible rfl)) hS ?_
 refine tq 4 hS ?_
 refine tp 5 rfl (fun w hSw=>by obtain⟨j0,j1,j2,j3⟩:=hSw;go_simp;all_goals(with_reducible rfl)) hS ?_
 refine tq 6 hS ?_
 refine tp 7 rfl (fun w hSw=>by obtain⟨j0,j1,j2,j3⟩:=hSw;go_simp;all_goals(with_reducible rfl)) hS ?_
 refine tq 8 hS ?_
 refine tq 9 hS ?_
 refine tq 10 hS ?_
 refine tq 11 hS ?_
 refine wpAnyH_done (by kernel_rfl) ?_ _
 have k4:w5.drew.drew.cell? ⟨w.heap.size,4,none⟩=some (aQ ws.e):=FD.cell (i:=4) (by omega)
 have k5:w5.drew.drew.cell? ⟨w.heap.size,5,none⟩=some (aQ ws.f):=FD.cell (i:=5) (by omega)
 have k6:w5.drew.drew.cell? ⟨w.heap.size,6,none⟩=some (aQ ws.g):=FD.cell (i:=6) (by omega)
 have k7:w5.drew.drew.cell? ⟨w.heap.size,7,none⟩=some (aQ ws.h):=FD.cell (i:=7) (by omega)
 clear k0 k1 k2 k3 hS
 go_wp2_with fail
 refine wp_region_held_drew (S:=fun w'=>w'.cell? ⟨w.heap.size,4,none⟩=some (aQ ws.e)∧w'.cell? ⟨w.heap.size,5,none⟩=some (aQ ws.f)∧w'.cell? ⟨w.heap.size,6,none⟩=some (aQ ws.g)∧w'.cell? ⟨w.heap.size,7,none⟩=some (aQ ws.h)) (by kernel_rfl) ⟨k4,k5,k6,k7⟩ (fun hS=> ?_)
 refine tq 0 hS ?_
 refine tp 1 rfl (fun w hSw=>by obtain⟨j0,j1,j2,j3⟩:=hSw;go_simp;all_goals(with_reducible rfl)) hS ?_
 refine tq 2 hS ?_
 refine tp 3 rfl (fun w hSw=>by obtain⟨j0,j1,j2,j3⟩:=hSw;go_simp;all_goals(with_reducible rfl)) hS ?_
 refine tq 4 hS ?_
 refine tp 5 rfl (fun w hSw=>by obtain⟨j0,j1,j2,j3⟩:=hSw;go_simp;all_goals(with_reducible rfl)) hS ?_
 refine tq 6 hS ?_
 refine tp 7 rfl (fun w hSw=>by obtain⟨j0,j1,j2,j3⟩:=hSw;go_simp;all_goals(with_reducible rfl)) hS ?_
 refine tq 8 hS ?_
 refine tq 9 hS ?_
 refine tq 10 hS ?_
 refine tq 11 hS ?_
 refine wpAnyH_done (by kernel_rfl) ?_ _
 clear k4 k5 k6 k7 hS
 have Xe:w5.drew.drew.heap[w4.heap.size]? =some (.cells W 277 (0,0)):=Xd
 go_wp2_with (refine wpList_load_row rfl 277 _ rfl w4.heap.size rfl 277 W _ _ Xe Tryz.underlying277 rfl (by rw[BU,HWS.out]) ?_)
 have ahF:w5.drew.drew.rowIs w.heap.size 250 8 (fun i=>aQ (ws.get i)):=FD
 have ahG:w5.drew.drew.rowIs (w.heap.size+1+1) 250 8 (fun _=> .int .u32 0):=ahE
 have g6:Below w.heap.size w w5.drew.drew:=g5.drew.drew
 clear Xd Xe FD ahE g5
 generalize w5.drew.drew=w6 at*
 go_loopw [6,7,8,9,10,11,12,13,39] (fun s6 s7 s8 s9 s10 s11 s12 s13 i wr=> ∃(k:Nat) (a b c d e f g h:BitVec 32),k≤64∧rounds blk k ws=⟨a,b,c,d,e,f,g,h⟩∧s6=aQ a∧s7=aQ b∧s8=aQ c∧s9=aQ d∧s10=aQ e∧s11=aQ f∧s12=aQ g∧s13=aQ h∧i= .int .i64 k∧wr.rowIs w.heap.size 250 8 (fun i=>aQ (ws.get i))∧wr.rowIs (w.heap.size+1+1) 250 8 (fun _=> .int .u32 0)∧Below w.heap.size w wr) (fun _ _ _ _ _ _ _ _ i _=>64-(intOf i).toNat)
 case atStart=>exact⟨0,ws.a,ws.b,ws.c,ws.d,ws.e,ws.f,ws.g,ws.h,by omega,rfl,rfl,rfl,rfl,rfl,rfl,rfl,rfl,rfl,rfl,ahF,ahG,g6⟩
 case round=>
  clear ahF ahG g6
  obtain⟨k,a,b,c,d,e,f,g,h,hk,hr,rfl,rfl,rfl,rfl,rfl,rfl,rfl,rfl,rfl,oK,Nk,hb⟩:=hrel
  by_cases hlt:k<64
  ·have hn:=HRN.out k ws
   rw[hr]at hn
   have hu:uOf ⟨a,b,c,d,e,f,g,h⟩=(rO 2 a ^^^ rO 13 a ^^^ rO 22 a)+((a &&& b) ^^^ (a &&& c) ^^^ (b &&& c)):=rfl
   have ht:tOf ⟨a,b,c,d,e,f,g,h⟩ (Kc k) (wd blk k)=h+(rO 6 e ^^^ rO 11 e ^^^ rO 25 e)+((e &&& f) ^^^ (~~~e &&& g))+Kc k+wd blk k:=rfl
   have hro:roundOf (Kc k) (wd blk k) ⟨a,b,c,d,e,f,g,h⟩=⟨tOf ⟨a,b,c,d,e,f,g,h⟩ (Kc k) (wd blk k)+uOf ⟨a,b,c,d,e,f,g,h⟩,a,b,c,d+tOf ⟨a,b,c,d,e,f,g,h⟩ (Kc k) (wd blk k),e,f,g⟩:=rfl
   rw[hro,hu,ht]at hn
   have hix:=HWI.out k hlt
   have kK:wr.drew.cell? ⟨2,k,none⟩=some (aQ (Kc k)):=(hb.cell (p:=⟨2,k,none⟩) h1).trans (HK.out k hlt)
   generalize wd blk k=wv at*
   generalize Kc k=kk at*
   have HR6:=Lib.hid (abg e)
   have alz:=Lib.hid (WO e)
   have alA:=Lib.hid (WV e)
   have HR2:=Lib.hid (abf a)
   have alB:=Lib.hid (WQ a)
   have alC:=Lib.hid (WU a)
   clear hu ht hro hr
   generalize rO 6 e=r6 at*
   generalize rO 11 e=r11 at*
   generalize rO 25 e=r25 at*
   generalize rO 2 a=r2 at*
   generalize rO 13 a=r13 at*
   generalize rO 22 a=r22 at*
   have HX1:=Lib.hid (Az r6 r11)
   generalize r6 ^^^ r11=x1 at*
   have HX2:=Lib.hid (Az x1 r25)
   generalize x1 ^^^ r25=x2 at*
   have HV1:=Lib.hid (add32 h x2)
   generalize h+x2=v1 at*
   have HA1:=Lib.hid (WM e f)
   generalize e &&& f=a1 at*
   have HNO:=Lib.hid (abk e)
   generalize ~~~e=n1 at*
   have HA2:=Lib.hid (WM n1 g)
   generalize n1 &&& g=a2 at*
   have Xf:=Lib.hid (Az a1 a2)
   generalize a1 ^^^ a2=c1 at*
   have HV2:=Lib.hid (add32 v1 c1)
   generalize v1+c1=v2 at*
   have HV3:=Lib.hid (add32 v2 kk)
   generalize v2+kk=v3 at*
   have HV4:=Lib.hid (add32 v3 wv)
   generalize v3+wv=t at*
   have HY1:=Lib.hid (Az r2 r13)
   generalize r2 ^^^ r13=y1 at*
   have HY2:=Lib.hid (Az y1 r22)
   generalize y1 ^^^ r22=y2 at*
   have uT:=Lib.hid (WM a b)
   generalize a &&& b=m1 at*
   have EX:=Lib.hid (WM a c)
   generalize a &&& c=m2 at*
   have HM3:=Lib.hid (Az m1 m2)
   generalize m1 ^^^ m2=m3 at*
   have JV:=Lib.hid (WM b c)
   generalize b &&& c=m4 at*
   have HM5:=Lib.hid (Az m3 m4)
   generalize m3 ^^^ m4=m5 at*
   have HU:=Lib.hid (ny y2 m5)
   generalize y2+m5=u at*
   have HDT:=Lib.hid (ny d t)
   generalize d+t=dt at*
   have HTU:=Lib.hid (ny t u)
   generalize t+u=tu at*
   have HN:=Lib.hid hn
   clear hn
   go_wp2_with fail
   refine wp_region_held_drew (S:=fun w'=>w'.cell? ⟨2,k,none⟩=some (aQ kk)) (by kernel_rfl) kK (fun hS=> ?_)
   refine tq 0 hS ?_
   refine tq 1 hS ?_
   refine tq 3 hS ?_
   refine tq 6 hS ?_
   refine tq 10 hS ?_
   refine tq 11 hS ?_
   refine tq 12 hS ?_
   rw[HA1.out]
   refine tq 13 hS ?_
   refine tq 14 hS ?_
   rw[HNO.out]
   refine tq 15 hS ?_
   refine tq 16 hS ?_
   rw[HA2.out]
   refine tq 17 hS ?_
   rw[Xf.out]
   refine tq 19 hS ?_
   refine tp 20 rfl (fun w hSw=>by have q0:(0:Int)≤(k:Int):=(by omega);have q1:(k:Int)<64:=(by omega);go_simp;all_goals(with_reducible rfl)) hS ?_
   refine tp 21 rfl (fun w hSw=>by have j0:=hSw;go_simp;all_goals(with_reducible rfl)) hS ?_
   refine tq 23 hS ?_
   refine tr 2 (fun K hK=> ?_)
   go_simp
   refine(HR6.out _).mono ?_
   rintro e w' ⟨rfl,rfl⟩
   go_wp2_with fail
   refine hK.out _ _ hS (fun _=> ?_)
   clear hK K
   refine tr 4 (fun K hK=> ?_)
   go_simp
   refine(alz.out _).mono ?_
   rintro e w' ⟨rfl,rfl⟩
   go_wp2_with fail
   refine hK.out _ _ hS (fun _=> ?_)
   clear hK K
   refine tq 5 hS ?_
   rw[HX1.out]
   refine tr 7 (fun K hK=> ?_)
   go_simp
   refine(alA.out _).mono ?_
   rintro e w' ⟨rfl,rfl⟩
   go_wp2_with fail
   refine hK.out _ _ hS (fun _=> ?_)
   clear hK K
   refine tq 8 hS ?_
   rw[HX2.out]
   refine tq 9 hS ?_
   rw[HV1.out]
   refine tq 18 hS ?_
   rw[HV2.out]
   refine tq 22 hS ?_
   rw[HV3.out]
   refine tq 24 hS ?_
   rw[HV4.out]
   refine tq 25 hS ?_
   refine wpAnyH_done (by kernel_rfl) ?_ _
   clear kK hix
   have q1:=HY1.out
   have q2:=HY2.out
   have q3:=uT.out
   have q4:=EX.out
   have q5:=HM3.out
   have q6:=JV.out
   have q7:=HM5.out
   have q8:=HU.out
   have q9:=HDT.out
   have q10:=HTU.out
   go_wp2_with fail
   refine(HR2.out _).mono ?_
   rintro e w' ⟨rfl,rfl⟩
   go_wp2_with fail
   refine(alB.out _).mono ?_
   rintro e w' ⟨rfl,rfl⟩
   go_wp2_with fail
   refine(alC.out _).mono ?_
   rintro e w' ⟨rfl,rfl⟩
   go_wp2_with fail
   go_roundw
   case rel=>exact⟨k+1,tu,a,b,c,dt,e,f,g,by omega,HN.out,(by first | rfl | exact congrArg (Value.int .u32) HTU.out),rfl,rfl,rfl,(by first | rfl | exact congrArg (Value.int .u32) HDT.out),rfl,rfl,rfl,by go_num,oK,Nk,hb.drew⟩
   case measure=>simp[intOf];omega
  ·obtain rfl:k=64:=by omega
   have hm:=HMX.out
   rw[hr]at hm
   have HM:=Lib.hid hm
   clear hm hr hlt hk HWI HRN HSP alx hz8
   rw[show((64:Nat):Int)=64 from rfl]
   go_wp2_with fail
   go_loopw [110] (fun i wr=> ∃(k:Nat),k≤8∧i= .int .i64 k∧wr.rowIs w.heap.size 250 8 (fun i=>if i<k then aQ (ws.get i+(R8.mk a b c d e f g h).get i)else aQ (ws.get i))∧wr.rowIs (w.heap.size+1+1) 250 8 (fun _=> .int .u32 0)∧Below w.heap.size w wr) (fun i _=>8-(intOf i).toNat)
   case atStart=>exact⟨0,by omega,rfl,oK.congr fun i _=>by rw[if_neg (by omega)],Nk,hb⟩
   case round=>
    clear oK Nk hb
    obtain⟨k,hk,rfl,oK,Nk,hb⟩:=hrel
    have hcase:k=0∨k=1∨k=2∨k=3∨k=4∨k=5∨k=6∨k=7∨k=8:=by omega
    rcases hcase with rfl | rfl | rfl | rfl | rfl | rfl | rfl | rfl | rfl
    ·have hc:wr.cell? ⟨w.heap.size,0,none⟩=some (aQ ws.a):=oK.cell (i:=0) (by omega)
     have hf:=oK.frozen 0
     have HA:=Lib.hid (ny ws.a a)
     have hix: ∀w,(Instr.index 250 (.agg #[aQ a,aQ b,aQ c,aQ d,aQ e,aQ f,aQ g,aQ h]) (.int .i64 0)).run Tryz.prog w= .ok (aQ a) w:=fun w=>gX ⟨a,b,c,d,e,f,g,h⟩ 0 (by omega) w
     rw[show((0:Nat):Int)=0 from rfl]
     generalize hxx:ws.a=xx at*
     have Gp:=Lib.hid hxx
     clear hxx
     go_wp2_with fail
     go_roundw
     case rel=>
      refine⟨1,by omega,rfl,?_,Nk.setOther (by simp;omega) _,hb.setCell (by simp) _⟩
      exact(oK.set 0 _).congr fun i _=>by
       by_cases h:i=0
       ·subst h
        rw[if_pos rfl,if_pos (by omega)]
        rw[HA.out,←Gp.out];rfl
       ·rw[if_neg h]
        by_cases h2:i<0
        ·rw[if_pos h2,if_pos (by omega)]
        ·rw[if_neg h2,if_neg (by omega)]
     case measure=>simp[intOf]
    ·have hc:wr.cell? ⟨w.heap.size,1,none⟩=some (aQ ws.b):=oK.cell (i:=1) (by omega)
     have hf:=oK.frozen 1
     have HA:=Lib.hid (ny ws.b b)
     have hix: ∀w,(Instr.index 250 (.agg #[aQ a,aQ b,aQ c,aQ d,aQ e,aQ f,aQ g,aQ h]) (.int .i64 1)).run Tryz.prog w= .ok (aQ b) w:=fun w=>gX ⟨a,b,c,d,e,f,g,h⟩ 1 (by omega) w
     rw[show((1:Nat):Int)=1 from rfl]
     generalize hxx:ws.b=xx at*
     have Gp:=Lib.hid hxx
     clear hxx
     go_wp2_with fail
     go_roundw
     case rel=>
      refine⟨2,by omega,rfl,?_,Nk.setOther (by simp;omega) _,hb.setCell (by simp) _⟩
      exact(oK.set 1 _).congr fun i _=>by
       by_cases h:i=1
       ·subst h
        rw[if_pos rfl,if_pos (by omega)]
        rw[HA.out,←Gp.out];rfl
       ·rw[if_neg h]
        by_cases h2:i<1
        ·rw[if_pos h2,if_pos (by omega)]
        ·rw[if_neg h2,if_neg (by omega)]
     case measure=>simp[intOf]
    ·have hc:wr.cell? ⟨w.heap.size,2,none⟩=some (aQ ws.c):=oK.cell (i:=2) (by omega)
     have hf:=oK.frozen 2
     have HA:=Lib.hid (ny ws.c c)
     have hix: ∀w,(Instr.index 250 (.agg #[aQ a,aQ b,aQ c,aQ d,aQ e,aQ f,aQ g,aQ h]) (.int .i64 2)).run Tryz.prog w= .ok (aQ c) w:=fun w=>gX ⟨a,b,c,d,e,f,g,h⟩ 2 (by omega) w
     rw[show((2:Nat):Int)=2 from rfl]
     generalize hxx:ws.c=xx at*
     have Gp:=Lib.hid hxx
     clear hxx
     go_wp2_with fail
     go_roundw
     case rel=>
      refine⟨3,by omega,rfl,?_,Nk.setOther (by simp;omega) _,hb.setCell (by simp) _⟩
      exact(oK.set 2 _).congr fun i _=>by
       by_cases h:i=2
       ·subst h
        rw[if_pos rfl,if_pos (by omega)]
        rw[HA.out,←Gp.out];rfl
       ·rw[if_neg h]
        by_cases h2:i<2
        ·rw[if_pos h2,if_pos (by omega)]
        ·rw[if_neg h2,if_neg (by omega)]
     case measure=>simp[intOf]
    ·have hc:wr.cell? ⟨w.heap.size,3,none⟩=some (aQ ws.d):=oK.cell (i:=3) (by omega)
     have hf:=oK.frozen 3
     have HA:=Lib.hid (ny ws.d d)
     have hix: ∀w,(Instr.index 250 (.agg #[aQ a,aQ b,aQ c,aQ d,aQ e,aQ f,aQ g,aQ h]) (.int .i64 3)).run Tryz.prog w= .ok (aQ d) w:=fun w=>gX ⟨a,b,c,d,e,f,g,h⟩ 3 (by omega) w
     rw[show((3:Nat):Int)=3 from rfl]
     generalize hxx:ws.d=xx at*
     have Gp:=Lib.hid hxx
     clear hxx
     go_wp2_with fail
     go_roundw
     case rel=>
      refine⟨4,by omega,rfl,?_,Nk.setOther (by simp;omega) _,hb.setCell (by simp) _⟩
      exact(oK.set 3 _).congr fun i _=>by
       by_cases h:i=3
       ·subst h
        rw[if_pos rfl,if_pos (by omega)]
        rw[HA.out,←Gp.out];rfl
       ·rw[if_neg h]
        by_cases h2:i<3
        ·rw[if_pos h2,if_pos (by omega)]
        ·rw[if_neg h2,if_neg (by omega)]
     case measure=>simp[intOf]
    ·have hc:wr.cell? ⟨w.heap.size,4,none⟩=some (aQ ws.e):=oK.cell (i:=4) (by omega)
     have hf:=oK.frozen 4
     have HA:=Lib.hid (ny ws.e e)
     have hix: ∀w,(Instr.index 250 (.agg #[aQ a,aQ b,aQ c,aQ d,aQ e,aQ f,aQ g,aQ h]) (.int .i64 4)).run Tryz.prog w= .ok (aQ e) w:=fun w=>gX ⟨a,b,c,d,e,f,g,h⟩ 4 (by omega) w
     rw[show((4:Nat):Int)=4 from rfl]
     generalize hxx:ws.e=xx at*
     have Gp:=Lib.hid hxx
     clear hxx
     go_wp2_with fail
     go_roundw
     case rel=>
      refine⟨5,by omega,rfl,?_,Nk.setOther (by simp;omega) _,hb.setCell (by simp) _⟩
      exact(oK.set 4 _).congr fun i _=>by
       by_cases h:i=4
       ·subst h
        rw[if_pos rfl,if_pos (by omega)]
        rw[HA.out,←Gp.out];rfl
       ·rw[if_neg h]
        by_cases h2:i<4
        ·rw[if_pos h2,if_pos (by omega)]
        ·rw[if_neg h2,if_neg (by omega)]
     case measure=>simp[intOf]
    ·have hc:wr.cell? ⟨w.heap.size,5,none⟩=some (aQ ws.f):=oK.cell (i:=5) (by omega)
     have hf:=oK.frozen 5
     have HA:=Lib.hid (ny ws.f f)
     have hix: ∀w,(Instr.index 250 (.agg #[aQ a,aQ b,aQ c,aQ d,aQ e,aQ f,aQ g,aQ h]) (.int .i64 5)).run Tryz.prog w= .ok (aQ f) w:=fun w=>gX ⟨a,b,c,d,e,f,g,h⟩ 5 (by omega) w
     rw[show((5:Nat):Int)=5 from rfl]
     generalize hxx:ws.f=xx at*
     have Gp:=Lib.hid hxx
     clear hxx
     go_wp2_with fail
     go_roundw
     case rel=>
      refine⟨6,by omega,rfl,?_,Nk.setOther (by simp;omega) _,hb.setCell (by simp) _⟩
      exact(oK.set 5 _).congr fun i _=>by
       by_cases h:i=5
       ·subst h
        rw[if_pos rfl,if_pos (by omega)]
        rw[HA.out,←Gp.out];rfl
       ·rw[if_neg h]
        by_cases h2:i<5
        ·rw[if_pos h2,if_pos (by omega)]
        ·rw[if_neg h2,if_neg (by omega)]
     case measure=>simp[intOf]
    ·have hc:wr.cell? ⟨w.heap.size,6,none⟩=some (aQ ws.g):=oK.cell (i:=6) (by omega)
     have hf:=oK.frozen 6
     have HA:=Lib.hid (ny ws.g g)
     have hix: ∀w,(Instr.index 250 (.agg #[aQ a,aQ b,aQ c,aQ d,aQ e,aQ f,aQ g,aQ h]) (.int .i64 6)).run Tryz.prog w= .ok (aQ g) w:=fun w=>gX ⟨a,b,c,d,e,f,g,h⟩ 6 (by omega) w
     rw[show((6:Nat):Int)=6 from rfl]
     generalize hxx:ws.g=xx at*
     have Gp:=Lib.hid hxx
     clear hxx
     go_wp2_with fail
     go_roundw
     case rel=>
      refine⟨7,by omega,rfl,?_,Nk.setOther (by simp;omega) _,hb.setCell (by simp) _⟩
      exact(oK.set 6 _).congr fun i _=>by
       by_cases h:i=6
       ·subst h
        rw[if_pos rfl,if_pos (by omega)]
        rw[HA.out,←Gp.out];rfl
       ·rw[if_neg h]
        by_cases h2:i<6
        ·rw[if_pos h2,if_pos (by omega)]
        ·rw[if_neg h2,if_neg (by omega)]
     case measure=>simp[intOf]
    ·have hc:wr.cell? ⟨w.heap.size,7,none⟩=some (aQ ws.h):=oK.cell (i:=7) (by omega)
     have hf:=oK.frozen 7
     have HA:=Lib.hid (ny ws.h h)
     have hix: ∀w,(Instr.index 250 (.agg #[aQ a,aQ b,aQ c,aQ d,aQ e,aQ f,aQ g,aQ h]) (.int .i64 7)).run Tryz.prog w= .ok (aQ h) w:=fun w=>gX ⟨a,b,c,d,e,f,g,h⟩ 7 (by omega) w
     rw[show((7:Nat):Int)=7 from rfl]
     generalize hxx:ws.h=xx at*
     have Gp:=Lib.hid hxx
     clear hxx
     go_wp2_with fail
     go_roundw
     case rel=>
      refine⟨8,by omega,rfl,?_,Nk.setOther (by simp;omega) _,hb.setCell (by simp) _⟩
      exact(oK.set 7 _).congr fun i _=>by
       by_cases h:i=7
       ·subst h
        rw[if_pos rfl,if_pos (by omega)]
        rw[HA.out,←Gp.out];rfl
       ·rw[if_neg h]
        by_cases h2:i<7
        ·rw[if_pos h2,if_pos (by omega)]
        ·rw[if_neg h2,if_neg (by omega)]
     case measure=>simp[intOf]
    ·obtain⟨cs,hcs,hn,hv⟩:=oK
     obtain⟨os,hos,hno,hvo⟩:=Nk
     have hv2: ∀i,i<8→cs[i]? =some (aQ ((ws.add ⟨a,b,c,d,e,f,g,h⟩).get i)):=fun i hi=>by
      rw[add_get]
      rw[hv i hi]
      simp only[hi,if_true]
     obtain rfl:=abj _ hn hv2
     rw[←HM.out]at hcs
     rw[show((8:Nat):Int)=8 from rfl]
     clear hv hvo hn hv2 HM HMX
     go_wp2_with (first | (refine wpList_load_row rfl 250 _ rfl w.heap.size rfl 250 (vV ws blk).agg _ _ hcs Tryz.underlying250 rfl ?c1 ?_) | (refine wpList_store_row rfl 250 _ _ rfl (w.heap.size+1+1) (vV ws blk).agg rfl rfl 250 os hos ?c2 ?c3 ?c4 ?_))
     case c1=>rw[qy];rfl
     case c2=>rw[qy];rfl
     case c3=>rw[hno];rfl
     case c4=>exact Cb (vV ws blk)
     refine bodyPost_ret (results_cell_row rfl _ _ (w.heap.size+1+1) 250 (vV ws blk).agg _ _ rfl (setRow_heap _ _ _ _ _ _ hos) Tryz.underlying250 rfl (by rw[qy];rfl)) rfl ?_
     exact⟨rfl,below_setRow hb (by omega) _⟩
end Go.Proofs.YtgfpocdiojifoaaGreatDoor
