import Derived.Test.YtgfpocdiojifoaaGreatDoorZ07
namespace Go.Proofs.YtgfpocdiojifoaaGreatDoor
set_option maxRecDepth 100000
set_option maxHeartbeats 8000000
open Go.RowKit
theorem bJ{io:Io}{C L lc lp pb st':Nat}{r':R4}{x':io.S}{X X1:List Nat}{w w1 w2:World}{n:Nat}(ho:Only (C::L::X) w w1∧ ∀i∈X1,i∈X∨w.heap.size≤i)(h:jd io C L lc lp pb st' r' x' X1 (w1.drewN n) w2):jd io C L lc lp pb st' r' x' X w w2:=jd.trans ho.1 ho.2 (rX h)
namespace Md
def which(io:Io)(st:Nat)(q:Int)(x:io.S):Nat×io.S:=
 let a:=io.au (204+st) (q !=0) x
 if a.1=false then(0,a.2)
 else
  let b:=io.au (216+st) (q !=1) a.2
  if b.1=false then(1,b.2)
  else
   let c:=io.au (228+st) (q !=2) b.2
   (2+c.1.toNat,c.2)
def ni(io:Io)(st p:Nat)(l q:Int)(x:io.S):(Nat×Nat)×io.S:=
 let w:=which io st q x
 if w.1=0 then
  let s:=io.au (240+16*st+p) (l !=1) w.2
  if s.1=false then((0,1),s.2)
  else
   let n:=len io 946 p l s.2
   ((0,n.1),n.2)
 else
  let n:=len io 946 p l w.2
  ((w.1,n.1),n.2)
end Md
theorem Wu(io:Io){C L lc lp pb st:Nat}{r:R4}{x:io.S}{X:List Nat}{w:World}(hM:MS io w C L lc lp pb st r x X)(hst:st<12){k wh:Nat}{q:Int}{Z:io.S}(hR:Md.which io st q x=(wh,Z))(hok:io.ok x.2 (k+3)):
  Calls Tryz.prog 228 #[PF C,io.v,.int .i64 q] w (Ig (wh≤3∧io.ok Z.2 k) (lN (.int .i64 (wh:Nat)) io C L lc lp pb st r Z X w)):=by
 obtain⟨Q,hQ⟩: ∃Q,(wh≤3∧io.ok Z.2 k)=Q:=⟨_,rfl⟩
 rw[hQ]
 have HQ:=Lib.hid hQ
 have ahl:(st:Int)<12:=by omega
 have HST:=Lib.hid hst
 unfold Md.which at hR
 obtain⟨⟨A,y⟩,hy⟩: ∃z,io.au (204+st) (q !=0) x=z:=⟨_,rfl⟩
 obtain⟨h1,ok1⟩:=qp io (hM.drewN 1) hy (at_:=204) (j:=st) (len:=12) (cp:=12) (b:=C) (off:=212) rfl (k:=k+2) hok (Md.pG rfl (by omega)) hst (by omega) (by omega)
 simp only[hy]at hR
 have H1:=Lib.hid h1
 have rW:=Lib.hid ok1
 have HR:=Lib.hid hR
 have ahm:Only (C::L::X) w w∧ ∀i∈X,i∈X∨w.heap.size≤i:=⟨Only.refl _ _,fun i hi=> .inl hi⟩
 have aew:=Lib.hid ahm
 have hdr:=hM.mod.cells.2.2.2.1
 have hc3:=hdr
 clear hy hR h1 ok1 hok hQ hM hst ahm
 go_enter Tryz.func228,Tryz.ntmps228
 go_upto_region 2 with fail
 refine wp_region_held_drew (S:=fun w2=>w2.cell? ⟨C,3,none⟩=some (.int .i64 (st:Nat))) (by kernel_rfl) hdr (fun hS=> ?_)
 refine tq 0 hS ?_
 refine tq 1 hS ?_
 refine tq 2 hS ?_
 refine tq 3 hS ?_
 refine tq 4 hS ?_
 refine tq 5 hS ?_
 refine tq 6 hS ?_
 refine tq 7 hS ?_
 refine tp 8 rfl (fun w hSw=>by have q1:=hSw;go_simp;all_goals(with_reducible rfl)) hS ?_
 refine tq 9 hS ?_
 refine tq 10 hS ?_
 refine tr 11 (fun K hK=> ?_)
 go_simp
 refine H1.out.mono ?_
 rintro e x1 ⟨rfl,Wv⟩
 obtain⟨X1,NJ,Gg,Wx⟩:=bJ aew.out Wv
 have NK:=Lib.hid NJ
 have xw:=Lib.hid (And.intro Gg Wx)
 have gx1:=NJ.mod.cells.2.2.2.1
 clear NJ Gg Wx Wv
 go_wp2_with fail
 refine hK.out _ _ gx1 (fun _=> ?_)
 clear hK K
 refine tq 12 gx1 ?_
 refine tq 13 gx1 ?_
 refine wpAnyH_done (by kernel_rfl) ?_ _
 clear hS hdr hc3 H1
 cases A with
 | false=>
  have hR:=HR.out
  simp only[if_true]at hR
  injection hR with hR1 hR2
  have rH:=Lib.hid (And.intro hR1.symm hR2.symm)
  clear hR1 hR2
  rw[show dK false=0 from rfl]
  go_wp2_with fail
  go_ret
  obtain⟨e1,e2⟩:=rH.out
  subst e1 e2
  exact⟨⟨rfl,X1,NK.out,xw.out.1,xw.out.2⟩,by rw[←HQ.out];exact⟨by omega,io.le rW.out (by omega)⟩⟩
 | true=>
  have hR:=HR.out
  simp only[Bool.true_eq_false,if_false]at hR
  obtain⟨⟨B,y2⟩,hy⟩: ∃z,io.au (216+st) (q !=1) y=z:=⟨_,rfl⟩
  obtain⟨h1,ok1⟩:=qp io (NK.out.drewN 1) hy (at_:=216) (j:=st) (len:=12) (cp:=12) (b:=C) (off:=224) rfl (k:=k+1) rW.out (Md.pG rfl (by omega)) HST.out (by omega) (by omega)
  simp only[hy]at hR
  have H1:=Lib.hid h1
  have mZ:=Lib.hid ok1
  have HR2:=Lib.hid hR
  clear hy hR h1 ok1
  rw[show dK true=1 from rfl]
  have hdr:=NK.out.mod.cells.2.2.2.1
  go_upto_region 4 with fail
  refine wp_region_held_drew (S:=fun w2=>w2.cell? ⟨C,3,none⟩=some (.int .i64 (st:Nat))) (by kernel_rfl) hdr (fun hS=> ?_)
  refine tq 0 hS ?_
  refine tq 1 hS ?_
  refine tq 2 hS ?_
  refine tq 3 hS ?_
  refine tq 4 hS ?_
  refine tq 5 hS ?_
  refine tq 6 hS ?_
  refine tq 7 hS ?_
  refine tp 8 rfl (fun w hSw=>by have q1:=hSw;go_simp;all_goals(with_reducible rfl)) hS ?_
  refine tq 9 hS ?_
  refine tq 10 hS ?_
  refine tr 11 (fun K hK=> ?_)
  go_simp
  refine H1.out.mono ?_
  rintro e x2 ⟨rfl,Wy⟩
  obtain⟨X2,NM,Gh,WB⟩:=bJ xw.out Wy
  have Si:=Lib.hid NM
  have rM:=Lib.hid (And.intro Gh WB)
  have gx2:=NM.mod.cells.2.2.2.1
  clear NM Gh WB Wy
  go_wp2_with fail
  refine hK.out _ _ gx2 (fun _=> ?_)
  clear hK K
  refine tq 12 gx2 ?_
  refine tq 13 gx2 ?_
  refine wpAnyH_done (by kernel_rfl) ?_ _
  clear hS hdr H1
  cases B with
  | false=>
   have hR:=HR2.out
   simp only[if_true]at hR
   injection hR with hR1 hR2
   have rH:=Lib.hid (And.intro hR1.symm hR2.symm)
   clear hR1 hR2
   rw[show dK false=0 from rfl]
   go_wp2_with fail
   go_ret
   obtain⟨e1,e2⟩:=rH.out
   subst e1 e2
   exact⟨⟨rfl,X2,Si.out,rM.out.1,rM.out.2⟩,by rw[←HQ.out];exact⟨by omega,io.le mZ.out (by omega)⟩⟩
  | true=>
   have hR:=HR2.out
   simp only[Bool.true_eq_false,if_false]at hR
   obtain⟨⟨D,y3⟩,hy⟩: ∃z,io.au (228+st) (q !=2) y2=z:=⟨_,rfl⟩
   obtain⟨h1,ok1⟩:=qp io (Si.out.drewN 1) hy (at_:=228) (j:=st) (len:=12) (cp:=12) (b:=C) (off:=236) rfl (k:=k) mZ.out (Md.pG rfl (by omega)) HST.out (by omega) (by omega)
   simp only[hy]at hR
   injection hR with hR1 hR2
   have rH:=Lib.hid (And.intro hR1.symm hR2.symm)
   have H1:=Lib.hid h1
   have alc:=Lib.hid ok1
   clear hy hR1 hR2 h1 ok1
   rw[show dK true=1 from rfl]
   have hdr:=Si.out.mod.cells.2.2.2.1
   go_upto_region 1 with fail
   refine wp_region_held_drew (S:=fun w2=>w2.cell? ⟨C,3,none⟩=some (.int .i64 (st:Nat))) (by kernel_rfl) hdr (fun hS=> ?_)
   refine tq 0 hS ?_
   refine tq 1 hS ?_
   refine tq 2 hS ?_
   refine tq 3 hS ?_
   refine tq 4 hS ?_
   refine tq 5 hS ?_
   refine tq 6 hS ?_
   refine tq 7 hS ?_
   refine tp 8 rfl (fun w hSw=>by have q1:=hSw;go_simp;all_goals(with_reducible rfl)) hS ?_
   refine tq 9 hS ?_
   refine tq 10 hS ?_
   refine tr 11 (fun K hK=> ?_)
   go_simp
   refine H1.out.mono ?_
   rintro e x3 ⟨rfl,ahn⟩
   obtain⟨X3,aex,adg,aho⟩:=bJ rM.out ahn
   have ald:=Lib.hid aex
   have ahp:=Lib.hid (And.intro adg aho)
   have gx3:=aex.mod.cells.2.2.2.1
   clear aex adg aho ahn
   go_wp2_with fail
   refine hK.out _ _ gx3 (fun _=> ?_)
   clear hK K
   refine tq 12 gx3 ?_
   refine tq 13 gx3 ?_
   refine wpAnyH_done (by kernel_rfl) ?_ _
   clear hS hdr H1
   have hB:dK D=(D.toNat:Int):=by cases D<;>rfl
   have hBl:D.toNat≤1:=by cases D<;>decide
   go_wp2_with fail
   go_ret
   obtain⟨e1,e2⟩:=rH.out
   subst e1 e2
   refine⟨⟨?_,X3,ald.out,ahp.out.1,ahp.out.2⟩,by rw[←HQ.out];exact⟨by omega,alc.out⟩⟩
   refine congrArg (fun n:Int=>Ending.returned (Value.int .i64 n)) ?_
   simp only[hB,IntKind.wrap_i64]
   omega
theorem aa8(io:Io){C L lc lp pb st:Nat}{r:R4}{x:io.S}{X:List Nat}{w:World}(hM:MS io w C L lc lp pb st r x X)(hst:st<12){p k:Nat}(hp:p<16)(kk:Int)(b:UInt8)(l d q:Int)(hl0:0≤l)(hl1:l≤300)
  {wh n:Nat} {Z:io.S} (hR:Md.ni io st p l q x=((wh,n),Z)) (hok:io.ok x.2 (k+14)):
  Calls Tryz.prog 206 #[PF C,io.v,.int .i64 (p:Nat),yL kk b l d q] w (Ig (wh≤3∧1≤n∧n≤273∧(n=1→wh=0)∧io.ok Z.2 k) (lN (yL 2 0 (n:Nat) 0 (wh:Nat)) io C L lc lp pb (if st<7 then(if n=1 then 9 else 8)else 11) (aS r wh (r4 r.1 r.2.1 r.2.2.1 r.2.2.2 wh)) Z X w)):=by
 obtain⟨ls,hls⟩: ∃ls,(if st<7 then(if n=1 then 9 else 8)else 11)=ls:=⟨_,rfl⟩
 rw[hls]
 have NH:=Lib.hid hls
 obtain⟨r',hr'⟩: ∃r',aS r wh (r4 r.1 r.2.1 r.2.2.1 r.2.2.2 wh)=r':=⟨_,rfl⟩
 rw[hr']
 have HR':=Lib.hid hr'
 obtain⟨Q,hQ⟩: ∃Q,(wh≤3∧1≤n∧n≤273∧(n=1→wh=0)∧io.ok Z.2 k)=Q:=⟨_,rfl⟩
 rw[hQ]
 have HQ:=Lib.hid hQ
 clear hls hr' hQ
 have iL:Hid (∀i∈C::L::X,i<w.heap.size):=Lib.hid (by
  intro i hi
  simp only[List.mem_cons]at hi
  rcases hi with rfl | rfl | hi
  ·exact hM.mod.EW
  ·exact hM.mod.BN
  ·exact io.lt hM.io i hi)
 obtain⟨bs,hbs⟩: ∃bs,w.heap.size+1=bs:=⟨_,rfl⟩
 have lQ:=Lib.hid hbs
 clear hbs
 obtain⟨W1,hW1⟩: ∃W1,(w.alloc (.cells #[.int .i64 kk,.int .u8 (b.toNat:Nat),.int .i64 l,.int .i64 d,.int .i64 q] 158)).alloc (.cells #[.int .i64 0,.int .u8 0,.int .i64 0,.int .i64 0,.int .i64 0] 158)=W1:=⟨_,rfl⟩
 have hb1:Below w.heap.size w W1:=by rw[←hW1];exact((Below.refl _ _).alloc (Nat.le_refl _) _).alloc (by simp) _
 have hM1:=hM.below hb1
 obtain⟨hsy,hrs⟩:=BO hW1
 rw[lQ.out]at hrs
 have HW1:=Lib.hid hW1
 have uT:=Lib.hid hM1
 have uH:=Lib.hid hsy
 have xu:=Lib.hid hrs
 have HB1:=Lib.hid hb1
 have ne1:C≠bs:=fun e=>by have:=iL.out C (by simp);have:=lQ.out;omega
 have Wq:bs≠C:=fun e=>ne1 e.symm
 have ng:Hid (w.heap.size ∉ C::L::X∧bs ∉ C::L::X):=Lib.hid ⟨fun h=>by have:=iL.out _ h;omega,fun h=>by have:=iL.out _ h;have:=lQ.out;omega⟩
 clear hW1 hM1 hsy hrs hb1 hM
 unfold Md.ni at hR
 obtain⟨⟨v,y⟩,hy⟩: ∃z,Md.which io st q x=z:=⟨_,rfl⟩
 simp only[hy]at hR
 have HWH:=Lib.hid (Wu io uT.out hst hy (k:=k+11) hok)
 have hpi:(p:Int)<16:=by omega
 have ahl:(st:Int)<12:=by omega
 have hc4:=uH.out.2.2.2.2
 have HR:=Lib.hid hR
 clear hy hR hok
 go_enter Tryz.func206,Tryz.ntmps206
 go_upto_region 1 with fail
 rw[HW1.out,lQ.out]
 go_wp2_with fail
 refine HWH.out.mono ?_
 rintro e x4 ⟨⟨rfl,hw4⟩,hv3,ok4⟩
 obtain⟨X4,hM4,kH,hX4⟩:=hw4
 have JV:=Lib.hid hM4
 have J5:=Lib.hid (And.intro kH hX4)
 have aa5:=Lib.hid ok4
 have hdr:=And.intro hM4.mod.cells.2.2.2.1 (aA kH ng.out.1 uH.out.2.2.1)
 clear hM4 kH hX4 ok4 HWH hc4
 by_cases hv:v=0
 ·subst hv
  have hR:=HR.out
  rw[if_pos rfl]at hR
  obtain⟨⟨B,y2⟩,hy⟩: ∃z,io.au (240+16*st+p) (l !=1) y=z:=⟨_,rfl⟩
  obtain⟨h1,ok1⟩:=qp io (JV.out.drewN 1) hy (at_:=240+16*st) (j:=p) (len:=16) (cp:=16) (b:=C) (off:=248+st*16) rfl (k:=k+10) aa5.out (Md.pG (by omega) (by omega)) hp (by omega) (by omega)
  simp only[hy]at hR
  have vk:=Lib.hid h1
  have aa7:=Lib.hid ok1
  have HR2:=Lib.hid hR
  clear hy hR h1 ok1
  go_upto_region 2 with fail
  refine wp_region_held_drew (S:=fun w2=>w2.cell? ⟨C,3,none⟩=some (.int .i64 (st:Nat))∧w2.cell? ⟨w.heap.size,2,none⟩=some (.int .i64 l)) (by kernel_rfl) hdr (fun hS=> ?_)
  refine tq 0 hS ?_
  refine tq 1 hS ?_
  refine tq 2 hS ?_
  refine tq 3 hS ?_
  refine tq 4 hS ?_
  refine tq 5 hS ?_
  refine tq 6 hS ?_
  refine tq 7 hS ?_
  refine tp 8 rfl (fun w hSw=>by obtain⟨q1,q2⟩:=hSw;go_simp;all_goals(with_reducible rfl)) hS ?_
  refine tq 9 hS ?_
  refine tq 10 hS ?_
  refine tq 11 hS ?_
  refine tq 12 hS ?_
  refine tq 13 hS ?_
  refine tq 14 hS ?_
  refine tp 15 rfl (fun w hSw=>by obtain⟨q1,q2⟩:=hSw;go_simp;all_goals(with_reducible rfl)) hS ?_
  refine tq 16 hS ?_
  refine tr 17 (fun K hK=> ?_)
  go_simp
  refine vk.out.mono ?_
  rintro e x5 ⟨rfl,hw5⟩
  obtain⟨X5,hM5,Fz,hX5⟩:=bJ J5.out hw5
  have HM5:=Lib.hid hM5
  have Vw:=Lib.hid (And.intro Fz hX5)
  have g5:=And.intro hM5.mod.cells.2.2.2.1 (aA Fz ng.out.1 uH.out.2.2.1)
  clear hM5 Fz hX5 hw5
  go_wp2_with fail
  refine hK.out _ _ g5 (fun _=> ?_)
  clear hK K
  refine tq 18 g5 ?_
  refine tq 19 g5 ?_
  refine wpAnyH_done (by kernel_rfl) ?_ _
  clear hS hdr vk g5
  cases B with
  | false=>
   have hR:=HR2.out
   simp only[if_true]at hR
   injection hR with hR1 hR2
   injection hR1 with hR1 Vx
   have rH:Hid (wh=0∧n=1∧Z=y2):=Lib.hid ⟨hR1.symm,Vx.symm,hR2.symm⟩
   clear hR1 hR2 Vx
   rw[show dK false=0 from rfl]
   obtain⟨_,_,_,c3,_⟩:=HM5.out.mod.cells
   have f3:=HM5.out.mod.kS 3
   have Ii:=qx st 9 11 x5
   rw[show(if st<7 then 9 else 11)=ls from by rw[←NH.out,rH.out.2.1];rfl]at Ii
   have HAF:=Lib.hid Ii
   have lW:Hid (Only (C::L::X) W1 x5):=Lib.hid Vw.out.1
   have qR:Hid (∀i∈X5,i∈X∨W1.heap.size≤i):=Lib.hid Vw.out.2
   have HRR:Hid (r'=r):=Lib.hid (by rw[←HR'.out,rH.out.1];rfl)
   have hrs:=(lW.out.block bs (by have:=(Array.getElem?_eq_some_iff.1 xu.out).1;exact this) ng.out.2).trans xu.out
   have z0:x5.cell? ⟨bs,0,none⟩=some (.int .i64 0):=by rw[cell_of_row x5 _ _ _ _ _ hrs];rfl
   have z1:x5.cell? ⟨bs,1,none⟩=some (.int .u8 0):=by rw[cell_of_row x5 _ _ _ _ _ hrs];rfl
   have z2:x5.cell? ⟨bs,2,none⟩=some (.int .i64 0):=by rw[cell_of_row x5 _ _ _ _ _ hrs];rfl
   have z3:x5.cell? ⟨bs,3,none⟩=some (.int .i64 0):=by rw[cell_of_row x5 _ _ _ _ _ hrs];rfl
   have z4:x5.cell? ⟨bs,4,none⟩=some (.int .i64 0):=by rw[cell_of_row x5 _ _ _ _ _ hrs];rfl
   have zf: ∀i,x5.frozen? ⟨bs,i,none⟩=false:=fun i=>frozen_of_row _ _ _ _ _ hrs
   have F9:=zf 0
   have Gf:=zf 1
   have Jt:=zf 2
   have Ju:=zf 3
   have zf4:=zf 4
   clear hrs zf
   clear Ii
   go_wp2_with fail
   refine HAF.out.mono ?_
   rintro e x8 ⟨rfl,rfl⟩
   go_wp2_with fail
   rw[rH.out.2.2,HRR.out]
   refine bodyPost_ret (v:=yL 2 0 (n:Nat) 0 (wh:Nat)) (by simp[results,Tryz.results206,go_sem,rH.out.1,rH.out.2.1,z0,z1,z2,z3,z4]) rfl ⟨⟨rfl,X5,?_,?_,?_⟩,by rw[←HQ.out,rH.out.2.2];have:=rH.out;exact⟨by omega,by omega,by omega,by omega,io.le aa7.out (by omega)⟩⟩
   ·have hbX:bs ∉ C::L::X5:=fun h=>by
     simp only[List.mem_cons]at h
     rcases h with h | h | h
     ·exact Wq h
     ·have:=iL.out L (by simp);have:=lQ.out;omega
     ·rcases qR.out _ h with h | h
      ·have:=iL.out bs (by simp[h]);have:=lQ.out;omega
      ·have:=(Array.getElem?_eq_some_iff.1 xu.out).1;omega
    exact(((((HM5.out.setHead (k:=3) (st':=ls) (r':=r) (by decide) rfl).aU hbX _).aU hbX _).aU hbX _).aU hbX _).aU hbX _
   ·have h0:Only (C::L::X) w x5:=(Only.of_below HB1.out).trans lW.out (fun i hi=> .inl hi)
    have hn:bs∈C::L::X∨w.heap.size≤bs:= .inr (by have:=lQ.out;omega)
    exact(((((h0.setCell (p:=⟨C,3,none⟩) (.inl (by simp)) _).setCell (p:=⟨bs,0,none⟩) hn _).setCell (p:=⟨bs,1,none⟩) hn _).setCell (p:=⟨bs,2,none⟩) hn _).setCell (p:=⟨bs,3,none⟩) hn _).setCell (p:=⟨bs,4,none⟩) hn _
   ·intro i hi
    rcases qR.out i hi with h | h
    ·exact .inl h
    ·exact .inr (Nat.le_trans HB1.out.size h)
  | true=>
   have hR:=HR2.out
   simp only[Bool.true_eq_false,if_false]at hR
   obtain⟨⟨n2,z⟩,hz⟩: ∃q,Md.len io 946 p l y2=q:=⟨_,rfl⟩
   simp only[hz]at hR
   injection hR with hR1 hR2
   injection hR1 with hR1 Vx
   subst hR1 hR2 Vx
   have HZ:=Lib.hid hz
   clear hz
   rw[show dK true=1 from rfl]
   have hdr:=aA Vw.out.1 ng.out.1 uH.out.2.2.1
   have HLEN:=Lib.hid (NG io (HM5.out.drewN 1) HZ.out (k:=k) (io.le aa7.out (by omega)) (.inr rfl) hp hl0 hl1)
   go_upto_region 5 with fail
   refine wp_region_held_drew (S:=fun w2=>w2.cell? ⟨w.heap.size,2,none⟩=some (.int .i64 l)) (by kernel_rfl) hdr (fun hS=> ?_)
   refine tq 0 hS ?_
   refine tq 1 hS ?_
   refine tq 2 hS ?_
   refine tq 3 hS ?_
   refine tq 4 hS ?_
   refine tq 5 hS ?_
   refine tp 6 rfl (fun w hSw=>by have q1:=hSw;go_simp;all_goals(with_reducible rfl)) hS ?_
   refine tr 7 (fun K hK=> ?_)
   go_simp
   refine HLEN.out.mono ?_
   rintro e x6 ⟨⟨rfl,hw6⟩,hn1,hn2,ok6⟩
   obtain⟨X6,hM6,FB,hX6⟩:=bJ Vw.out hw6
   have g6:=aA FB ng.out.1 uH.out.2.2.1
   have QG:=Lib.hid hM6
   have WE:=Lib.hid (And.intro FB hX6)
   have aey:=Lib.hid ok6
   have HN6:=Lib.hid (And.intro hn1 hn2)
   have alf:(n2:Int)≤273:=by omega
   clear hM6 FB hX6 ok6 hn1 hn2 hw6
   go_wp2_with fail
   refine hK.out _ _ g6 (fun _=> ?_)
   clear hK K
   refine tq 8 g6 ?_
   refine wpAnyH_done (by kernel_rfl) ?_ _
   clear hS hdr HLEN g6
   obtain⟨_,_,_,_,c4,c5,c6,c7⟩:=QG.out.mod.cells
   have NI:=Lib.hid (yS QG.out.mod 0 (by omega) (r4 r.1 r.2.1 r.2.2.1 r.2.2.2 0))
   rw[HR'.out]at NI
   have qR:Hid (∀i∈X6,i∈X∨W1.heap.size≤i):=Lib.hid WE.out.2
   have hsel:x6.cell? ⟨C,4+0,none⟩=some (.int .i64 (r4 r.1 r.2.1 r.2.2.1 r.2.2.2 0)):=by
    have h3:0≤3:=by omega
    rcases(by omega:0=0∨0=1∨0=2∨0=3)with h | h | h | h
    ·rw[h];exact c4
    ·rw[h];exact c5
    ·rw[h];exact c6
    ·rw[h];exact c7
   obtain⟨RQ,hRQ⟩: ∃RQ,r4 r.1 r.2.1 r.2.2.1 r.2.2.2 0=RQ:=⟨_,rfl⟩
   rw[hRQ]at hsel NI
   clear hRQ c4 c5 c6 c7
   go_wp2_with fail
   refine NI.out.mono ?_
   rintro e x7 ⟨rfl,hm7,Bd⟩
   have hM7:=QG.out.front hm7 Bd
   have WG:Only (C::L::X) W1 x7:=WE.out.1.trans Bd (fun i hi=> .inl (by simp at hi;simp[hi]))
   have HM7:=Lib.hid hM7
   have lW:=Lib.hid WG
   obtain⟨_,_,_,c3,_⟩:=hM7.mod.cells
   have f3:=hM7.mod.kS 3
   have Ii:=qx st 8 11 x7
   rw[show(if st<7 then 8 else 11)=ls from by rw[←NH.out];split;rw[if_neg (by have:=HN6.out.1;omega)];rfl]at Ii
   have HAF:=Lib.hid Ii
   have hrs:=(lW.out.block bs (by have:=(Array.getElem?_eq_some_iff.1 xu.out).1;exact this) ng.out.2).trans xu.out
   have z0:x7.cell? ⟨bs,0,none⟩=some (.int .i64 0):=by rw[cell_of_row x7 _ _ _ _ _ hrs];rfl
   have z1:x7.cell? ⟨bs,1,none⟩=some (.int .u8 0):=by rw[cell_of_row x7 _ _ _ _ _ hrs];rfl
   have z2:x7.cell? ⟨bs,2,none⟩=some (.int .i64 0):=by rw[cell_of_row x7 _ _ _ _ _ hrs];rfl
   have z3:x7.cell? ⟨bs,3,none⟩=some (.int .i64 0):=by rw[cell_of_row x7 _ _ _ _ _ hrs];rfl
   have z4:x7.cell? ⟨bs,4,none⟩=some (.int .i64 0):=by rw[cell_of_row x7 _ _ _ _ _ hrs];rfl
   have zf: ∀i,x7.frozen? ⟨bs,i,none⟩=false:=fun i=>frozen_of_row _ _ _ _ _ hrs
   have F9:=zf 0
   have Gf:=zf 1
   have Jt:=zf 2
   have Ju:=zf 3
   have zf4:=zf 4
   clear hrs zf
   clear hm7 Bd hM7 WG Ii NI hsel
   go_wp2_with fail
   refine HAF.out.mono ?_
   rintro e x8 ⟨rfl,rfl⟩
   go_wp2_with fail
   refine bodyPost_ret (v:=yL 2 0 (n2:Nat) 0 ((0:Nat):Int)) (by simp[results,Tryz.results206,go_sem,z0,z1,z2,z3,z4]) rfl ⟨⟨rfl,X6,?_,?_,?_⟩,by rw[←HQ.out];have:=HN6.out;exact⟨by omega,by omega,by omega,by omega,aey.out⟩⟩
   ·have hbX:bs ∉ C::L::X6:=fun h=>by
     simp only[List.mem_cons]at h
     rcases h with h | h | h
     ·exact Wq h
     ·have:=iL.out L (by simp);have:=lQ.out;omega
     ·rcases qR.out _ h with h | h
      ·have:=iL.out bs (by simp[h]);have:=lQ.out;omega
      ·have:=(Array.getElem?_eq_some_iff.1 xu.out).1;omega
    exact(((((HM7.out.setHead (k:=3) (st':=ls) (r':=r') (by decide) rfl).aU hbX _).aU hbX _).aU hbX _).aU hbX _).aU hbX _
   ·have h0:Only (C::L::X) w x7:=(Only.of_below HB1.out).trans lW.out (fun i hi=> .inl hi)
    have hn:bs∈C::L::X∨w.heap.size≤bs:= .inr (by have:=lQ.out;omega)
    exact(((((h0.setCell (p:=⟨C,3,none⟩) (.inl (by simp)) _).setCell (p:=⟨bs,0,none⟩) hn _).setCell (p:=⟨bs,1,none⟩) hn _).setCell (p:=⟨bs,2,none⟩) hn _).setCell (p:=⟨bs,3,none⟩) hn _).setCell (p:=⟨bs,4,none⟩) hn _
   ·intro i hi
    rcases qR.out i hi with h | h
    ·exact .inl h
    ·exact .inr (Nat.le_trans HB1.out.size h)
 ·have hR:=HR.out
  rw[if_neg hv]at hR
  have hvb:((v:Int)==0)=false:=beq_eq_false_iff_ne.2 (by omega)
  have hvi:(v:Int)<4:=by omega
  obtain⟨⟨n2,z⟩,hz⟩: ∃q,Md.len io 946 p l y=q:=⟨_,rfl⟩
  simp only[hz]at hR
  injection hR with hR1 hR2
  injection hR1 with hR1 Vx
  subst hR1 hR2 Vx
  have HZ:=Lib.hid hz
  clear hz
  go_upto_region 2 with fail
  refine wp_region_held_drew (S:=fun w2=>w2.cell? ⟨C,3,none⟩=some (.int .i64 (st:Nat))∧w2.cell? ⟨w.heap.size,2,none⟩=some (.int .i64 l)) (by kernel_rfl) hdr (fun hS=> ?_)
  refine tq 0 hS ?_
  refine tq 1 hS ?_
  refine tq 2 hS ?_
  refine wpAnyH_take (i:=3) (oi:={dst:=some 19,op:=Op.move (Operand.tmp 1),type:=273,pos:= "model.go:154",after:= #[{on:=2,ground:=Ground.guard}],guard:=some (2,true)}) (v:=undef) rfl (by kernel_rfl) (by kernel_rfl) (by kernel_rfl) (fun _ _ _ h=>h) (Or.inr ⟨by rfl,rfl⟩) hS ?_
  simp only[Act.put,List.setIfInBounds_toArray,List.set_cons_zero,List.set_cons_succ]
  refine wpAnyH_take (i:=4) (oi:={dst:=some 20,op:=Op.move (Operand.tmp 0),type:=73,pos:= "model.go:154",after:= #[{on:=2,ground:=Ground.guard}],guard:=some (2,true)}) (v:=undef) rfl (by kernel_rfl) (by kernel_rfl) (by kernel_rfl) (fun _ _ _ h=>h) (Or.inr ⟨by rfl,rfl⟩) hS ?_
  simp only[Act.put,List.setIfInBounds_toArray,List.set_cons_zero,List.set_cons_succ]
  refine wpAnyH_take (i:=5) (oi:={dst:=some 21,op:=Op.move (Operand.tmp 0),type:=73,pos:= "model.go:154",after:= #[{on:=2,ground:=Ground.guard}],guard:=some (2,true)}) (v:=undef) rfl (by kernel_rfl) (by kernel_rfl) (by kernel_rfl) (fun _ _ _ h=>h) (Or.inr ⟨by rfl,rfl⟩) hS ?_
  simp only[Act.put,List.setIfInBounds_toArray,List.set_cons_zero,List.set_cons_succ]
  refine wpAnyH_take (i:=6) (oi:={dst:=some 22,op:=Op.nilCheck (Operand.tmp 21),type:=0,pos:= "model.go:154",after:= #[{on:=5,ground:=Ground.data},{on:=2,ground:=Ground.guard}],guard:=some (2,true)}) (v:=undef) rfl (by kernel_rfl) (by kernel_rfl) (by kernel_rfl) (fun _ _ _ h=>h) (Or.inr ⟨by rfl,rfl⟩) hS ?_
  simp only[Act.put,List.setIfInBounds_toArray,List.set_cons_zero,List.set_cons_succ]
  refine wpAnyH_take (i:=7) (oi:={dst:=some 23,op:=Op.fieldAddr 146 (Operand.tmp 22) 3,type:=0,pos:= "model.go:154",after:= #[{on:=6,ground:=Ground.data},{on:=2,ground:=Ground.guard}],guard:=some (2,true)}) (v:=undef) rfl (by kernel_rfl) (by kernel_rfl) (by kernel_rfl) (fun _ _ _ h=>h) (Or.inr ⟨by rfl,rfl⟩) hS ?_
  simp only[Act.put,List.setIfInBounds_toArray,List.set_cons_zero,List.set_cons_succ]
  refine wpAnyH_take (i:=8) (oi:={dst:=some 24,op:=Op.load 3 (Operand.tmp 23),type:=3,pos:= "model.go:154",after:= #[{on:=7,ground:=Ground.data},{on:=2,ground:=Ground.guard}],guard:=some (2,true)}) (v:=undef) rfl (by kernel_rfl) (by kernel_rfl) (by kernel_rfl) (fun _ _ _ h=>h) (Or.inr ⟨by rfl,rfl⟩) hS ?_
  simp only[Act.put,List.setIfInBounds_toArray,List.set_cons_zero,List.set_cons_succ]
  refine wpAnyH_take (i:=9) (oi:={dst:=some 25,op:=Op.nilCheck (Operand.tmp 20),type:=0,pos:= "model.go:154",after:= #[{on:=4,ground:=Ground.data},{on:=2,ground:=Ground.guard}],guard:=some (2,true)}) (v:=undef) rfl (by kernel_rfl) (by kernel_rfl) (by kernel_rfl) (fun _ _ _ h=>h) (Or.inr ⟨by rfl,rfl⟩) hS ?_
  simp only[Act.put,List.setIfInBounds_toArray,List.set_cons_zero,List.set_cons_succ]
  refine wpAnyH_take (i:=10) (oi:={dst:=some 26,op:=Op.fieldAddr 146 (Operand.tmp 25) 10,type:=0,pos:= "model.go:154",after:= #[{on:=9,ground:=Ground.data},{on:=2,ground:=Ground.guard}],guard:=some (2,true)}) (v:=undef) rfl (by kernel_rfl) (by kernel_rfl) (by kernel_rfl) (fun _ _ _ h=>h) (Or.inr ⟨by rfl,rfl⟩) hS ?_
  simp only[Act.put,List.setIfInBounds_toArray,List.set_cons_zero,List.set_cons_succ]
  refine wpAnyH_take (i:=11) (oi:={dst:=some 27,op:=Op.indexAddr 130 (Operand.tmp 26) (Operand.tmp 24),type:=0,pos:= "model.go:154",after:= #[{on:=10,ground:=Ground.data},{on:=8,ground:=Ground.data},{on:=2,ground:=Ground.guard}],guard:=some (2,true)}) (v:=undef) rfl (by kernel_rfl) (by kernel_rfl) (by kernel_rfl) (fun _ _ _ h=>h) (Or.inr ⟨by rfl,rfl⟩) hS ?_
  simp only[Act.put,List.setIfInBounds_toArray,List.set_cons_zero,List.set_cons_succ]
  refine wpAnyH_take (i:=12) (oi:={dst:=some 28,op:=Op.slice 129 (Operand.tmp 27) none none none,type:=148,pos:= "model.go:154",after:= #[{on:=11,ground:=Ground.data},{on:=2,ground:=Ground.guard}],guard:=some (2,true)}) (v:=undef) rfl (by kernel_rfl) (by kernel_rfl) (by kernel_rfl) (fun _ _ _ h=>h) (Or.inr ⟨by rfl,rfl⟩) hS ?_
  simp only[Act.put,List.setIfInBounds_toArray,List.set_cons_zero,List.set_cons_succ]
  refine wpAnyH_take (i:=13) (oi:={dst:=some 29,op:=Op.move (Operand.tmp 2),type:=3,pos:= "model.go:154",after:= #[{on:=2,ground:=Ground.guard}],guard:=some (2,true)}) (v:=undef) rfl (by kernel_rfl) (by kernel_rfl) (by kernel_rfl) (fun _ _ _ h=>h) (Or.inr ⟨by rfl,rfl⟩) hS ?_
  simp only[Act.put,List.setIfInBounds_toArray,List.set_cons_zero,List.set_cons_succ]
  refine wpAnyH_take (i:=14) (oi:={dst:=some 30,op:=Op.fieldAddr 158 (Operand.tmp 7) 2,type:=0,pos:= "model.go:154",after:= #[{on:=2,ground:=Ground.guard}],guard:=some (2,true)}) (v:=undef) rfl (by kernel_rfl) (by kernel_rfl) (by kernel_rfl) (fun _ _ _ h=>h) (Or.inr ⟨by rfl,rfl⟩) hS ?_
  simp only[Act.put,List.setIfInBounds_toArray,List.set_cons_zero,List.set_cons_succ]
  refine wpAnyH_take (i:=15) (oi:={dst:=some 31,op:=Op.load 3 (Operand.tmp 30),type:=3,pos:= "model.go:154",after:= #[{on:=14,ground:=Ground.data},{on:=2,ground:=Ground.guard}],guard:=some (2,true)}) (v:=undef) rfl (by kernel_rfl) (by kernel_rfl) (by kernel_rfl) (fun _ _ _ h=>h) (Or.inr ⟨by rfl,rfl⟩) hS ?_
  simp only[Act.put,List.setIfInBounds_toArray,List.set_cons_zero,List.set_cons_succ]
  refine wpAnyH_take (i:=16) (oi:={dst:=some 32,op:=Op.binOp BinOp.neq 3 (Operand.tmp 31) (Operand.const (Value.int IntKind.i64 1)) 3,type:=4,pos:= "model.go:154",after:= #[{on:=15,ground:=Ground.data},{on:=2,ground:=Ground.guard}],guard:=some (2,true)}) (v:=undef) rfl (by kernel_rfl) (by kernel_rfl) (by kernel_rfl) (fun _ _ _ h=>h) (Or.inr ⟨by rfl,rfl⟩) hS ?_
  simp only[Act.put,List.setIfInBounds_toArray,List.set_cons_zero,List.set_cons_succ]
  refine wpAnyH_take (i:=17) (oi:={dst:=some 33,op:=Op.call {callee:=Callee.value (Operand.func 203),args:= #[Operand.tmp 19,Operand.tmp 28,Operand.tmp 29,Operand.tmp 32],argTypes:= #[273,148,3,4]},type:=3,pos:= "model.go:154",after:= #[{on:=3,ground:=Ground.data},{on:=12,ground:=Ground.data},{on:=13,ground:=Ground.data},{on:=16,ground:=Ground.data},{on:=2,ground:=Ground.chain},{on:=2,ground:=Ground.guard}],guard:=some (2,true)}) (v:=undef) rfl (by kernel_rfl) (by kernel_rfl) (by kernel_rfl) (fun _ _ _ h=>h) (Or.inr ⟨by rfl,rfl⟩) hS ?_
  simp only[Act.put,List.setIfInBounds_toArray,List.set_cons_zero,List.set_cons_succ]
  refine wpAnyH_take (i:=18) (oi:={dst:=some 34,op:=Op.binOp BinOp.eql 3 (Operand.tmp 33) (Operand.const (Value.int IntKind.i64 0)) 3,type:=4,pos:= "model.go:154",after:= #[{on:=17,ground:=Ground.data},{on:=2,ground:=Ground.guard}],guard:=some (2,true)}) (v:=undef) rfl (by kernel_rfl) (by kernel_rfl) (by kernel_rfl) (fun _ _ _ h=>h) (Or.inr ⟨by rfl,rfl⟩) hS ?_
  simp only[Act.put,List.setIfInBounds_toArray,List.set_cons_zero,List.set_cons_succ]
  refine tq 19 hS ?_
  refine wpAnyH_done (by kernel_rfl) ?_ _
  clear hS hdr
  have hdr:=aA J5.out.1 ng.out.1 uH.out.2.2.1
  have HLEN:=Lib.hid (NG io (JV.out.drewN 2) HZ.out (k:=k) (io.le aa5.out (by omega)) (.inr rfl) hp hl0 hl1)
  go_upto_region 5 with fail
  refine wp_region_held_drew (S:=fun w2=>w2.cell? ⟨w.heap.size,2,none⟩=some (.int .i64 l)) (by kernel_rfl) hdr (fun hS=> ?_)
  refine tq 0 hS ?_
  refine tq 1 hS ?_
  refine tq 2 hS ?_
  refine tq 3 hS ?_
  refine tq 4 hS ?_
  refine tq 5 hS ?_
  refine tp 6 rfl (fun w hSw=>by have q1:=hSw;go_simp;all_goals(with_reducible rfl)) hS ?_
  refine tr 7 (fun K hK=> ?_)
  go_simp
  refine HLEN.out.mono ?_
  rintro e x6 ⟨⟨rfl,hw6⟩,hn1,hn2,ok6⟩
  obtain⟨X6,hM6,FB,hX6⟩:=bJ J5.out hw6
  have g6:=aA FB ng.out.1 uH.out.2.2.1
  have QG:=Lib.hid hM6
  have WE:=Lib.hid (And.intro FB hX6)
  have aey:=Lib.hid ok6
  have HN6:=Lib.hid (And.intro hn1 hn2)
  have alf:(n2:Int)≤273:=by omega
  clear hM6 FB hX6 ok6 hn1 hn2 hw6
  go_wp2_with fail
  refine hK.out _ _ g6 (fun _=> ?_)
  clear hK K
  refine tq 8 g6 ?_
  refine wpAnyH_done (by kernel_rfl) ?_ _
  clear hS hdr HLEN g6
  obtain⟨_,_,_,_,c4,c5,c6,c7⟩:=QG.out.mod.cells
  have NI:=Lib.hid (yS QG.out.mod v (by omega) (r4 r.1 r.2.1 r.2.2.1 r.2.2.2 v))
  rw[HR'.out]at NI
  have qR:Hid (∀i∈X6,i∈X∨W1.heap.size≤i):=Lib.hid WE.out.2
  have hsel:x6.cell? ⟨C,4+v,none⟩=some (.int .i64 (r4 r.1 r.2.1 r.2.2.1 r.2.2.2 v)):=by
   have h3:v≤3:=by omega
   rcases(by omega:v=0∨v=1∨v=2∨v=3)with h | h | h | h
   ·rw[h];exact c4
   ·rw[h];exact c5
   ·rw[h];exact c6
   ·rw[h];exact c7
  obtain⟨RQ,hRQ⟩: ∃RQ,r4 r.1 r.2.1 r.2.2.1 r.2.2.2 v=RQ:=⟨_,rfl⟩
  rw[hRQ]at hsel NI
  clear hRQ c4 c5 c6 c7
  go_wp2_with fail
  refine NI.out.mono ?_
  rintro e x7 ⟨rfl,hm7,Bd⟩
  have hM7:=QG.out.front hm7 Bd
  have WG:Only (C::L::X) W1 x7:=WE.out.1.trans Bd (fun i hi=> .inl (by simp at hi;simp[hi]))
  have HM7:=Lib.hid hM7
  have lW:=Lib.hid WG
  obtain⟨_,_,_,c3,_⟩:=hM7.mod.cells
  have f3:=hM7.mod.kS 3
  have Ii:=qx st 8 11 x7
  rw[show(if st<7 then 8 else 11)=ls from by rw[←NH.out];split;rw[if_neg (by have:=HN6.out.1;omega)];rfl]at Ii
  have HAF:=Lib.hid Ii
  have hrs:=(lW.out.block bs (by have:=(Array.getElem?_eq_some_iff.1 xu.out).1;exact this) ng.out.2).trans xu.out
  have z0:x7.cell? ⟨bs,0,none⟩=some (.int .i64 0):=by rw[cell_of_row x7 _ _ _ _ _ hrs];rfl
  have z1:x7.cell? ⟨bs,1,none⟩=some (.int .u8 0):=by rw[cell_of_row x7 _ _ _ _ _ hrs];rfl
  have z2:x7.cell? ⟨bs,2,none⟩=some (.int .i64 0):=by rw[cell_of_row x7 _ _ _ _ _ hrs];rfl
  have z3:x7.cell? ⟨bs,3,none⟩=some (.int .i64 0):=by rw[cell_of_row x7 _ _ _ _ _ hrs];rfl
  have z4:x7.cell? ⟨bs,4,none⟩=some (.int .i64 0):=by rw[cell_of_row x7 _ _ _ _ _ hrs];rfl
  have zf: ∀i,x7.frozen? ⟨bs,i,none⟩=false:=fun i=>frozen_of_row _ _ _ _ _ hrs
  have F9:=zf 0
  have Gf:=zf 1
  have Jt:=zf 2
  have Ju:=zf 3
  have zf4:=zf 4
  clear hrs zf
  clear hm7 Bd hM7 WG Ii NI hsel
  go_wp2_with fail
  refine HAF.out.mono ?_
  rintro e x8 ⟨rfl,rfl⟩
  go_wp2_with fail
  refine bodyPost_ret (v:=yL 2 0 (n2:Nat) 0 ((v:Nat):Int)) (by simp[results,Tryz.results206,go_sem,z0,z1,z2,z3,z4]) rfl ⟨⟨rfl,X6,?_,?_,?_⟩,by rw[←HQ.out];have:=HN6.out;exact⟨by omega,by omega,by omega,by omega,aey.out⟩⟩
  ·have hbX:bs ∉ C::L::X6:=fun h=>by
    simp only[List.mem_cons]at h
    rcases h with h | h | h
    ·exact Wq h
    ·have:=iL.out L (by simp);have:=lQ.out;omega
    ·rcases qR.out _ h with h | h
     ·have:=iL.out bs (by simp[h]);have:=lQ.out;omega
     ·have:=(Array.getElem?_eq_some_iff.1 xu.out).1;omega
   exact(((((HM7.out.setHead (k:=3) (st':=ls) (r':=r') (by decide) rfl).aU hbX _).aU hbX _).aU hbX _).aU hbX _).aU hbX _
  ·have h0:Only (C::L::X) w x7:=(Only.of_below HB1.out).trans lW.out (fun i hi=> .inl hi)
   have hn:bs∈C::L::X∨w.heap.size≤bs:= .inr (by have:=lQ.out;omega)
   exact(((((h0.setCell (p:=⟨C,3,none⟩) (.inl (by simp)) _).setCell (p:=⟨bs,0,none⟩) hn _).setCell (p:=⟨bs,1,none⟩) hn _).setCell (p:=⟨bs,2,none⟩) hn _).setCell (p:=⟨bs,3,none⟩) hn _).setCell (p:=⟨bs,4,none⟩) hn _
  ·intro i hi
   rcases qR.out i hi with h | h
   ·exact .inl h
   ·exact .inr (Nat.le_trans HB1.out.size h)
end Go.Proofs.YtgfpocdiojifoaaGreatDoor
