import Derived.Laws.BitsAllLaws
import Derived.Test.YtgfpocdiojifoaaGreatDoorZ08
namespace Go.Proofs.YtgfpocdiojifoaaGreatDoor
set_option maxRecDepth 100000
set_option maxHeartbeats 8000000
open Go.RowKit
theorem aez(x:UInt8)(j:Nat):(bits .and .u8 ((x.toNat:Nat)/2^j) 1==1)=Md.aG (x.toNat:Nat) j:=by
 have hle:x.toNat/2^j≤x.toNat:=Nat.div_le_self _ _
 have hx:=x.toNat_lt
 have e:((x.toNat:Nat):Int)/2^j=((x.toNat/2^j:Nat):Int):=by simp
 unfold Md.aG
 rw[e,show(1:Int)=((1:Nat):Int)from rfl,u8_and_nat _ _ (by omega) (by omega),nat_mask1,Bool.eq_iff_iff]
 simp
namespace Md
def jA(io:Io)(T like:Nat)(v:Int):Nat→Nat→Bool→io.S→Nat×io.S
 | 0,m,_,x=>(m,x)
 | n+1,m,al,x=>
  jA io T like v n (2*m+(io.au (T+(if al then m+(256+256*(like/2^n%2))else m)) (aG v n) x).1.toNat) (al&&((io.au (T+(if al then m+(256+256*(like/2^n%2))else m)) (aG v n) x).1.toNat==like/2^n%2))
   (io.au (T+(if al then m+(256+256*(like/2^n%2))else m)) (aG v n) x).2
def qU(H:List UInt8)(a:Int):Nat:=if a≤(H.length:Int)then(H.getD (H.length-a.toNat) 0).toNat else 0
def lit(io:Io)(lc lp st:Nat)(a:Int)(H:List UInt8)(v:Int)(x:io.S):UInt8×io.S:=
 (UInt8.ofNat (jA io (2180+768*yU lc lp H) (qU H a) v 8 1 (decide (7≤st)) x).1,(jA io (2180+768*yU lc lp H) (qU H a) v 8 1 (decide (7≤st)) x).2)
theorem WH(H:List UInt8)(a:Int):qU H a<256:=by
 unfold qU
 split
 ·exact(H.getD _ 0).toNat_lt
 ·decide
end Md
theorem aeA(io:Io){C L lc lp pb st:Nat}{r:R4}{x:io.S}{X:List Nat}{w:World}(hM:MS io w C L lc lp pb st r x X)(hlc:lc≤4)(hlp:lp≤4)(hst:st<12)(hr:1≤r.1){k:Nat}(A:Option Addr)(H:List UInt8)(c:Nat)(hB:Bytes w A H)(hc:H.length≤c)(hH:H.length≤1000000000)
  (kk:Int) (b:UInt8) (l d q:Int) {R:UInt8} {Z:io.S} (hR:Md.lit io lc lp st r.1 H (b.toNat:Nat) x=(R,Z)) (hok:io.ok x.2 (k+8)):
  Calls Tryz.prog 204 #[PF C,io.v,.slice A H.length c,yL kk b l d q] w (Ig (io.ok Z.2 k) (lN (yL 0 R 0 0 0) io C L lc lp pb (bU st) r Z X w)):=by
 obtain⟨ls,hls⟩: ∃ls,bU st=ls:=⟨_,rfl⟩
 rw[hls]
 have NH:=Lib.hid hls
 clear hls
 obtain⟨bs,hbs⟩: ∃bs,w.heap.size+1=bs:=⟨_,rfl⟩
 have lQ:=Lib.hid hbs
 clear hbs
 have hHi:(H.length:Int)≤1000000000:=by omega
 have hci:(H.length:Int)≤(c:Int):=by omega
 obtain⟨W1,hW1⟩: ∃W1,(w.alloc (.cells #[.int .i64 kk,.int .u8 (b.toNat:Nat),.int .i64 l,.int .i64 d,.int .i64 q] 158)).alloc (.cells #[.int .i64 0,.int .u8 0,.int .i64 0,.int .i64 0,.int .i64 0] 158)=W1:=⟨_,rfl⟩
 have iL:Hid (∀i∈C::L::X,i<w.heap.size):=Lib.hid (by
  intro i hi
  simp only[List.mem_cons]at hi
  rcases hi with rfl | rfl | hi
  ·exact hM.mod.EW
  ·exact hM.mod.BN
  ·exact io.lt hM.io i hi)
 have hb1:Below w.heap.size w W1:=by rw[←hW1];exact((Below.refl _ _).alloc (Nat.le_refl _) _).alloc (by simp) _
 have hM1:=hM.below hb1
 have HW1:=Lib.hid hW1
 have uT:=Lib.hid hM1
 have adh:=hM1.mod.lit
 have hlit: ∀w',Below W1.heap.size W1 w'→w'.cell? ⟨C,440,none⟩=some (.slice (some ⟨L,0,none⟩) (2^(lc+lp):Nat) (2^(lc+lp):Nat)):=fun w' h=>(h.cell (p:=⟨C,440,none⟩) hM1.mod.EW).trans adh
 have WI:=Lib.hid hlit
 have E5:=Lib.hid (hB.below hb1)
 have hck:=aa3 (lp:=lp) H (show lc≤8 by omega)
 obtain⟨K,hK⟩: ∃K,yU lc lp H=K:=⟨_,rfl⟩
 have aht:=Lib.hid (fun(n:Nat)=>show Calls Tryz.prog 222 #[PF C,.slice A H.length c] (W1.drewN n) (J4 (.int .i64 (K:Nat)) (W1.drewN n))from by
  rw[←hK]
  exact aa4 (uT.out.drewN n).mod hlc hlp A H c (E5.out.drewN n) hc hH)
 rw[hK]at hck
 unfold Md.lit at hR
 rw[hK]at hR
 injection hR with hR1 hR2
 have HR:=Lib.hid (And.intro hR1 hR2)
 have HB1:=Lib.hid hb1
 have alh:(K:Int)<((2^(lc+lp):Nat):Int):=by omega
 have h2s:2^(lc+lp)≤2^8:=Nat.pow_le_pow_right (by omega) (by omega)
 have HCK:=Lib.hid (And.intro hck h2s)
 obtain⟨N2,hN2⟩: ∃N,2^(lc+lp)=N:=⟨_,rfl⟩
 have rP:=Lib.hid hN2
 rw[hN2]at WI alh
 clear hW1 hM1 adh hlit hB hb1 hK hck hR1 hR2 h2s hM hN2
 have hdr:Below W1.heap.size W1 (W1.drewN 1):=below_drewN (Below.refl _ _) _
 go_enter Tryz.func204,Tryz.ntmps204
 go_upto_region 1 with fail
 rw[HW1.out,lQ.out]
 refine wp_region_held_drew (S:=fun w2=>Below W1.heap.size W1 w2) (by kernel_rfl) hdr (fun hS=> ?_)
 refine tq 0 hS ?_
 refine tq 1 hS ?_
 refine tq 2 hS ?_
 refine tp 3 rfl (fun w hSw=>by have q1:=WI.out w hSw;go_simp;all_goals(with_reducible rfl)) hS ?_
 refine tq 4 hS ?_
 refine tq 5 hS ?_
 refine tr 6 (fun K hK=> ?_)
 go_simp
 refine(aht.out _).mono ?_
 rintro e x4 ⟨rfl,kb4⟩
 have g4:=hdr.trans (kb4.mono hdr.size)
 go_wp2_with fail
 refine hK.out _ _ g4 (fun _=> ?_)
 clear hK K
 refine tq 7 g4 ?_
 refine tq 8 g4 ?_
 refine tq 9 g4 ?_
 refine wpAnyH_done (by kernel_rfl) ?_ _
 have JV:=Lib.hid (uT.out.below g4)
 have HG4:=Lib.hid (HB1.out.trans (g4.mono HB1.out.size))
 have ali:=Lib.hid (E5.out.below g4)
 have WJ:Hid (W1.heap.size≤x4.heap.size):=Lib.hid g4.size
 have hbx:W1.cell? ⟨w.heap.size,1,none⟩=some (.int .u8 (b.toNat:Nat)):=by
  have h:W1.heap[w.heap.size]? =some (.cells [Value.int .i64 kk,.int .u8 (b.toNat:Nat),.int .i64 l,.int .i64 d,.int .i64 q].toArray 158 (0,0)):=by
   rw[←HW1.out];exact(Below.heap_alloc _ _ _ (by simp)).trans (heap_alloc_last w _)
  rw[cell_of_row W1 _ _ _ _ _ h];rfl
 have HBX:Hid (x4.cell? ⟨w.heap.size,1,none⟩=some (.int .u8 (b.toNat:Nat))):=Lib.hid ((g4.cell (p:=⟨w.heap.size,1,none⟩) (by rw[←HW1.out];simp;omega)).trans hbx)
 have xu:Hid (x4.heap[bs]? =some (.cells [Value.int .i64 0,.int .u8 0,.int .i64 0,.int .i64 0,.int .i64 0].toArray 158 (0,0))):=Lib.hid (by rw[←lQ.out];exact(g4.block _ (by rw[←HW1.out];simp)).trans (by rw[←HW1.out];have h:=heap_alloc_last (w.alloc (.cells #[.int .i64 kk,.int .u8 (b.toNat:Nat),.int .i64 l,.int .i64 d,.int .i64 q] 158)) (.cells #[.int .i64 0,.int .u8 0,.int .i64 0,.int .i64 0,.int .i64 0] 158);simpa using h))
 obtain⟨_,_,_,c3,c4,_⟩:=JV.out.mod.cells
 obtain⟨LK,hLK⟩: ∃LK,Md.qU H r.1=LK:=⟨_,rfl⟩
 have alj:LK<256:=by rw[←hLK];exact Md.WH H r.1
 have HLK:=Lib.hid hLK
 rw[hLK]at HR
 clear hS g4 kb4 hdr hbx hLK aht WI uT
 go_upto_if 35 with fail
 go_cut [10] (fun s10 wx=>x4=wx∧s10= .int .i64 (LK:Nat))
 case first=>
  by_cases hback:r.1≤(H.length:Int)
  ·obtain⟨z,hz⟩: ∃z:Nat,(H.length:Int)-r.1=(z:Int):=⟨((H.length:Int)-r.1).toNat,by omega⟩
   have hzl:(z:Int)<(H.length:Int):=by omega
   obtain⟨bb,off,rfl,_,hat⟩:=ali.out.addr (by omega)
   have cx:=hat z (by omega)
   rw[←dQ]at cx
   have aeB:Hid (((H.getD z 0).toNat:Int)=(LK:Int)):=Lib.hid (by
    rw[←HLK.out]
    unfold Md.qU
    rw[if_pos hback,show H.length-r.1.toNat=z by omega])
   generalize H.getD z 0=u at*
   clear hat
   go_wp2_with fail
   go_meet
   exact⟨rfl,congrArg (Value.int .i64) (by rw[←aeB.out];exact je (by omega) (by have:=u.toNat_lt;omega))⟩
  ·have aeB:Hid ((0:Int)=(LK:Int)):=Lib.hid (by
    rw[←HLK.out]
    unfold Md.qU
    rw[if_neg hback];rfl)
   go_wp2_with fail
   go_meet
   exact⟨rfl,congrArg (Value.int .i64) aeB.out⟩
 case rest=>
  obtain⟨rfl,rfl⟩:=hcut
  have hone:=fun y=>og y
  have hub:=fun j=>aez b j
  have alk:Hid (768*K+768≤768*2^(lc+lp)):=Lib.hid (by have:=HCK.out.1;rw[rP.out]at this ⊢;omega)
  go_upto_region 8 with fail
  have ahu:(decide ((7:Int)≤(st:Int)))=decide (7≤st):=decide_eq_decide.2 (by omega)
  rw[ahu]
  obtain⟨AL,hAL⟩: ∃AL,decide (7≤st)=AL:=⟨_,rfl⟩
  rw[hAL]at HR ⊢
  clear ahu hAL c3 c4
  go_wp2_with fail
  go_loopw [12,13,14] (fun as_ ms i wr=> ∃(j m:Nat) (al:Bool) (x':io.S) (X':List Nat),j≤8∧as_= .bool al∧ms= .int .i64 (m:Nat)∧i= .int .i64 ((j:Int)-1)∧2^(8-j)≤m∧m<2^(8-j)*2∧Hid (io.ok x'.2 (k+j))∧Hid (Md.jA io (2180+768*K) LK (b.toNat:Nat) j m al x'=Md.jA io (2180+768*K) LK (b.toNat:Nat) 8 1 AL x)∧Hid (MS io wr C L lc lp pb st r x' X'∧Only (C::L::X) x4 wr∧ ∀i∈X',i∈X∨x4.heap.size≤i)) (fun _ _ i _=>(intOf i+1).toNat)
  case atStart=>exact⟨8,1,AL,x,X,Nat.le_refl _,rfl,rfl,by go_num,by decide,by decide,Lib.hid hok,Lib.hid rfl,Lib.hid ⟨JV.out,Only.refl _ _,fun i hi=> .inl hi⟩⟩
  case round=>
   obtain⟨j,m,al,x',X',hj,rfl,rfl,rfl,hm1,hm2,Nh,HT,HM⟩:=hrel
   have ng:w.heap.size ∉ C::L::X:=fun h=>by have:=iL.out _ h;omega
   cases j with
   | zero=>
    have HRR:Hid (Z=x'∧R=UInt8.ofNat m):=Lib.hid (by
     have h:=HR.out
     rw[←HT.out]at h
     exact⟨h.2.symm,h.1.symm⟩)
    obtain⟨_,_,_,c3,_⟩:=HM.out.1.mod.cells
    have f3:=HM.out.1.mod.kS 3
    have hLS:=Ih st hst wr
    rw[NH.out]at hLS
    have xA:=Lib.hid hLS
    have hw4:=HG4.out.size
    have hrs:=(HM.out.2.1.block (bs) (by have:=(Array.getElem?_eq_some_iff.1 xu.out).1;exact this) (fun h=>by have:=iL.out _ h;have:=lQ.out;omega)).trans xu.out
    have z0:wr.cell? ⟨bs,0,none⟩=some (.int .i64 0):=by rw[cell_of_row wr _ _ _ _ _ hrs];rfl
    have z1:wr.cell? ⟨bs,1,none⟩=some (.int .u8 0):=by rw[cell_of_row wr _ _ _ _ _ hrs];rfl
    have z2:wr.cell? ⟨bs,2,none⟩=some (.int .i64 0):=by rw[cell_of_row wr _ _ _ _ _ hrs];rfl
    have z3:wr.cell? ⟨bs,3,none⟩=some (.int .i64 0):=by rw[cell_of_row wr _ _ _ _ _ hrs];rfl
    have z4:wr.cell? ⟨bs,4,none⟩=some (.int .i64 0):=by rw[cell_of_row wr _ _ _ _ _ hrs];rfl
    have zf: ∀i,wr.frozen? ⟨bs,i,none⟩=false:=fun i=>frozen_of_row _ _ _ _ _ hrs
    have F9:=zf 0
    have Gf:=zf 1
    have Jt:=zf 2
    have Ju:=zf 3
    have zf4:=zf 4
    have ne1:C≠bs:=fun e=>by have:=iL.out C (by simp);have:=lQ.out;omega
    have Wq:bs≠C:=fun e=>ne1 e.symm
    clear hLS hw4 hrs zf
    go_wp2_with fail
    refine xA.out.mono ?_
    rintro e w2 ⟨rfl,rfl⟩
    have hRv:((R.toNat:Nat):Int)=(m:Int)%256:=by rw[HRR.out.2,UInt8.toNat_ofNat'];simp
    go_wp2_with fail
    refine bodyPost_ret (v:=yL 0 R 0 0 0) (by simp[results,Tryz.results204,go_sem,hRv,z0,z1,z2,z3,z4]) rfl ⟨⟨rfl,X',?_,?_,?_⟩,?_⟩
    ·have hbs:=lQ.out
     have hx4:=(Array.getElem?_eq_some_iff.1 xu.out).1
     have hbX:bs ∉ C::L::X':=fun h=>by
      simp only[List.mem_cons]at h
      rcases h with h | h | h
      ·exact Wq h
      ·have:=iL.out L (by simp);omega
      ·rcases HM.out.2.2 _ h with h | h
       ·have:=iL.out bs (by simp[h]);omega
       ·omega
     rw[HRR.out.1]
     exact(((((HM.out.1.setHead (k:=3) (st':=ls) (r':=r) (by decide) rfl).aU hbX _).aU hbX _).aU hbX _).aU hbX _).aU hbX _
    ·have hbs:=lQ.out
     have h0:Only (C::L::X) w wr:=(Only.of_below HG4.out).trans HM.out.2.1 (fun i hi=> .inl hi)
     have hn:bs∈C::L::X∨w.heap.size≤bs:= .inr (by omega)
     exact(((((h0.setCell (p:=⟨C,3,none⟩) (.inl (by simp)) _).setCell (p:=⟨bs,0,none⟩) hn _).setCell (p:=⟨bs,1,none⟩) hn _).setCell (p:=⟨bs,2,none⟩) hn _).setCell (p:=⟨bs,3,none⟩) hn _).setCell (p:=⟨bs,4,none⟩) hn _
    ·intro i hi
     rcases HM.out.2.2 i hi with h | h
     ·exact .inl h
     ·exact .inr (Nat.le_trans HG4.out.size h)
    ·rw[HRR.out.1];exact Nh.out
   | succ j=>
    have aqN:wr.cell? ⟨w.heap.size,1,none⟩=some (.int .u8 (b.toNat:Nat)):=aA HM.out.2.1 ng HBX.out
    have Gi:m<256:=by
     have e:2^(8-(j+1))*2=2^(8-j):=by rw[←Nat.pow_succ];congr 1;omega
     have:2^(8-j)≤2^8:=Nat.pow_le_pow_right (by omega) (by omega)
     omega
    obtain⟨lb,aeD⟩: ∃lb,LK/2^j%2=lb:=⟨_,rfl⟩
    have adi:lb=0∨lb=1:=by omega
    have hlb:(LK:Int)/2^j%2=(lb:Int):=by rw[←aeD];simp
    obtain⟨jj,hjj⟩: ∃jj,(if al then m+(256+256*lb)else m)=jj:=⟨_,rfl⟩
    have alm:jj<768:=by rw[←hjj];split<;>omega
    obtain⟨⟨B,y⟩,hz⟩: ∃z,io.au (2180+768*K+jj) (Md.aG (b.toNat:Nat) j) x'=z:=⟨_,rfl⟩
    obtain⟨h1,ok1⟩:=qp io HM.out.1 hz (at_:=2180+768*K) (j:=jj) (len:=768) (cp:=768) (b:=L) (off:=K*768) rfl (k:=k+j) Nh.out (Md.Wi (by omega) (by have:=alk.out;omega)) alm (by omega) (by omega)
    have HT2:Hid (Md.jA io (2180+768*K) LK (b.toNat:Nat) j (2*m+B.toNat) (al&&(B.toNat==lb)) y=Md.jA io (2180+768*K) LK (b.toNat:Nat) 8 1 AL x):=Lib.hid (by
     rw[←HT.out]
     conv=>rhs;unfold Md.jA
     rw[aeD,hjj,hz])
    have H1:=Lib.hid h1
    have rW:=Lib.hid ok1
    have HB1:=Lib.hid hm1
    have HB2:=Lib.hid hm2
    have Nj:(m:Int)<256:=by omega
    have hj8:(j:Int)<8:=by omega
    have h2: ∀B:Bool,B.toNat≤1:=fun B=>by cases B<;>decide
    have e2:2^(8-j)=2^(8-(j+1))*2:=by rw[←Nat.pow_succ];congr 1;omega
    have HE2:=Lib.hid e2
    clear h1 ok1 hm1 hm2 hz aeD Gi e2
    cases al
    case false=>
     simp only[Bool.false_eq_true,if_false]at hjj
     subst hjj
     rcases adi with rfl | rfl
     ·skip
      go_wp2_with fail
      refine H1.out.mono ?_
      rintro e w2 ⟨rfl,hw2⟩
      have HW2:=Lib.hid (jd.trans HM.out.2.1 HM.out.2.2 hw2)
      clear hw2
      cases B
      case false=>
       rw[show dK false=0 from rfl]
       go_wp2_with fail
       obtain⟨X3,EY,eU,EZ⟩:=HW2.out
       exact⟨⟨j,2*m+0,false,y,X3,by omega,rfl,by go_num,by go_num,by have:=HB1.out;have:=HE2.out;omega,by have:=HB2.out;have:=HE2.out;omega,rW,HT2,Lib.hid ⟨EY,eU,EZ⟩⟩,by simp[intOf]<;>omega⟩
      case true=>
       rw[show dK true=1 from rfl]
       go_wp2_with fail
       obtain⟨X3,EY,eU,EZ⟩:=HW2.out
       exact⟨⟨j,2*m+1,false,y,X3,by omega,rfl,by go_num,by go_num,by have:=HB1.out;have:=HE2.out;omega,by have:=HB2.out;have:=HE2.out;omega,rW,HT2,Lib.hid ⟨EY,eU,EZ⟩⟩,by simp[intOf]<;>omega⟩
     ·skip
      go_wp2_with fail
      refine H1.out.mono ?_
      rintro e w2 ⟨rfl,hw2⟩
      have HW2:=Lib.hid (jd.trans HM.out.2.1 HM.out.2.2 hw2)
      clear hw2
      cases B
      case false=>
       rw[show dK false=0 from rfl]
       go_wp2_with fail
       obtain⟨X3,EY,eU,EZ⟩:=HW2.out
       exact⟨⟨j,2*m+0,false,y,X3,by omega,rfl,by go_num,by go_num,by have:=HB1.out;have:=HE2.out;omega,by have:=HB2.out;have:=HE2.out;omega,rW,HT2,Lib.hid ⟨EY,eU,EZ⟩⟩,by simp[intOf]<;>omega⟩
      case true=>
       rw[show dK true=1 from rfl]
       go_wp2_with fail
       obtain⟨X3,EY,eU,EZ⟩:=HW2.out
       exact⟨⟨j,2*m+1,false,y,X3,by omega,rfl,by go_num,by go_num,by have:=HB1.out;have:=HE2.out;omega,by have:=HB2.out;have:=HE2.out;omega,rW,HT2,Lib.hid ⟨EY,eU,EZ⟩⟩,by simp[intOf]<;>omega⟩
    case true=>
     simp only[if_true]at hjj
     rcases adi with rfl | rfl
     ·have aln:(m:Int)+256=(jj:Int):=by omega
      go_wp2_with fail
      refine H1.out.mono ?_
      rintro e w2 ⟨rfl,hw2⟩
      have HW2:=Lib.hid (jd.trans HM.out.2.1 HM.out.2.2 hw2)
      clear hw2
      cases B
      case false=>
       rw[show dK false=0 from rfl]
       go_wp2_with fail
       obtain⟨X3,EY,eU,EZ⟩:=HW2.out
       exact⟨⟨j,2*m+0,true,y,X3,by omega,rfl,by go_num,by go_num,by have:=HB1.out;have:=HE2.out;omega,by have:=HB2.out;have:=HE2.out;omega,rW,HT2,Lib.hid ⟨EY,eU,EZ⟩⟩,by simp[intOf]<;>omega⟩
      case true=>
       rw[show dK true=1 from rfl]
       go_wp2_with fail
       obtain⟨X3,EY,eU,EZ⟩:=HW2.out
       exact⟨⟨j,2*m+1,false,y,X3,by omega,rfl,by go_num,by go_num,by have:=HB1.out;have:=HE2.out;omega,by have:=HB2.out;have:=HE2.out;omega,rW,HT2,Lib.hid ⟨EY,eU,EZ⟩⟩,by simp[intOf]<;>omega⟩
     ·have aln:(m:Int)+512=(jj:Int):=by omega
      go_wp2_with fail
      refine H1.out.mono ?_
      rintro e w2 ⟨rfl,hw2⟩
      have HW2:=Lib.hid (jd.trans HM.out.2.1 HM.out.2.2 hw2)
      clear hw2
      cases B
      case false=>
       rw[show dK false=0 from rfl]
       go_wp2_with fail
       obtain⟨X3,EY,eU,EZ⟩:=HW2.out
       exact⟨⟨j,2*m+0,false,y,X3,by omega,rfl,by go_num,by go_num,by have:=HB1.out;have:=HE2.out;omega,by have:=HB2.out;have:=HE2.out;omega,rW,HT2,Lib.hid ⟨EY,eU,EZ⟩⟩,by simp[intOf]<;>omega⟩
      case true=>
       rw[show dK true=1 from rfl]
       go_wp2_with fail
       obtain⟨X3,EY,eU,EZ⟩:=HW2.out
       exact⟨⟨j,2*m+1,true,y,X3,by omega,rfl,by go_num,by go_num,by have:=HB1.out;have:=HE2.out;omega,by have:=HB2.out;have:=HE2.out;omega,rW,HT2,Lib.hid ⟨EY,eU,EZ⟩⟩,by simp[intOf]<;>omega⟩
def eP(r:R4):Prop:=(1≤r.1∧1≤r.2.1∧1≤r.2.2.1∧1≤r.2.2.2)∧(r.1≤4294967296∧r.2.1≤4294967296∧r.2.2.1≤4294967296∧r.2.2.2≤4294967296)
theorem eP.front{r:R4}(h:eP r){n:Nat}{d:Int}(h1:1≤d)(h2:d≤4294967296):eP (aS r n d):=by
 obtain⟨⟨a1,a2,a3,a4⟩,b1,b2,b3,b4⟩:=h
 unfold aS
 split
 ·exact⟨⟨h1,a2,a3,a4⟩,h2,b2,b3,b4⟩
 ·exact⟨⟨h1,a1,a3,a4⟩,h2,b1,b3,b4⟩
 ·exact⟨⟨h1,a1,a2,a4⟩,h2,b1,b2,b4⟩
 ·exact⟨⟨h1,a1,a2,a3⟩,h2,b1,b2,b3⟩
theorem eP.at_{r:R4}(h:eP r)(n:Nat):1≤r4 r.1 r.2.1 r.2.2.1 r.2.2.2 n∧r4 r.1 r.2.1 r.2.2.1 r.2.2.2 n≤4294967296:=by
 obtain⟨⟨a1,a2,a3,a4⟩,b1,b2,b3,b4⟩:=h
 unfold r4
 split
 ·exact⟨a1,b1⟩
 ·exact⟨a2,b2⟩
 ·exact⟨a3,b3⟩
 ·exact⟨a4,b4⟩
theorem Bytes.only{X:List Nat}{w w':World}{A:Option Addr}{l:List UInt8}(h:Bytes w A l)(ho:Only X w w')(hX: ∀a,A=some a→a.block ∉ X):Bytes w' A l:=
 h.keep ho.size fun p hp hlt=>by
  have hb:p.block ∉ X:=by
   cases A with
   | none=>simp at hp
   | some a=>simp at hp;rw[←hp];exact hX a rfl
  unfold World.cell?
  rw[ho.block _ hlt hb]
theorem J6{st:Nat}(h:st<12):bU st<12:=by unfold bU;split;omega;split<;>omega
namespace Md
def sym(io:Io)(lc lp pb st:Nat)(r:R4)(H:List UInt8)(k:Int)(b:UInt8)(l d q:Int)(x:io.S):Sy×Nat×R4×io.S:=
 let p:=H.length%2^pb
 let a:=io.au (16*st+p) (k !=0) x
 if a.1=false then
  let z:=lit io lc lp st r.1 H (b.toNat:Nat) a.2
  (⟨0,z.1,0,0,0⟩,bU st,r,z.2)
 else
  let c:=io.au (192+st) (k !=1) a.2
  if c.1=false then
   let n:=len io 432 p l c.2
   let z:=dist io n.1 d n.2
   (⟨1,0,n.1,z.1,0⟩,(if st<7 then 7 else 10),aS r 3 (z.1:Nat),z.2)
  else
   let z:=ni io st p l q c.2
   (⟨2,0,z.1.2,0,z.1.1⟩,(if st<7 then(if z.1.2=1 then 9 else 8)else 11),aS r z.1.1 (r4 r.1 r.2.1 r.2.2.1 r.2.2.2 z.1.1),z.2)
end Md
theorem abe{n pb:Nat}(hpb:pb≤4):bits .and .i64 (n:Int) (wrap64 (wrap64 (2^pb)-1))=((n%2^pb:Nat):Int):=by
 have h1:1≤2^pb:=Nat.one_le_two_pow
 have h2:2^pb≤2^4:=Nat.pow_le_pow_right (by omega) hpb
 have e1:wrap64 ((2:Int)^pb)=((2^pb:Nat):Int):=by rw[show(2:Int)^pb=((2^pb:Nat):Int) by simp];exact je (by omega) (by omega)
 have e2:wrap64 (((2^pb:Nat):Int)-1)=((2^pb-1:Nat):Int):=by rw[je (by omega) (by omega)];omega
 rw[e1,e2,rV _ _ (by omega)]
 omega
theorem WL(io:Io){C L lc lp pb st:Nat}{r:R4}{x:io.S}{X:List Nat}{w:World}(hM:MS io w C L lc lp pb st r x X)(hlc:lc≤4)(hlp:lp≤4)(hpb:pb≤4)(hst:st<12)(hr:eP r){k:Nat}(A:Option Addr)(H:List UInt8)(c:Nat)(hB:Bytes w A H)(hc:H.length≤c)(hH:H.length≤1000000000)(hHX: ∀a,A=some a→a.block ∉ C::L::X)
  (kk:Int) (b:UInt8) (l d q:Int) (hrl:(io.au (16*st+H.length%2^pb) (kk !=0) x).1=true→0≤l∧l≤300)
  (hrd:(io.au (16*st+H.length%2^pb) (kk !=0) x).1=true→(io.au (192+st) (kk !=1) (io.au (16*st+H.length%2^pb) (kk !=0) x).2).1=false→0≤d∧d≤4294967295) {s':Sy} {st':Nat} {r':R4} {Z:io.S} (hR:Md.sym io lc lp pb st r H kk b l d q x=(s',st',r',Z)) (hok:io.ok x.2 (k+54)):
  Calls Tryz.prog 164 #[PF C,io.v,.slice A H.length c,yL kk b l d q] w (Ig (s'.k≤2∧s'.r≤3∧s'.l≤273∧(s'.d:Int)≤4294967296∧st'<12∧eP r'∧io.ok Z.2 k) (lN s'.val io C L lc lp pb st' r' Z X w)):=by
 obtain⟨Q,hQ⟩: ∃Q,(s'.k≤2∧s'.r≤3∧s'.l≤273∧(s'.d:Int)≤4294967296∧st'<12∧eP r'∧io.ok Z.2 k)=Q:=⟨_,rfl⟩
 rw[hQ]
 have HQ:=Lib.hid hQ
 have HGR:=Lib.hid hr
 have HHX:=Lib.hid hHX
 clear hQ
 obtain⟨p,hp'⟩: ∃p,H.length%2^pb=p:=⟨_,rfl⟩
 have aeE:p<16:=by
  have h1:1≤2^pb:=Nat.one_le_two_pow
  have h2:2^pb≤2^4:=Nat.pow_le_pow_right (by omega) hpb
  have:=Nat.mod_lt H.length h1
  omega
 have hpos:=abe (n:=H.length) hpb
 unfold Md.sym at hR
 simp only[hp']at hR hpos hrl hrd
 have hpi:(p:Int)<16:=by omega
 have ahl:(st:Int)<12:=by omega
 have hci:(H.length:Int)≤(c:Int):=by omega
 have hHi:(H.length:Int)≤1000000000:=by omega
 have alo:=Lib.hid hB
 have iL:Hid (∀i∈C::L::X,i<w.heap.size):=Lib.hid (by
  intro i hi
  simp only[List.mem_cons]at hi
  rcases hi with rfl | rfl | hi
  ·exact hM.mod.EW
  ·exact hM.mod.BN
  ·exact io.lt hM.io i hi)
 obtain⟨bs,hbs⟩: ∃bs,w.heap.size+1=bs:=⟨_,rfl⟩
 have lQ:=Lib.hid hbs
 clear hbs
 obtain⟨W1,hW1⟩: ∃W1,(w.alloc (.cells #[.int .i64 kk,.int .u8 (b.toNat:Nat),.int .i64 l,.int .i64 d,.int .i64 q] 158)).alloc (.cells #[.int .i64 0,.int .u8 0,.int .i64 0,.int .i64 0,.int .i64 0] 158)=W1:=⟨_,rfl⟩
 have hb1:Below w.heap.size w W1:=by rw[←hW1];exact((Below.refl _ _).alloc (Nat.le_refl _) _).alloc (by simp) _
 have hM1:=hM.below hb1
 obtain⟨hsy,hrs⟩:=BO hW1
 rw[lQ.out]at hrs
 have HW1:=Lib.hid hW1
 have uT:=Lib.hid hM1
 have uH:=Lib.hid hsy
 have xu:=Lib.hid hrs
 have HB1:=Lib.hid hb1
 have ne1:C≠bs:=fun e=>by have:=iL.out C (by simp);have:=lQ.out;omega
 have Wq:bs≠C:=fun e=>ne1 e.symm
 have ng:Hid (w.heap.size ∉ C::L::X∧bs ∉ C::L::X):=Lib.hid ⟨fun h=>by have:=iL.out _ h;omega,fun h=>by have:=iL.out _ h;have:=lQ.out;omega⟩
 clear hW1 hM1 hsy hrs hb1 hM
 have E5:=Lib.hid (alo.out.below HB1.out)
 obtain⟨⟨B,y⟩,hy⟩: ∃z,io.au (16*st+p) (kk !=0) x=z:=⟨_,rfl⟩
 obtain⟨h1,ok1⟩:=qp io (uT.out.drewN 1) hy (at_:=16*st) (j:=p) (len:=16) (cp:=16) (b:=C) (off:=8+st*16) rfl (k:=k+53) hok (Md.pG (by omega) (by omega)) aeE (by omega) (by omega)
 simp only[hy]at hR hrl hrd
 have HRL:=Lib.hid hrl
 have QH:=Lib.hid hrd
 clear hrl hrd
 have H1:=Lib.hid h1
 have rW:=Lib.hid ok1
 have HR:=Lib.hid hR
 have aew:Hid (Only (C::L::X) W1 W1∧ ∀i∈X,i∈X∨W1.heap.size≤i):=Lib.hid ⟨Only.refl _ _,fun i hi=> .inl hi⟩
 have c2:=uT.out.mod.cells.2.2.1
 have hdr:=And.intro uT.out.mod.cells.2.2.2.1 uH.out.1
 have HP:=Lib.hid hp'
 clear hy hR h1 ok1 hok hp' hB hr hHX
 go_enter Tryz.func164,Tryz.ntmps164
 go_upto_region 1 with fail
 rw[HW1.out,lQ.out]
 go_upto_region 5 with fail
 refine wp_region_held_drew (S:=fun w2=>w2.cell? ⟨C,3,none⟩=some (.int .i64 (st:Nat))∧w2.cell? ⟨w.heap.size,0,none⟩=some (.int .i64 kk)) (by kernel_rfl) hdr (fun hS=> ?_)
 refine tq 0 hS ?_
 refine tq 1 hS ?_
 refine tq 2 hS ?_
 refine tq 3 hS ?_
 refine tq 4 hS ?_
 refine tp 5 rfl (fun w hSw=>by obtain⟨q1,q2⟩:=hSw;go_simp;all_goals(with_reducible rfl)) hS ?_
 refine tq 6 hS ?_
 refine tq 7 hS ?_
 refine tq 8 hS ?_
 refine tq 9 hS ?_
 refine tq 10 hS ?_
 refine tq 11 hS ?_
 refine tp 12 rfl (fun w hSw=>by obtain⟨q1,q2⟩:=hSw;go_simp;all_goals(with_reducible rfl)) hS ?_
 refine tq 13 hS ?_
 refine tr 14 (fun K hK=> ?_)
 go_simp
 refine H1.out.mono ?_
 rintro e x1 ⟨rfl,Wv⟩
 obtain⟨X1,NJ,Gg,Wx⟩:=bJ aew.out Wv
 have NK:=Lib.hid NJ
 have xw:=Lib.hid (And.intro Gg Wx)
 have gx1:=And.intro NJ.mod.cells.2.2.2.1 (aA Gg ng.out.1 uH.out.1)
 clear NJ Gg Wx Wv
 go_wp2_with fail
 refine hK.out _ _ gx1 (fun _=> ?_)
 clear hK K
 refine tq 15 gx1 ?_
 refine tq 16 gx1 ?_
 refine wpAnyH_done (by kernel_rfl) ?_ _
 clear hS hdr H1 c2 gx1
 cases B with
 | false=>
  have hR:=HR.out
  simp only[if_true]at hR
  obtain⟨⟨R,Z2⟩,hz⟩: ∃q,Md.lit io lc lp st r.1 H (b.toNat:Nat) y=q:=⟨_,rfl⟩
  simp only[hz]at hR
  have HE:Hid (s'=⟨0,R,0,0,0⟩∧st'=bU st∧r'=r∧Z=Z2):=Lib.hid (by
   injection hR with e1 e2
   injection e2 with e2 e3
   injection e3 with e3 e4
   exact⟨e1.symm,e2.symm,e3.symm,e4.symm⟩)
  have HC:=Lib.hid (aeA io NK.out hlc hlp hst HGR.out.1.1 A H c (E5.out.only xw.out.1 HHX.out) hc hH kk b l d q hz (k:=k) (io.le rW.out (by omega)))
  clear hR hz
  rw[show dK false=0 from rfl]
  have y0:=aA xw.out.1 ng.out.1 uH.out.1
  have y1:=aA xw.out.1 ng.out.1 uH.out.2.1
  have y2:=aA xw.out.1 ng.out.1 uH.out.2.2.1
  have y3:=aA xw.out.1 ng.out.1 uH.out.2.2.2.1
  have y4:=aA xw.out.1 ng.out.1 uH.out.2.2.2.2
  go_wp2_with fail
  refine HC.out.mono ?_
  rintro e x9 ⟨⟨rfl,FC⟩,okz⟩
  have hwl:=jd.trans xw.out.1 xw.out.2 FC
  clear FC y0 y1 y2 y3 y4
  obtain⟨X9,NP,yV,hX9⟩:=hwl
  have HM9:=Lib.hid NP
  have lW:=Lib.hid yV
  have qR:Hid (∀i∈X9,i∈X∨W1.heap.size≤i):=Lib.hid hX9
  have hrs:=(lW.out.block bs (by have:=(Array.getElem?_eq_some_iff.1 xu.out).1;exact this) ng.out.2).trans xu.out
  have z0:x9.cell? ⟨bs,0,none⟩=some (.int .i64 0):=by rw[cell_of_row x9 _ _ _ _ _ hrs];rfl
  have z1:x9.cell? ⟨bs,1,none⟩=some (.int .u8 0):=by rw[cell_of_row x9 _ _ _ _ _ hrs];rfl
  have z2:x9.cell? ⟨bs,2,none⟩=some (.int .i64 0):=by rw[cell_of_row x9 _ _ _ _ _ hrs];rfl
  have z3:x9.cell? ⟨bs,3,none⟩=some (.int .i64 0):=by rw[cell_of_row x9 _ _ _ _ _ hrs];rfl
  have z4:x9.cell? ⟨bs,4,none⟩=some (.int .i64 0):=by rw[cell_of_row x9 _ _ _ _ _ hrs];rfl
  have zf: ∀i,x9.frozen? ⟨bs,i,none⟩=false:=fun i=>frozen_of_row _ _ _ _ _ hrs
  have F9:=zf 0
  have Gf:=zf 1
  have Jt:=zf 2
  have Ju:=zf 3
  have zf4:=zf 4
  clear hrs zf
  clear NP yV hX9
  go_wp2_with fail
  refine bodyPost_ret (v:=yL 0 R 0 0 0) (by simp[results,Tryz.results164,go_sem,z0,z1,z2,z3,z4]) rfl ⟨⟨?_,X9,?_,?_,?_⟩,?_⟩
  ·rw[HE.out.1];rfl
  ·have hbX:bs ∉ C::L::X9:=fun h=>by
    simp only[List.mem_cons]at h
    rcases h with h | h | h
    ·exact Wq h
    ·have:=iL.out L (by simp);have:=lQ.out;omega
    ·rcases qR.out _ h with h | h
     ·have:=iL.out bs (by simp[h]);have:=lQ.out;omega
     ·have:=(Array.getElem?_eq_some_iff.1 xu.out).1;omega
   rw[HE.out.2.1,HE.out.2.2.1,HE.out.2.2.2]
   exact((((HM9.out.aU hbX _).aU hbX _).aU hbX _).aU hbX _).aU hbX _
  ·have h0:Only (C::L::X) w x9:=(Only.of_below HB1.out).trans lW.out (fun i hi=> .inl hi)
   have hn:bs∈C::L::X∨w.heap.size≤bs:= .inr (by have:=lQ.out;omega)
   exact((((h0.setCell (p:=⟨bs,0,none⟩) hn _).setCell (p:=⟨bs,1,none⟩) hn _).setCell (p:=⟨bs,2,none⟩) hn _).setCell (p:=⟨bs,3,none⟩) hn _).setCell (p:=⟨bs,4,none⟩) hn _
  ·intro i hi
   rcases qR.out i hi with h | h
   ·exact .inl h
   ·exact .inr (Nat.le_trans HB1.out.size h)
  ·rw[←HQ.out,HE.out.1,HE.out.2.1,HE.out.2.2.1,HE.out.2.2.2]
   exact⟨by simp,by simp,by simp,by simp,J6 hst,HGR.out,okz⟩
 | true=>
  have hR:=HR.out
  simp only[Bool.true_eq_false,if_false]at hR
  obtain⟨⟨B2,y2⟩,hy⟩: ∃z,io.au (192+st) (kk !=1) y=z:=⟨_,rfl⟩
  obtain⟨h1,ok1⟩:=qp io (NK.out.drewN 1) hy (at_:=192) (j:=st) (len:=12) (cp:=12) (b:=C) (off:=200) rfl (k:=k+52) rW.out (Md.pG rfl (by omega)) hst (by omega) (by omega)
  have hrd:=QH.out (by simp)
  simp only[hy]at hR hrd
  have ahy:=Lib.hid hrd
  clear hrd
  have H2:=Lib.hid h1
  have mZ:=Lib.hid ok1
  have HR2:=Lib.hid hR
  have hdr:=And.intro NK.out.mod.cells.2.2.2.1 (aA xw.out.1 ng.out.1 uH.out.1)
  clear hy hR h1 ok1
  rw[show dK true=1 from rfl]
  go_upto_region 7 with fail
  refine wp_region_held_drew (S:=fun w2=>w2.cell? ⟨C,3,none⟩=some (.int .i64 (st:Nat))∧w2.cell? ⟨w.heap.size,0,none⟩=some (.int .i64 kk)) (by kernel_rfl) hdr (fun hS=> ?_)
  refine tq 0 hS ?_
  refine tq 1 hS ?_
  refine tq 2 hS ?_
  refine tq 3 hS ?_
  refine tq 4 hS ?_
  refine tq 5 hS ?_
  refine tq 6 hS ?_
  refine tq 7 hS ?_
  refine tp 8 rfl (fun w hSw=>by obtain⟨q1,q2⟩:=hSw;go_simp;all_goals(with_reducible rfl)) hS ?_
  refine tq 9 hS ?_
  refine tp 10 rfl (fun w hSw=>by obtain⟨q1,q2⟩:=hSw;go_simp;all_goals(with_reducible rfl)) hS ?_
  refine tq 11 hS ?_
  refine tr 12 (fun K hK=> ?_)
  go_simp
  refine H2.out.mono ?_
  rintro e x2 ⟨rfl,Wy⟩
  obtain⟨X2,NM,Gh,WB⟩:=bJ xw.out Wy
  have Si:=Lib.hid NM
  have rM:=Lib.hid (And.intro Gh WB)
  have gx2:=And.intro NM.mod.cells.2.2.2.1 (aA Gh ng.out.1 uH.out.1)
  clear NM Gh WB Wy
  go_wp2_with fail
  refine hK.out _ _ gx2 (fun _=> ?_)
  clear hK K
  refine tq 13 gx2 ?_
  refine tq 14 gx2 ?_
  refine wpAnyH_done (by kernel_rfl) ?_ _
  clear hS hdr H2 gx2
  cases B2 with
  | false=>
   have hR:=HR2.out
   simp only[if_true]at hR
   obtain⟨⟨n,y3⟩,hn⟩: ∃q,Md.len io 432 p l y2=q:=⟨_,rfl⟩
   simp only[hn]at hR
   obtain⟨⟨dd,Z2⟩,hz⟩: ∃q,Md.dist io n d y3=q:=⟨_,rfl⟩
   simp only[hz]at hR
   have HE:Hid (s'=⟨1,0,n,dd,0⟩∧st'=(if st<7 then 7 else 10)∧r'=aS r 3 (dd:Nat)∧Z=Z2):=Lib.hid (by
    injection hR with e1 e2
    injection e2 with e2 e3
    injection e3 with e3 e4
    exact⟨e1.symm,e2.symm,e3.symm,e4.symm⟩)
   have HC:=Lib.hid (Wp io Si.out aeE kk b l d q (HRL.out (by simp)).1 (HRL.out (by simp)).2 (ahy.out (by simp)).1 (ahy.out (by simp)).2 hn hz (k:=k) mZ.out)
   clear hR hz hn
   rw[show dK false=0 from rfl]
   have y0:=aA rM.out.1 ng.out.1 uH.out.1
   have y1:=aA rM.out.1 ng.out.1 uH.out.2.1
   have y2:=aA rM.out.1 ng.out.1 uH.out.2.2.1
   have y3:=aA rM.out.1 ng.out.1 uH.out.2.2.2.1
   have y4:=aA rM.out.1 ng.out.1 uH.out.2.2.2.2
   go_wp2_with fail
   refine HC.out.mono ?_
   rintro e x9 ⟨⟨rfl,FC⟩,hn2,J7,hd1,hd2,okz⟩
   have hwl:=jd.trans rM.out.1 rM.out.2 FC
   have HQ9:=Lib.hid (And.intro J7 (And.intro hd1 hd2))
   clear FC y0 y1 y2 y3 y4 hn2 J7 hd1 hd2
   obtain⟨X9,NP,yV,hX9⟩:=hwl
   have HM9:=Lib.hid NP
   have lW:=Lib.hid yV
   have qR:Hid (∀i∈X9,i∈X∨W1.heap.size≤i):=Lib.hid hX9
   have hrs:=(lW.out.block bs (by have:=(Array.getElem?_eq_some_iff.1 xu.out).1;exact this) ng.out.2).trans xu.out
   have z0:x9.cell? ⟨bs,0,none⟩=some (.int .i64 0):=by rw[cell_of_row x9 _ _ _ _ _ hrs];rfl
   have z1:x9.cell? ⟨bs,1,none⟩=some (.int .u8 0):=by rw[cell_of_row x9 _ _ _ _ _ hrs];rfl
   have z2:x9.cell? ⟨bs,2,none⟩=some (.int .i64 0):=by rw[cell_of_row x9 _ _ _ _ _ hrs];rfl
   have z3:x9.cell? ⟨bs,3,none⟩=some (.int .i64 0):=by rw[cell_of_row x9 _ _ _ _ _ hrs];rfl
   have z4:x9.cell? ⟨bs,4,none⟩=some (.int .i64 0):=by rw[cell_of_row x9 _ _ _ _ _ hrs];rfl
   have zf: ∀i,x9.frozen? ⟨bs,i,none⟩=false:=fun i=>frozen_of_row _ _ _ _ _ hrs
   have F9:=zf 0
   have Gf:=zf 1
   have Jt:=zf 2
   have Ju:=zf 3
   have zf4:=zf 4
   clear hrs zf
   clear NP yV hX9
   go_wp2_with fail
   refine bodyPost_ret (v:=yL 1 0 (n:Nat) (dd:Nat) 0) (by simp[results,Tryz.results164,go_sem,z0,z1,z2,z3,z4]) rfl ⟨⟨?_,X9,?_,?_,?_⟩,?_⟩
   ·rw[HE.out.1];rfl
   ·have hbX:bs ∉ C::L::X9:=fun h=>by
     simp only[List.mem_cons]at h
     rcases h with h | h | h
     ·exact Wq h
     ·have:=iL.out L (by simp);have:=lQ.out;omega
     ·rcases qR.out _ h with h | h
      ·have:=iL.out bs (by simp[h]);have:=lQ.out;omega
      ·have:=(Array.getElem?_eq_some_iff.1 xu.out).1;omega
    rw[HE.out.2.1,HE.out.2.2.1,HE.out.2.2.2]
    exact((((HM9.out.aU hbX _).aU hbX _).aU hbX _).aU hbX _).aU hbX _
   ·have h0:Only (C::L::X) w x9:=(Only.of_below HB1.out).trans lW.out (fun i hi=> .inl hi)
    have hn:bs∈C::L::X∨w.heap.size≤bs:= .inr (by have:=lQ.out;omega)
    exact((((h0.setCell (p:=⟨bs,0,none⟩) hn _).setCell (p:=⟨bs,1,none⟩) hn _).setCell (p:=⟨bs,2,none⟩) hn _).setCell (p:=⟨bs,3,none⟩) hn _).setCell (p:=⟨bs,4,none⟩) hn _
   ·intro i hi
    rcases qR.out i hi with h | h
    ·exact .inl h
    ·exact .inr (Nat.le_trans HB1.out.size h)
   ·rw[←HQ.out,HE.out.1,HE.out.2.1,HE.out.2.2.1,HE.out.2.2.2]
    have:=HQ9.out;exact⟨by simp,by simp,by show n≤273;omega,by show((dd:Nat):Int)≤4294967296;omega,by split<;>omega,HGR.out.front (by omega) (by omega),okz⟩
  | true=>
   have hR:=HR2.out
   simp only[Bool.true_eq_false,if_false]at hR
   obtain⟨⟨⟨wh,n⟩,Z2⟩,hz⟩: ∃q',Md.ni io st p l q y2=q':=⟨_,rfl⟩
   simp only[hz]at hR
   have HE:Hid (s'=⟨2,0,n,0,wh⟩∧st'=(if st<7 then(if n=1 then 9 else 8)else 11)∧r'=aS r wh (r4 r.1 r.2.1 r.2.2.1 r.2.2.2 wh)∧Z=Z2):=Lib.hid (by
    injection hR with e1 e2
    injection e2 with e2 e3
    injection e3 with e3 e4
    exact⟨e1.symm,e2.symm,e3.symm,e4.symm⟩)
   have HC:=Lib.hid (aa8 io Si.out hst aeE kk b l d q (HRL.out (by simp)).1 (HRL.out (by simp)).2 hz (k:=k) (io.le mZ.out (by omega)))
   clear hR hz
   rw[show dK true=1 from rfl]
   have y0:=aA rM.out.1 ng.out.1 uH.out.1
   have y1:=aA rM.out.1 ng.out.1 uH.out.2.1
   have y2:=aA rM.out.1 ng.out.1 uH.out.2.2.1
   have y3:=aA rM.out.1 ng.out.1 uH.out.2.2.2.1
   have y4:=aA rM.out.1 ng.out.1 uH.out.2.2.2.2
   go_wp2_with fail
   refine HC.out.mono ?_
   rintro e x9 ⟨⟨rfl,FC⟩,hwh,hn1,J7,hnw,okz⟩
   have hwl:=jd.trans rM.out.1 rM.out.2 FC
   have HQ9:=Lib.hid (And.intro hwh J7)
   clear FC y0 y1 y2 y3 y4 hwh hn1 J7 hnw
   obtain⟨X9,NP,yV,hX9⟩:=hwl
   have HM9:=Lib.hid NP
   have lW:=Lib.hid yV
   have qR:Hid (∀i∈X9,i∈X∨W1.heap.size≤i):=Lib.hid hX9
   have hrs:=(lW.out.block bs (by have:=(Array.getElem?_eq_some_iff.1 xu.out).1;exact this) ng.out.2).trans xu.out
   have z0:x9.cell? ⟨bs,0,none⟩=some (.int .i64 0):=by rw[cell_of_row x9 _ _ _ _ _ hrs];rfl
   have z1:x9.cell? ⟨bs,1,none⟩=some (.int .u8 0):=by rw[cell_of_row x9 _ _ _ _ _ hrs];rfl
   have z2:x9.cell? ⟨bs,2,none⟩=some (.int .i64 0):=by rw[cell_of_row x9 _ _ _ _ _ hrs];rfl
   have z3:x9.cell? ⟨bs,3,none⟩=some (.int .i64 0):=by rw[cell_of_row x9 _ _ _ _ _ hrs];rfl
   have z4:x9.cell? ⟨bs,4,none⟩=some (.int .i64 0):=by rw[cell_of_row x9 _ _ _ _ _ hrs];rfl
   have zf: ∀i,x9.frozen? ⟨bs,i,none⟩=false:=fun i=>frozen_of_row _ _ _ _ _ hrs
   have F9:=zf 0
   have Gf:=zf 1
   have Jt:=zf 2
   have Ju:=zf 3
   have zf4:=zf 4
   clear hrs zf
   clear NP yV hX9
   go_wp2_with fail
   refine bodyPost_ret (v:=yL 2 0 (n:Nat) 0 (wh:Nat)) (by simp[results,Tryz.results164,go_sem,z0,z1,z2,z3,z4]) rfl ⟨⟨?_,X9,?_,?_,?_⟩,?_⟩
   ·rw[HE.out.1];rfl
   ·have hbX:bs ∉ C::L::X9:=fun h=>by
     simp only[List.mem_cons]at h
     rcases h with h | h | h
     ·exact Wq h
     ·have:=iL.out L (by simp);have:=lQ.out;omega
     ·rcases qR.out _ h with h | h
      ·have:=iL.out bs (by simp[h]);have:=lQ.out;omega
      ·have:=(Array.getElem?_eq_some_iff.1 xu.out).1;omega
    rw[HE.out.2.1,HE.out.2.2.1,HE.out.2.2.2]
    exact((((HM9.out.aU hbX _).aU hbX _).aU hbX _).aU hbX _).aU hbX _
   ·have h0:Only (C::L::X) w x9:=(Only.of_below HB1.out).trans lW.out (fun i hi=> .inl hi)
    have hn:bs∈C::L::X∨w.heap.size≤bs:= .inr (by have:=lQ.out;omega)
    exact((((h0.setCell (p:=⟨bs,0,none⟩) hn _).setCell (p:=⟨bs,1,none⟩) hn _).setCell (p:=⟨bs,2,none⟩) hn _).setCell (p:=⟨bs,3,none⟩) hn _).setCell (p:=⟨bs,4,none⟩) hn _
   ·intro i hi
    rcases qR.out i hi with h | h
    ·exact .inl h
    ·exact .inr (Nat.le_trans HB1.out.size h)
   ·rw[←HQ.out,HE.out.1,HE.out.2.1,HE.out.2.2.1,HE.out.2.2.2]
    have:=HQ9.out;exact⟨by simp,by show wh≤3;omega,by show n≤273;omega,by simp,by split;split<;>omega;omega,HGR.out.front (HGR.out.at_ wh).1 (HGR.out.at_ wh).2,okz⟩
end Go.Proofs.YtgfpocdiojifoaaGreatDoor
