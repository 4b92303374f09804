import Derived.Test.YtgfpocdiojifoaaGreatDoorZ09
import Derived.Laws.CopyOwn
import Derived.Deep.RegionLaw
import Derived.Deep.RegionHeld3
import Derived.Deep.CutBlock
import Derived.Deep.DeepCutAuto
import Derived.Maps.AppendAt
import Derived.Test.YtgfpocdiojifoaaGreatDoorZ07
namespace Go.Proofs.YtgfpocdiojifoaaGreatDoor
set_option maxRecDepth 100000
set_option maxHeartbeats 8000000
open Go.RowKit Go.Proofs.Tryz
variable{dict most nice:Int}{D d:List UInt8}{B F c k l lm mp p place tt:Nat}{g:Nat→Nat}{A:Option Addr}{r:R4}{t0 t1 t2 t3:TypeId}{n0 n1 n2 n3 r0 r1 r2 r3 s0 s1 s2 s3 s4 z0 z1 z2 z3:Value}{W w:World}
section
open Go.RowKit Go.Maps
structure nV(w:World)(F:Nat)(A:Option Addr)(c:Nat)(d:List UInt8)(dict nice:Int)(mp B:Nat):Prop where
 at_:cZ w F A c d dict nice mp (.slice (some ⟨B,0,none⟩) (d.length-3) (d.length-3))
 Qp:cI w mp d (d.length-1)
 Qq:w.heap[B]? =some (.cells (gH d (d.length-3)).toArray 21 (0,0))
theorem nV.below{w w':World}{F:Nat}{A:Option Addr}{c:Nat}{d:List UInt8}{dict nice:Int}{mp B:Nat}(h:nV w F A c d dict nice mp B)(hb:Below w.heap.size w w'):nV w' F A c d dict nice mp B:=
 ⟨h.at_.below hb,h.Qp.below hb,(hb.block _ (cr h.Qq)).trans h.Qq⟩
def Qr(d:List UInt8)(dict nice:Int)(w:World)(e:Ending)(w':World):Prop:= ∃(Fp:Nat) (A:Option Addr) (c mp B:Nat),e= .returned (.tuple #[PF Fp,.int .i64 0])∧nV w' Fp A c d dict nice mp B∧Below w.heap.size w w'
theorem Vb(A:Option Addr)(d:List UInt8)(c:Nat)(dict nice:Int)(w:World)(hB:Bytes w A d)(hc:d.length≤c)(hl:d.length≤100000)(h1: ¬dict<1)(h2: ¬nice<2)(h3: ¬273<nice):
  Calls prog 40 #[.slice A d.length c,.int .i64 dict,.int .i64 nice] w (Qr d dict nice w):=by
 have tY:(d.length:Int)≤(c:Int):=aa;have sQ:(d.length:Int)≤100000:=aa;have ZT:=hdd (LB A d c w hB hc hl);have HL:=hdd hl;clear hB hc hl;go_enter func40,ntmps40;go_wp2_with fail;refine ZT.out.mono ?_;rintro e w1 ⟨v,rfl,aD,aC⟩;obtain⟨A',c',rfl,ZU,uz,hB'⟩:=aD.read;have cu:=hdd aC;have iG:=hdd hB';have HC':=hdd ZU;have⟨W2,jT⟩:=ex (w1.alloc (.cells #[.slice A' d.length c',.int .i64 dict,.int .i64 nice,.map none,.slice none 0 0] 113));have iD:W2.heap[w1.heap.size]? =some (.cells [.slice A' d.length c',.int .i64 dict,.int .i64 nice,.map none,.slice none 0 0].toArray 113 (0,0)):=vM;have aE:Below w1.heap.size w1 W2:=vK;have asI:(d.length:Int)≤(c':Int):=aa;have Tw:=hdd (xp A' d c' (d.length-1) W2 (hB'.below aE) ZU HL.out rfl);have vk:=hdd jT;have Eo:=hdd iD;have dY:=hdd aE;have f20:W2.cell? ⟨w1.heap.size,0,none⟩=some (.slice A' d.length c'):=jY;clear aD aC hB' ZU uz jT iD aE;go_wp2_with fail;rw[vk.out];have j5:Hid (w1.heap.size<W2.heap.size):=hdd (cr Eo.out);clear f20;refine Tw.out.mono ?_;rintro e W3 ⟨rfl,CQ,aW⟩;have iF:=(aW.block _ j5.out).trans Eo.out;have f30:W3.frozen? ⟨w1.heap.size,3,none⟩=false:=frozen_of_row _ _ _ _ _ iF;have⟨W4,pz⟩:=ex (W3.setCell ⟨w1.heap.size,3,none⟩ (.map (some W2.heap.size)));have nC:=heap_set iF 3 (.map (some W2.heap.size));rw[pz]at nC;have ZV:cI W4 W2.heap.size d (d.length-1):=by rw[←pz];exact CQ.set _ _ j5.out
 have bc:Below w1.heap.size w1 W4:=by rw[←pz];exact(dY.out.trans (aW.mono (Nat.le_of_lt j5.out))).setCell (p:=⟨w1.heap.size,3,none⟩) (Nat.le_refl _) _
 have f40:W4.cell? ⟨w1.heap.size,0,none⟩=some (.slice A' d.length c'):=by rw[cell_of_row W4 _ _ _ _ _ nC];rfl
 have f3d:W3.cell? ⟨w1.heap.size,3,none⟩=some (.map none):=by rw[cell_of_row W3 _ _ _ _ _ iF];rfl
 have f3c:W3.cell? ⟨w1.heap.size,0,none⟩=some (.slice A' d.length c'):=by rw[cell_of_row W3 _ _ _ _ _ iF];rfl
 have HSF:=hdd (BS A' d c' (d.length-3) W4 (iG.out.below bc) HC'.out HL.out rfl);have O7:=hdd pz;have Kj:=hdd nC;have iz:=hdd bc;have aj5:=hdd ZV;have h24:Hid (W2.heap.size<W4.heap.size):=hdd ZV.lt;clear pz nC bc ZV iF CQ aW;go_wp2_with fail;rw[O7.out];refine HSF.out.mono ?_;rintro e W5 ⟨rfl,WZ,fj⟩;have adR:w1.heap.size<W4.heap.size:=(cr Kj.out)
 have qY:=(fj.block _ adR).trans Kj.out;have f50:W5.frozen? ⟨w1.heap.size,4,none⟩=false:=frozen_of_row _ _ _ _ _ qY;have f5d:W5.cell? ⟨w1.heap.size,4,none⟩=some (.slice none 0 0):=by rw[cell_of_row W5 _ _ _ _ _ qY];rfl
 have⟨W6,hW6⟩:=ex (W5.setCell ⟨w1.heap.size,4,none⟩ (.slice (some ⟨W4.heap.size+1,0,none⟩) (d.length-3:Nat) (d.length-3:Nat)));have Qs:=heap_set qY 4 (.slice (some ⟨W4.heap.size+1,0,none⟩) (d.length-3:Nat) (d.length-3:Nat));rw[hW6]at Qs;have oV:Below w1.heap.size w1 W6:=by rw[←hW6];exact(iz.out.trans (fj.mono (Nat.le_of_lt adR))).setCell (p:=⟨w1.heap.size,4,none⟩) (Nat.le_refl _) _
 have hR:nV W6 w1.heap.size A' c' d dict nice W2.heap.size (W4.heap.size+1):=by
  refine⟨⟨Qs,iG.out.below oV,HC'.out,HL.out⟩,?_,?_⟩;·rw[←hW6];exact(aj5.out.below fj).set _ _ j5.out
  ·rw[←hW6];exact(ag _ _ _ _ (by show W4.heap.size+1≠w1.heap.size;omega)).trans WZ
 have HR:=hdd hR;have HW6:=hdd hW6;have uN:Hid (Below w.heap.size w W6):=hdd (aO cu.out oV);clear hW6 Qs oV hR qY WZ fj;go_wp2_with fail;rw[HW6.out];go_ret2;exact⟨_,_,_,_,_,rfl,HR.out,uN.out⟩
end
def kN(d:List UInt8)(dict nice place most:Int):Nat×Nat:=if 0≤place∧place<(d.length:Int)then fU d dict nice place.toNat most else(0,0)
def Qt(r:Nat×Nat)(w:World)(e:Ending)(w':World):Prop:=e= .returned (.tuple #[.int .i64 (r.1:Nat),.int .i64 (r.2:Nat)])∧Below w.heap.size w w'
theorem adS(hR:nV w F A c d dict nice mp B)(h4:4≤lm)(hl:place+lm≤d.length){b1 b2:Nat}(hb:Below w.heap.size w W)(ly:aQ b1 W (PF F))(jo:aQ b2 W (.int .i64 (place:Nat))):
  Calls prog 199 #[PF F,.int .i64 (place:Nat),.int .i64 (lm:Nat),.func (.func 219) #[] #[PF b1,PF b2]] W (xj d place lm dict (chain d (four d place) place) W):=by
 have hW:=hR.below hb
 exact ua F A c d dict nice mp _ place lm _ _ _ W hW.at_ hl aa (fun x hx=>(jV.1 hx).1) (nS _ _ _) (enters_of func219 ak rfl)
  (Qi Fence.wide 3 trivial rfl an F A c d dict nice mp B (d.length-3) b1 b2 place W hW.at_ hW.Qq ly jo aa aa)
theorem XI(hR:nV w F A c d dict nice mp B)(h2:2≤lm)(hl:place+lm≤d.length){e:Ending}{W0:World}(hb:Below w.heap.size w W0)
  (hP:En (places d (d.getD place 0) (d.getD (place+1) 0) (d.length-1)) place W0 e W):
  ∃(b1 b2:Nat) (L2:List Nat),e= .returned (.func (.func 221) #[] #[PF b1,PF b2])∧Below w.heap.size w W∧(∀z,z∈L2↔z<place∧d.getD z 0=d.getD place 0∧d.getD (z+1) 0=d.getD (place+1) 0)∧
   Calls prog 199 #[PF F,.int .i64 (place:Nat),.int .i64 (lm:Nat),.func (.func 221) #[] #[PF b1,PF b2]] W (xj d place lm dict L2 W):=by
 obtain⟨b1,b2,A2,c2,h,rfl,ly,jo,GJ,fS,hh,we,Ei,aE⟩:=hP;obtain⟨hm,hf⟩:=Lx (place:=place) rfl rfl aa hh we Ei;have eO:Below w.heap.size w W:=aO hb aE;have hW:=hR.below eO;have hlen:=qk d (d.getD place 0) (d.getD (place+1) 0) (d.length-1);have TD:=hR.at_.small;refine⟨b1,b2,_,rfl,eO,hm,?_⟩
 exact ua F A c d dict nice mp _ place lm _ _ _ W hW.at_ hl aa (fun x hx=>((hm x).1 hx).1) hf (enters_of func221 ak rfl)
  (Qj Fence.wide 3 trivial rfl an A2 c2 _ b1 b2 h W GJ fS aa (fun x hx=>by have:=(mA.1 hx).1;omega) ly jo hh)
theorem Qu(F:Nat)(A:Option Addr)(c:Nat)(d:List UInt8)(dict nice:Int)(mp B:Nat)(place most:Int)(w:World)(hR:nV w F A c d dict nice mp B):
  Calls prog 160 #[PF F,.int .i64 place,.int .i64 most] w (Qt (kN d dict nice place most) w):=by
 have HH:=hdd (Kg F A c d dict nice mp _ place w hR.at_);have sQ:(d.length:Int)≤100000:=ar hR.at_.small;unfold kN;by_cases h1:0≤place∧place<(d.length:Int);case neg=>
  have hh:hasB d place=false:=by
   unfold hasB;cases h:(decide (0≤place)&&decide (place<(d.length:Int)))with
   | false=>rfl
   | true=>simp at h;exact absurd h h1
  rw[hh]at HH;rw[if_neg h1];clear h1 hh hR;go_enter func160,ntmps160;go_wp2_with fail;refine HH.out.mono ?_;rintro e w1 ⟨rfl,rfl⟩;go_wp2_with fail;go_ret2;exact⟨rfl,Below.refl _ _⟩
 have hh:hasB d place=true:=by unfold hasB;simp[h1.1,h1.2]
 rw[hh]at HH;rw[if_pos h1];obtain⟨p,rfl⟩: ∃p:Nat,place=(p:Int):=⟨place.toNat,aa⟩
 simp only[Int.toNat_natCast];have rz:(p:Int)≤100000:=aa;have oO:(p:Int)<(d.length:Int):=h1.2;have⟨X,hX⟩:=ex ((d.length:Int)-(p:Int):Int);have⟨M,hM⟩:=ex (min (min nice most) X:Int);have⟨R,hRd⟩:=ex (fU d dict nice p most);rw[hRd];have Df:Hid (R=if(bX (rU d p M.toNat) (depth p dict)).1<2 then(0,0)else bX (rU d p M.toNat) (depth p dict)):=hdd (by
  rw[←hRd];unfold fU;have e:py d p (min nice most)=M.toNat:=by unfold py;rw[hX,hM]
  rw[e];rfl)
 obtain⟨f0,_,f2,_,_⟩:=hR.at_.cells;have hM0:M≤(d.length:Int)-(p:Int):=aa;have HR:=hdd hR;have hXw:IntKind.i64.wrap X=X:=IntWalk.i64_in _ aa;have lI:(M=nice∧ ¬most<nice∧ ¬X<nice)∨(M=most∧most<nice∧ ¬X<most)∨(M=X∧most<nice∧X<most)∨(M=X∧ ¬most<nice∧X<nice):=aa;have HMX:Hid (M≤(d.length:Int)-(p:Int)):=hdd hM0;clear h1 hh hR hM hM0 hRd;by_cases mT:M<2
 ·have hz:Hid ((bX (rU d p M.toNat) (depth p dict)).1<2):=hdd (by
   rcases(iN (rU d p M.toNat) (depth p dict)).at_ with⟨e,_⟩ | ⟨_,_,e,_⟩
   ·omega
   ·have h1:=ir d p (p-(bX (rU d p M.toNat) (depth p dict)).2) M.toNat;have e2:aU d p (p-(bX (rU d p M.toNat) (depth p dict)).2) M.toNat=(bX (rU d p M.toNat) (depth p dict)).1:=e;omega)
  have HRZ:Hid (R=(0,0)):=hdd (by rw[Df.out,if_pos hz.out]);clear Df hz;have b2:decide (M<2)=true:=decide_eq_true mT;rcases lI with⟨rfl,a1,a2⟩ | ⟨rfl,a1,a2⟩ | ⟨rfl,a1,a2⟩ | ⟨rfl,a1,a2⟩
  all_goals
   go_enter func160,ntmps160;go_wp2_with fail;refine HH.out.mono ?_;rintro e w1 ⟨rfl,rfl⟩;go_wp2_with fail;go_quiet (fail);go_wp2_with fail;go_ret2;rw[HRZ.out];exact⟨rfl,below_drewN (Below.refl _ _) _⟩
 ·obtain⟨lm,rfl⟩: ∃lm:Nat,M=(lm:Int):=⟨M.toNat,aa⟩
  simp only[Int.toNat_natCast]at Df;have b2:decide ((lm:Int)<2)=false:=decide_eq_false mT;have hlm:Hid (2≤lm∧p+lm≤d.length):=hdd (ar HMX.out);have Ob:Hid (p+1<d.length):=hdd (ar hlm.out);by_cases Gy:4≤lm
  ·have b4:decide ((4:Int)≤(lm:Int))=true:=decide_eq_true aa;have b4':(4:Int)≤(lm:Int):=aa;have H4:=hdd Gy;clear mT Gy;rcases lI with⟨rfl,a1,a2⟩ | ⟨rfl,a1,a2⟩ | ⟨rfl,a1,a2⟩ | ⟨rfl,a1,a2⟩
   all_goals
    go_enter func160,ntmps160;go_wp2_with fail;refine HH.out.mono ?_;rintro e w1 ⟨rfl,rfl⟩;go_wp2_with fail;go_quiet (fail);go_wp2_with fail;refine(xh F p _).mono ?_;rintro e w1 ⟨b1,b2,rfl,ly,jo,_,_,aC⟩;have kt:=(below_drewN (Below.refl w.heap.size w) _).trans aC;have cu:=hdd kt;have Tx:=hdd (adS HR.out H4.out hlm.out.2 kt ly jo);clear ly jo aC kt;go_wp2_with fail;refine Tx.out.mono ?_;rintro e w2 ⟨n,k,rfl,ud,aE⟩;have wG:=hdd ud;have dY:=hdd (aO cu.out aE);clear ud aE;by_cases ZD:4≤n
    ·have tA:Hid ((if(bX (rU d p lm) (depth p dict)).1<2 then(0,0)else bX (rU d p lm) (depth p dict))=(n,k)):=hdd (by
      have e:=Lw wG.out ZD;rw[←e,if_neg (by show ¬n<2;omega)])
     have b5:decide ((4:Int)≤(n:Int))=true:=decide_eq_true aa;have b5':(4:Int)≤(n:Int):=aa;clear ZD;go_wp2_with fail;go_ret2;rw[Df.out,tA.out];exact⟨rfl,dY.out⟩
    ·have HNF:=hdd (U7 wG.out aa);have b5:decide ((4:Int)≤(n:Int))=false:=decide_eq_false aa;have b5': ¬(4:Int)≤(n:Int):=aa;clear ZD;go_wp2_with fail;refine(nU F A c d dict _ mp _ p _ (HR.out.below dY.out).at_ (HR.out.below dY.out).Qp Ob.out).mono ?_;rintro e w3 Qv;obtain⟨c1,c2,L2,rfl,aW,Qw,Ep⟩:=XI (lm:=3) HR.out an (by have:=hlm.out;have:=H4.out;omega) dY.out Qv;have fc:=hdd aW;have HME:=hdd Qw;have HLO:=hdd Ep;clear Qv aW Qw Ep;go_wp2_with fail;refine HLO.out.mono ?_;rintro e w4 ⟨n2,k2,rfl,xt,bc⟩;have iz:Hid (Below w.heap.size w w4):=hdd (aO fc.out bc);have tA:=hdd (zX HME.out an (ar H4.out) HNF.out xt);clear xt bc;go_wp2_with fail;go_ret2;rw[Df.out,←tA.out];exact⟨rfl,iz.out⟩
  ·have b4:decide ((4:Int)≤(lm:Int))=false:=decide_eq_false aa;have b4': ¬(4:Int)≤(lm:Int):=aa;clear mT Gy;rcases lI with⟨rfl,a1,a2⟩ | ⟨rfl,a1,a2⟩ | ⟨rfl,a1,a2⟩ | ⟨rfl,a1,a2⟩
   all_goals
    go_enter func160,ntmps160;go_wp2_with fail;refine HH.out.mono ?_;rintro e w1 ⟨rfl,rfl⟩;go_wp2_with fail;go_quiet (fail);go_wp2_with fail;have HBQ: ∀m,Hid (Below w.heap.size w (w.drewN m)):=fun m=>hdd (below_drewN (Below.refl _ _) m);refine(nU F A c d dict _ mp _ p _ (HR.out.below (HBQ _).out).at_ (HR.out.below (HBQ _).out).Qp Ob.out).mono ?_;rintro e w3 Qv;obtain⟨c1,c2,L2,rfl,aW,Qw,Ep⟩:=XI (lm:=lm) HR.out hlm.out.1 hlm.out.2 (HBQ _).out Qv;have fc:=hdd aW;have HME:=hdd Qw;have HLO:=hdd Ep;clear Qv aW Qw Ep;go_wp2_with fail;refine HLO.out.mono ?_;rintro e w4 ⟨n2,k2,rfl,xt,bc⟩;have iz:Hid (Below w.heap.size w w4):=hdd (aO fc.out bc);have tA:=hdd (zX HME.out hlm.out.1 (Nat.le_refl _) (fun j _ _=>ir _ _ _ _) xt);clear xt bc;go_wp2_with fail;go_ret2;rw[Df.out,←tA.out];exact⟨rfl,iz.out⟩
def iO(a b c d:Int)(w:World)(e:Ending)(w':World):Prop:=e= .returned (Gq a b c d)∧Below w.heap.size w w'
theorem LC(a b c d:Int)(Qx:UInt8)(l dd r:Int)(w:World):Calls prog 162 #[Gq a b c d,j2 0 Qx l dd r] w (iO a b c d w):=by go_enter func162,ntmps162;go_wp2_with fail;refine bodyPost_ret (v:=Gq a b c d) (by simp[results,results162,go_sem]) rfl ⟨rfl,?_⟩;exact((ap).alloc ae _).alloc av _
theorem ue
  (hW:(((w.alloc (.cells #[r0,r1,r2,r3] t0)).alloc (.cells #[s0,s1,s2,s3,s4] t1)).alloc (.cells #[z0,z1,z2,z3] t2)).alloc (.cells #[n0,n1,n2,n3] t3)=W):
  Below w.heap.size w W∧W.heap[w.heap.size]? =some (.cells [r0,r1,r2,r3].toArray t0 (0,0))∧W.heap[w.heap.size+1+1]? =some (.cells [z0,z1,z2,z3].toArray t2 (0,0))∧W.heap[w.heap.size+1+1+1]? =some (.cells [n0,n1,n2,n3].toArray t3 (0,0)):=by
 subst hW;have mk: ∀(W:World) (o:Obj) (b:Nat),b=W.heap.size→(W.alloc o).heap[b]? =some o:=fun W o b e=>Gg;have up: ∀(W:World) (o o':Obj) (b:Nat),W.heap[b]? =some o'→(W.alloc o).heap[b]? =some o':=fun W o o' b h=>(Below.heap_alloc _ _ _ (cr h)).trans h;refine⟨((((ap).alloc ae _).alloc av _).alloc av _),up _ _ _ _ (up _ _ _ _ (up _ _ _ _ (mk _ _ _ rfl))),up _ _ _ _ (mk _ _ _ ae),mk _ _ _ ae⟩
theorem jO{m:Nat}
  (hW:((((w.alloc (.cells #[r0,r1,r2,r3] t0)).alloc (.cells #[s0,s1,s2,s3,s4] t1)).alloc (.cells #[z0,z1,z2,z3] t2)).drewN m).alloc (.cells #[n0,n1,n2,n3] t3)=W):
  Below w.heap.size w W∧W.heap[w.heap.size]? =some (.cells [r0,r1,r2,r3].toArray t0 (0,0))∧W.heap[w.heap.size+1+1]? =some (.cells [z0,z1,z2,z3].toArray t2 (0,0))∧W.heap[w.heap.size+1+1+1]? =some (.cells [n0,n1,n2,n3].toArray t3 (0,0)):=by
 obtain⟨h1,h2,h3,h4⟩:=ue (rfl:(((w.alloc (.cells #[r0,r1,r2,r3] t0)).alloc (.cells #[s0,s1,s2,s3,s4] t1)).alloc (.cells #[z0,z1,z2,z3] t2)).alloc (.cells #[n0,n1,n2,n3] t3)=_);subst hW;exact⟨⟨h1.os,h1.tape,h1.output,h1.size,h1.block⟩,h2,h3,h4⟩
theorem Er(a b c d:Int)(Qx:UInt8)(l dd r:Int)(w:World):Calls prog 162 #[Gq a b c d,j2 1 Qx l dd r] w (iO dd a b c w):=by
 go_enter func162,ntmps162;go_wp2_with fail;generalize hW:(((w.alloc _).alloc _).alloc _).alloc _=W;obtain⟨hB,h0,h2,h3⟩:=ue hW;obtain⟨W0,uI⟩: ∃g,w.heap.size=g:=⟨_,rfl⟩
 have⟨g,hg⟩:=ex (W0+1+1+1);obtain⟨g2,iV⟩: ∃g,W0+1+1=g:=⟨_,rfl⟩
 rw[uI]at hB h0 h2 h3 ⊢;rw[hg]at h3 ⊢;rw[iV]at h2 ⊢;have Kk:g2<g∧W0≤g∧W0≤g2:=aa;have vm:Hid (g2<g∧W0≤g∧W0≤g2):=hdd Kk;have HB:=hdd hB;have H2:=hdd h2;have zi:=hdd uI;clear hg iV hW Kk h2 hB uI;have q1: ∀w,(Instr.sliceAt 127 (.pointer (some ⟨g,0,none⟩)) (some (.int .i64 1)) (some (.int .i64 4)) none).run prog w= .ok (.slice (some ⟨g,1,none⟩) 3 3) w:=fun w=>vV g 3 an w;have q2: ∀w,(Instr.sliceAt 127 (.pointer (some ⟨W0,0,none⟩)) none (some (.int .i64 3)) none).run prog w= .ok (.slice (some ⟨W0,0,none⟩) 3 4) w:=fun w=>Dq W0 3 an w;have tX:W.drew.heap[g]? =some (.cells ([Value.int .i64 a,Value.int .i64 b,Value.int .i64 c,Value.int .i64 d]).toArray 127 (0,0)):=h3;have fT:=lA (cs:=[Value.int .i64 a,Value.int .i64 b,Value.int .i64 c]) h0 (by intro j hj;match j,hj with | 0,_ | 1,_ | 2,_=>rfl);have yA:IntKind.i64.wrap 4=4:=an;clear h3 h0;go_region_law (refine step_copy_splice rfl (.tmp 26) (.tmp 28) 147 147 rfl 3 underlying147 ak _ _ _ _ _ _ rfl rfl g 1 _ _ tX ([Value.int .i64 a,Value.int .i64 b,Value.int .i64 c]) rfl (fun _=>⟨rfl,_,rfl,fT⟩) ae F9 g W.drew (Below.refl _ _) (Nat.le_refl _) ?_;intro w4 dK bc);have aY:w4.heap[g]? =some (.cells ([Value.int .i64 a,Value.int .i64 a,Value.int .i64 b,Value.int .i64 c]).toArray 127 (0,0)):=dK.out;have hz:w4.heap[g2]? =some (.cells ([Value.int .i64 0,Value.int .i64 0,Value.int .i64 0,Value.int .i64 0]).toArray 127 (0,0)):=(bc.block g2 vm.out.1).trans H2.out;have kt:Below W0 w w4:=(show Below W0 w W.drew from⟨HB.out.os,HB.out.tape,HB.out.output,HB.out.size,HB.out.block⟩).trans (bc.mono vm.out.2.1);have dV:=hdd kt;have ng:=hdd aY;have HZ:=hdd hz;have k0:w4.cell? ⟨g,0,none⟩=some (.int .i64 a):=vN;have fz0:w4.frozen? ⟨g,0,none⟩=false:=frozen_of_row _ _ _ _ _ aY;clear q1 q2 tX fT yA bc dK kt hz aY;have Vc:g≠g2∧g2≠g:=ar vm.out;obtain⟨n1,n2⟩:=Vc;have k1:w4.cell? ⟨g,1,none⟩=some (.int .i64 a):=gu;have k2:w4.cell? ⟨g,2,none⟩=some (.int .i64 b):=gu;have k3:w4.cell? ⟨g,3,none⟩=some (.int .i64 c):=gu;have z0:w4.cell? ⟨g2,0,none⟩=some (.int .i64 0):=d7;have f0:w4.frozen? ⟨g2,0,none⟩=false:=frozen_of_row _ _ _ _ _ HZ.out;have z1:w4.cell? ⟨g2,1,none⟩=some (.int .i64 0):=d7;have f1:w4.frozen? ⟨g2,1,none⟩=false:=frozen_of_row _ _ _ _ _ HZ.out;have z2:w4.cell? ⟨g2,2,none⟩=some (.int .i64 0):=d7;have f2:w4.frozen? ⟨g2,2,none⟩=false:=frozen_of_row _ _ _ _ _ HZ.out;have z3:w4.cell? ⟨g2,3,none⟩=some (.int .i64 0):=d7;have f3:w4.frozen? ⟨g2,3,none⟩=false:=frozen_of_row _ _ _ _ _ HZ.out;go_wp2_with fail;refine bodyPost_ret (v:=Gq dd a b c) vO rfl ⟨rfl,?_⟩;have hg:=vm.out;rw[zi.out];refine Below.setCell ?_ hg.2.2 _;refine Below.setCell ?_ hg.2.2 _;refine Below.setCell ?_ hg.2.2 _;refine Below.setCell ?_ hg.2.2 _;exact Below.setCell dV.out hg.2.1 _
theorem Hb(a b c d:Int)(Qx:UInt8)(l dd:Int)(w:World):Calls prog 162 #[Gq a b c d,j2 2 Qx l dd 0] w (iO a b c d w):=by
 go_enter func162,ntmps162;go_wp2_with fail;go_quiet (fail);go_wp2_with fail;generalize hW:((((w.alloc _).alloc _).alloc _).drewN _).alloc _=W;obtain⟨hB,h0,h2,h3⟩:=jO hW;obtain⟨W0,uI⟩: ∃g,w.heap.size=g:=⟨_,rfl⟩
 have⟨g,hg⟩:=ex (W0+1+1+1);obtain⟨g2,iV⟩: ∃g,W0+1+1=g:=⟨_,rfl⟩
 rw[uI]at hB h0 h2 h3 ⊢;rw[hg]at h3 ⊢;rw[iV]at h2 ⊢;have Kk:g2<g∧W0≤g∧W0≤g2:=aa;have vm:Hid (g2<g∧W0≤g∧W0≤g2):=hdd Kk;have HB:=hdd hB;have H2:=hdd h2;have zi:=hdd uI;clear hg iV hW Kk h2 hB uI;have q1: ∀w,(Instr.sliceAt 127 (.pointer (some ⟨g,0,none⟩)) (some (.int .i64 1)) (some (.int .i64 1)) none).run prog w= .ok (.slice (some ⟨g,1,none⟩) 0 3) w:=fun w=>vV g 0 an w;have q2: ∀w,(Instr.sliceAt 127 (.pointer (some ⟨W0,0,none⟩)) none (some (.int .i64 0)) none).run prog w= .ok (.slice (some ⟨W0,0,none⟩) 0 4) w:=fun w=>Dq W0 0 an w;have tX:W.drew.heap[g]? =some (.cells ([Value.int .i64 a,Value.int .i64 b,Value.int .i64 c,Value.int .i64 d]).toArray 127 (0,0)):=h3;have fT:=lA (cs:=[]) h0 ae;have yA:IntKind.i64.wrap 1=1:=an;clear h3 h0;go_region_law (refine step_copy_splice rfl (.tmp 26) (.tmp 28) 147 147 rfl 3 underlying147 ak _ _ _ _ _ _ rfl rfl g 1 _ _ tX ([]) rfl (fun _=>⟨rfl,_,rfl,fT⟩) ae ae g W.drew (Below.refl _ _) (Nat.le_refl _) ?_;intro w4 dK bc);have aY:w4.heap[g]? =some (.cells ([Value.int .i64 a,Value.int .i64 b,Value.int .i64 c,Value.int .i64 d]).toArray 127 (0,0)):=dK.out;have hz:w4.heap[g2]? =some (.cells ([Value.int .i64 0,Value.int .i64 0,Value.int .i64 0,Value.int .i64 0]).toArray 127 (0,0)):=(bc.block g2 vm.out.1).trans H2.out;have kt:Below W0 w w4:=(show Below W0 w W.drew from⟨HB.out.os,HB.out.tape,HB.out.output,HB.out.size,HB.out.block⟩).trans (bc.mono vm.out.2.1);have dV:=hdd kt;have ng:=hdd aY;have HZ:=hdd hz;have k0:w4.cell? ⟨g,0,none⟩=some (.int .i64 a):=vN;have fz0:w4.frozen? ⟨g,0,none⟩=false:=frozen_of_row _ _ _ _ _ aY;clear q1 q2 tX fT yA bc dK kt hz aY;have Vc:g≠g2∧g2≠g:=ar vm.out;obtain⟨n1,n2⟩:=Vc;have k1:w4.cell? ⟨g,1,none⟩=some (.int .i64 b):=gu;have k2:w4.cell? ⟨g,2,none⟩=some (.int .i64 c):=gu;have k3:w4.cell? ⟨g,3,none⟩=some (.int .i64 d):=gu;have z0:w4.cell? ⟨g2,0,none⟩=some (.int .i64 0):=d7;have f0:w4.frozen? ⟨g2,0,none⟩=false:=frozen_of_row _ _ _ _ _ HZ.out;have z1:w4.cell? ⟨g2,1,none⟩=some (.int .i64 0):=d7;have f1:w4.frozen? ⟨g2,1,none⟩=false:=frozen_of_row _ _ _ _ _ HZ.out;have z2:w4.cell? ⟨g2,2,none⟩=some (.int .i64 0):=d7;have f2:w4.frozen? ⟨g2,2,none⟩=false:=frozen_of_row _ _ _ _ _ HZ.out;have z3:w4.cell? ⟨g2,3,none⟩=some (.int .i64 0):=d7;have f3:w4.frozen? ⟨g2,3,none⟩=false:=frozen_of_row _ _ _ _ _ HZ.out;go_wp2_with fail;refine bodyPost_ret (v:=Gq a b c d) vO rfl ⟨rfl,?_⟩;have hg:=vm.out;rw[zi.out];refine Below.setCell ?_ hg.2.2 _;refine Below.setCell ?_ hg.2.2 _;refine Below.setCell ?_ hg.2.2 _;refine Below.setCell ?_ hg.2.2 _;exact Below.setCell dV.out hg.2.1 _
theorem Hc(a b c d:Int)(Qx:UInt8)(l dd:Int)(w:World):Calls prog 162 #[Gq a b c d,j2 2 Qx l dd 1] w (iO b a c d w):=by
 go_enter func162,ntmps162;go_wp2_with fail;go_quiet (fail);go_wp2_with fail;generalize hW:((((w.alloc _).alloc _).alloc _).drewN _).alloc _=W;obtain⟨hB,h0,h2,h3⟩:=jO hW;obtain⟨W0,uI⟩: ∃g,w.heap.size=g:=⟨_,rfl⟩
 have⟨g,hg⟩:=ex (W0+1+1+1);obtain⟨g2,iV⟩: ∃g,W0+1+1=g:=⟨_,rfl⟩
 rw[uI]at hB h0 h2 h3 ⊢;rw[hg]at h3 ⊢;rw[iV]at h2 ⊢;have Kk:g2<g∧W0≤g∧W0≤g2:=aa;have vm:Hid (g2<g∧W0≤g∧W0≤g2):=hdd Kk;have HB:=hdd hB;have H2:=hdd h2;have zi:=hdd uI;clear hg iV hW Kk h2 hB uI;have q1: ∀w,(Instr.sliceAt 127 (.pointer (some ⟨g,0,none⟩)) (some (.int .i64 1)) (some (.int .i64 2)) none).run prog w= .ok (.slice (some ⟨g,1,none⟩) 1 3) w:=fun w=>vV g 1 an w;have q2: ∀w,(Instr.sliceAt 127 (.pointer (some ⟨W0,0,none⟩)) none (some (.int .i64 1)) none).run prog w= .ok (.slice (some ⟨W0,0,none⟩) 1 4) w:=fun w=>Dq W0 1 an w;have tX:W.drew.heap[g]? =some (.cells ([Value.int .i64 a,Value.int .i64 b,Value.int .i64 c,Value.int .i64 d]).toArray 127 (0,0)):=h3;have fT:=lA (cs:=[Value.int .i64 a]) h0 (by intro j hj;match j,hj with | 0,_=>rfl);have yA:IntKind.i64.wrap 2=2:=an;clear h3 h0;go_region_law (refine step_copy_splice rfl (.tmp 26) (.tmp 28) 147 147 rfl 3 underlying147 ak _ _ _ _ _ _ rfl rfl g 1 _ _ tX ([Value.int .i64 a]) rfl (fun _=>⟨rfl,_,rfl,fT⟩) ae (by intro v hv;simp at hv;subst hv;rfl) g W.drew (Below.refl _ _) (Nat.le_refl _) ?_;intro w4 dK bc);have aY:w4.heap[g]? =some (.cells ([Value.int .i64 a,Value.int .i64 a,Value.int .i64 c,Value.int .i64 d]).toArray 127 (0,0)):=dK.out;have hz:w4.heap[g2]? =some (.cells ([Value.int .i64 0,Value.int .i64 0,Value.int .i64 0,Value.int .i64 0]).toArray 127 (0,0)):=(bc.block g2 vm.out.1).trans H2.out;have kt:Below W0 w w4:=(show Below W0 w W.drew from⟨HB.out.os,HB.out.tape,HB.out.output,HB.out.size,HB.out.block⟩).trans (bc.mono vm.out.2.1);have dV:=hdd kt;have ng:=hdd aY;have HZ:=hdd hz;have k0:w4.cell? ⟨g,0,none⟩=some (.int .i64 a):=vN;have fz0:w4.frozen? ⟨g,0,none⟩=false:=frozen_of_row _ _ _ _ _ aY;clear q1 q2 tX fT yA bc dK kt hz aY;have Vc:g≠g2∧g2≠g:=ar vm.out;obtain⟨n1,n2⟩:=Vc;have k1:w4.cell? ⟨g,1,none⟩=some (.int .i64 a):=gu;have k2:w4.cell? ⟨g,2,none⟩=some (.int .i64 c):=gu;have k3:w4.cell? ⟨g,3,none⟩=some (.int .i64 d):=gu;have z0:w4.cell? ⟨g2,0,none⟩=some (.int .i64 0):=d7;have f0:w4.frozen? ⟨g2,0,none⟩=false:=frozen_of_row _ _ _ _ _ HZ.out;have z1:w4.cell? ⟨g2,1,none⟩=some (.int .i64 0):=d7;have f1:w4.frozen? ⟨g2,1,none⟩=false:=frozen_of_row _ _ _ _ _ HZ.out;have z2:w4.cell? ⟨g2,2,none⟩=some (.int .i64 0):=d7;have f2:w4.frozen? ⟨g2,2,none⟩=false:=frozen_of_row _ _ _ _ _ HZ.out;have z3:w4.cell? ⟨g2,3,none⟩=some (.int .i64 0):=d7;have f3:w4.frozen? ⟨g2,3,none⟩=false:=frozen_of_row _ _ _ _ _ HZ.out;go_wp2_with fail;refine bodyPost_ret (v:=Gq b a c d) vO rfl ⟨rfl,?_⟩;have hg:=vm.out;rw[zi.out];refine Below.setCell ?_ hg.2.2 _;refine Below.setCell ?_ hg.2.2 _;refine Below.setCell ?_ hg.2.2 _;refine Below.setCell ?_ hg.2.2 _;exact Below.setCell dV.out hg.2.1 _
theorem Hd(a b c d:Int)(Qx:UInt8)(l dd:Int)(w:World):Calls prog 162 #[Gq a b c d,j2 2 Qx l dd 2] w (iO c a b d w):=by
 go_enter func162,ntmps162;go_wp2_with fail;go_quiet (fail);go_wp2_with fail;generalize hW:((((w.alloc _).alloc _).alloc _).drewN _).alloc _=W;obtain⟨hB,h0,h2,h3⟩:=jO hW;obtain⟨W0,uI⟩: ∃g,w.heap.size=g:=⟨_,rfl⟩
 have⟨g,hg⟩:=ex (W0+1+1+1);obtain⟨g2,iV⟩: ∃g,W0+1+1=g:=⟨_,rfl⟩
 rw[uI]at hB h0 h2 h3 ⊢;rw[hg]at h3 ⊢;rw[iV]at h2 ⊢;have Kk:g2<g∧W0≤g∧W0≤g2:=aa;have vm:Hid (g2<g∧W0≤g∧W0≤g2):=hdd Kk;have HB:=hdd hB;have H2:=hdd h2;have zi:=hdd uI;clear hg iV hW Kk h2 hB uI;have q1: ∀w,(Instr.sliceAt 127 (.pointer (some ⟨g,0,none⟩)) (some (.int .i64 1)) (some (.int .i64 3)) none).run prog w= .ok (.slice (some ⟨g,1,none⟩) 2 3) w:=fun w=>vV g 2 an w;have q2: ∀w,(Instr.sliceAt 127 (.pointer (some ⟨W0,0,none⟩)) none (some (.int .i64 2)) none).run prog w= .ok (.slice (some ⟨W0,0,none⟩) 2 4) w:=fun w=>Dq W0 2 an w;have tX:W.drew.heap[g]? =some (.cells ([Value.int .i64 a,Value.int .i64 b,Value.int .i64 c,Value.int .i64 d]).toArray 127 (0,0)):=h3;have fT:=lA (cs:=[Value.int .i64 a,Value.int .i64 b]) h0 (by intro j hj;match j,hj with | 0,_ | 1,_=>rfl);have yA:IntKind.i64.wrap 3=3:=an;clear h3 h0;go_region_law (refine step_copy_splice rfl (.tmp 26) (.tmp 28) 147 147 rfl 3 underlying147 ak _ _ _ _ _ _ rfl rfl g 1 _ _ tX ([Value.int .i64 a,Value.int .i64 b]) rfl (fun _=>⟨rfl,_,rfl,fT⟩) ae (by intro v hv;simp at hv;rcases hv with rfl | rfl<;>rfl) g W.drew (Below.refl _ _) (Nat.le_refl _) ?_;intro w4 dK bc);have aY:w4.heap[g]? =some (.cells ([Value.int .i64 a,Value.int .i64 a,Value.int .i64 b,Value.int .i64 d]).toArray 127 (0,0)):=dK.out;have hz:w4.heap[g2]? =some (.cells ([Value.int .i64 0,Value.int .i64 0,Value.int .i64 0,Value.int .i64 0]).toArray 127 (0,0)):=(bc.block g2 vm.out.1).trans H2.out;have kt:Below W0 w w4:=(show Below W0 w W.drew from⟨HB.out.os,HB.out.tape,HB.out.output,HB.out.size,HB.out.block⟩).trans (bc.mono vm.out.2.1);have dV:=hdd kt;have ng:=hdd aY;have HZ:=hdd hz;have k0:w4.cell? ⟨g,0,none⟩=some (.int .i64 a):=vN;have fz0:w4.frozen? ⟨g,0,none⟩=false:=frozen_of_row _ _ _ _ _ aY;clear q1 q2 tX fT yA bc dK kt hz aY;have Vc:g≠g2∧g2≠g:=ar vm.out;obtain⟨n1,n2⟩:=Vc;have k1:w4.cell? ⟨g,1,none⟩=some (.int .i64 a):=gu;have k2:w4.cell? ⟨g,2,none⟩=some (.int .i64 b):=gu;have k3:w4.cell? ⟨g,3,none⟩=some (.int .i64 d):=gu;have z0:w4.cell? ⟨g2,0,none⟩=some (.int .i64 0):=d7;have f0:w4.frozen? ⟨g2,0,none⟩=false:=frozen_of_row _ _ _ _ _ HZ.out;have z1:w4.cell? ⟨g2,1,none⟩=some (.int .i64 0):=d7;have f1:w4.frozen? ⟨g2,1,none⟩=false:=frozen_of_row _ _ _ _ _ HZ.out;have z2:w4.cell? ⟨g2,2,none⟩=some (.int .i64 0):=d7;have f2:w4.frozen? ⟨g2,2,none⟩=false:=frozen_of_row _ _ _ _ _ HZ.out;have z3:w4.cell? ⟨g2,3,none⟩=some (.int .i64 0):=d7;have f3:w4.frozen? ⟨g2,3,none⟩=false:=frozen_of_row _ _ _ _ _ HZ.out;go_wp2_with fail;refine bodyPost_ret (v:=Gq c a b d) vO rfl ⟨rfl,?_⟩;have hg:=vm.out;rw[zi.out];refine Below.setCell ?_ hg.2.2 _;refine Below.setCell ?_ hg.2.2 _;refine Below.setCell ?_ hg.2.2 _;refine Below.setCell ?_ hg.2.2 _;exact Below.setCell dV.out hg.2.1 _
theorem Hf(a b c d:Int)(Qx:UInt8)(l dd:Int)(w:World):Calls prog 162 #[Gq a b c d,j2 2 Qx l dd 3] w (iO d a b c w):=by
 go_enter func162,ntmps162;go_wp2_with fail;go_quiet (fail);go_wp2_with fail;generalize hW:((((w.alloc _).alloc _).alloc _).drewN _).alloc _=W;obtain⟨hB,h0,h2,h3⟩:=jO hW;obtain⟨W0,uI⟩: ∃g,w.heap.size=g:=⟨_,rfl⟩
 have⟨g,hg⟩:=ex (W0+1+1+1);obtain⟨g2,iV⟩: ∃g,W0+1+1=g:=⟨_,rfl⟩
 rw[uI]at hB h0 h2 h3 ⊢;rw[hg]at h3 ⊢;rw[iV]at h2 ⊢;have Kk:g2<g∧W0≤g∧W0≤g2:=aa;have vm:Hid (g2<g∧W0≤g∧W0≤g2):=hdd Kk;have HB:=hdd hB;have H2:=hdd h2;have zi:=hdd uI;clear hg iV hW Kk h2 hB uI;have q1: ∀w,(Instr.sliceAt 127 (.pointer (some ⟨g,0,none⟩)) (some (.int .i64 1)) (some (.int .i64 4)) none).run prog w= .ok (.slice (some ⟨g,1,none⟩) 3 3) w:=fun w=>vV g 3 an w;have q2: ∀w,(Instr.sliceAt 127 (.pointer (some ⟨W0,0,none⟩)) none (some (.int .i64 3)) none).run prog w= .ok (.slice (some ⟨W0,0,none⟩) 3 4) w:=fun w=>Dq W0 3 an w;have tX:W.drew.heap[g]? =some (.cells ([Value.int .i64 a,Value.int .i64 b,Value.int .i64 c,Value.int .i64 d]).toArray 127 (0,0)):=h3;have fT:=lA (cs:=[Value.int .i64 a,Value.int .i64 b,Value.int .i64 c]) h0 (by intro j hj;match j,hj with | 0,_ | 1,_ | 2,_=>rfl);have yA:IntKind.i64.wrap 4=4:=an;clear h3 h0;go_region_law (refine step_copy_splice rfl (.tmp 26) (.tmp 28) 147 147 rfl 3 underlying147 ak _ _ _ _ _ _ rfl rfl g 1 _ _ tX ([Value.int .i64 a,Value.int .i64 b,Value.int .i64 c]) rfl (fun _=>⟨rfl,_,rfl,fT⟩) ae F9 g W.drew (Below.refl _ _) (Nat.le_refl _) ?_;intro w4 dK bc);have aY:w4.heap[g]? =some (.cells ([Value.int .i64 a,Value.int .i64 a,Value.int .i64 b,Value.int .i64 c]).toArray 127 (0,0)):=dK.out;have hz:w4.heap[g2]? =some (.cells ([Value.int .i64 0,Value.int .i64 0,Value.int .i64 0,Value.int .i64 0]).toArray 127 (0,0)):=(bc.block g2 vm.out.1).trans H2.out;have kt:Below W0 w w4:=(show Below W0 w W.drew from⟨HB.out.os,HB.out.tape,HB.out.output,HB.out.size,HB.out.block⟩).trans (bc.mono vm.out.2.1);have dV:=hdd kt;have ng:=hdd aY;have HZ:=hdd hz;have k0:w4.cell? ⟨g,0,none⟩=some (.int .i64 a):=vN;have fz0:w4.frozen? ⟨g,0,none⟩=false:=frozen_of_row _ _ _ _ _ aY;clear q1 q2 tX fT yA bc dK kt hz aY;have Vc:g≠g2∧g2≠g:=ar vm.out;obtain⟨n1,n2⟩:=Vc;have k1:w4.cell? ⟨g,1,none⟩=some (.int .i64 a):=gu;have k2:w4.cell? ⟨g,2,none⟩=some (.int .i64 b):=gu;have k3:w4.cell? ⟨g,3,none⟩=some (.int .i64 c):=gu;have z0:w4.cell? ⟨g2,0,none⟩=some (.int .i64 0):=d7;have f0:w4.frozen? ⟨g2,0,none⟩=false:=frozen_of_row _ _ _ _ _ HZ.out;have z1:w4.cell? ⟨g2,1,none⟩=some (.int .i64 0):=d7;have f1:w4.frozen? ⟨g2,1,none⟩=false:=frozen_of_row _ _ _ _ _ HZ.out;have z2:w4.cell? ⟨g2,2,none⟩=some (.int .i64 0):=d7;have f2:w4.frozen? ⟨g2,2,none⟩=false:=frozen_of_row _ _ _ _ _ HZ.out;have z3:w4.cell? ⟨g2,3,none⟩=some (.int .i64 0):=d7;have f3:w4.frozen? ⟨g2,3,none⟩=false:=frozen_of_row _ _ _ _ _ HZ.out;go_wp2_with fail;refine bodyPost_ret (v:=Gq d a b c) vO rfl ⟨rfl,?_⟩;have hg:=vm.out;rw[zi.out];refine Below.setCell ?_ hg.2.2 _;refine Below.setCell ?_ hg.2.2 _;refine Below.setCell ?_ hg.2.2 _;refine Below.setCell ?_ hg.2.2 _;exact Below.setCell dV.out hg.2.1 _
def aH(g:Nat→Nat):Nat→Nat×Nat
 | 0=>(0,0)
 | n+1=>if(aH g n).1<g n then(g n,n)else aH g n
def dI(D:List UInt8)(dict place left a b c d:Int):Nat×Nat:=aH (fun i=>df D dict place (r4 a b c d i) left) 4
def Vd(r:Nat×Nat)(w:World)(e:Ending)(w':World):Prop:=e= .returned (.tuple #[.int .i64 (r.1:Nat),.int .i64 (r.2:Nat)])∧Below w.heap.size w w'
theorem xu(F:Nat)(A:Option Addr)(cp:Nat)(D:List UInt8)(dict nice:Int)(mp:Nat)(v4:Value)(place left a b c d:Int)(w:World)(hF:cZ w F A cp D dict nice mp v4):
  Calls prog 159 #[PF F,.int .i64 place,.int .i64 left,Gq a b c d] w (Vd (dI D dict place left a b c d) w):=by
 have HL:=hdd (fun(m:Nat) (W:World) (hb:Below w.heap.size w W) (x:Int)=>xa F A cp D dict nice mp v4 place x left (W.drewN m) ((hF.below hb).drewN m));unfold dI;obtain⟨g,hg⟩: ∃g:Nat→Nat,(fun i=>df D dict place (r4 a b c d i) left)=g:=⟨_,rfl⟩
 rw[hg];have HG:=hdd (fun i=>congrFun hg i);clear hg hF;go_enter func159,ntmps159;go_wp2_with fail;have⟨W,hW⟩:=ex (w.alloc (.cells #[.int .i64 a,.int .i64 b,.int .i64 c,.int .i64 d] 127));rw[hW];have HB:Hid (Below w.heap.size w W):=hdd (by rw[←hW];exact ap);clear hW;go_loopw [10,11,16] (fun x y i wr=> ∃(n m:Nat),n≤4∧i= .int .i64 (n:Nat)∧x= .int .i64 ((aH g n).1:Nat)∧y= .int .i64 ((aH g n).2:Nat)∧wr=W.drewN m) (fun x y i _=>4-(intOf i).toNat);case atStart=>exact⟨0,0,aa,rfl,rfl,rfl,rfl⟩
 case round=>
  obtain⟨n,m,hn,rfl,rfl,rfl,rfl⟩:=hrel;rcases(by omega:n=0∨n=1∨n=2∨n=3∨n=4)with rfl | rfl | rfl | rfl | rfl
  ·have GQ:=ab0 a b c d;have hE:df D dict place a left=g 0:=HG.out 0;obtain⟨gn,El⟩: ∃x,g 0=x:=⟨_,rfl⟩
   rw[El]at hE;have HE:=hdd hE;have HS:Hid (aH g 1=if(aH g 0).1<gn then(gn,0)else aH g 0):=hdd (by rw[←El];rfl);have⟨u,hu⟩:=ex ((aH g 0).1);have⟨v,hv⟩:=ex ((aH g 0).2);have HU:Hid (aH g 0=(u,v)):=hdd (by rw[←hu,←hv]);rw[hu,hv];clear hE El hu hv;by_cases aF:u<gn;·have fE:Hid (aH g 1=(gn,0)):=hdd Bd;have j5:(u:Int)<(gn:Int):=aa;clear aF;go_wp2_with fail;refine(HL.out m W HB.out a).mono ?_;rintro e w2 ⟨rfl,m2,rfl⟩;rw[HE.out];go_wp2_with fail;exact⟨⟨1,_,aa,rfl,jq,by rw[fE.out];rfl,rfl⟩,nA⟩
   ·have fE:Hid (aH g 1=(u,v)):=hdd Be;have j5: ¬(u:Int)<(gn:Int):=aa;clear aF;go_wp2_with fail;refine(HL.out m W HB.out a).mono ?_;rintro e w2 ⟨rfl,m2,rfl⟩;rw[HE.out];go_wp2_with fail;exact⟨⟨1,_,aa,rfl,jq,jq,rfl⟩,nA⟩
  ·have GQ:=ab1 a b c d;have hE:df D dict place b left=g 1:=HG.out 1;obtain⟨gn,El⟩: ∃x,g 1=x:=⟨_,rfl⟩
   rw[El]at hE;have HE:=hdd hE;have HS:Hid (aH g 2=if(aH g 1).1<gn then(gn,1)else aH g 1):=hdd (by rw[←El];rfl);have⟨u,hu⟩:=ex ((aH g 1).1);have⟨v,hv⟩:=ex ((aH g 1).2);have HU:Hid (aH g 1=(u,v)):=hdd (by rw[←hu,←hv]);rw[hu,hv];clear hE El hu hv;by_cases aF:u<gn;·have fE:Hid (aH g 2=(gn,1)):=hdd Bd;have j5:(u:Int)<(gn:Int):=aa;clear aF;go_wp2_with fail;refine(HL.out m W HB.out b).mono ?_;rintro e w2 ⟨rfl,m2,rfl⟩;rw[HE.out];go_wp2_with fail;exact⟨⟨2,_,aa,rfl,jq,by rw[fE.out];rfl,rfl⟩,nA⟩
   ·have fE:Hid (aH g 2=(u,v)):=hdd Be;have j5: ¬(u:Int)<(gn:Int):=aa;clear aF;go_wp2_with fail;refine(HL.out m W HB.out b).mono ?_;rintro e w2 ⟨rfl,m2,rfl⟩;rw[HE.out];go_wp2_with fail;exact⟨⟨2,_,aa,rfl,jq,jq,rfl⟩,nA⟩
  ·have GQ:=ab2 a b c d;have hE:df D dict place c left=g 2:=HG.out 2;obtain⟨gn,El⟩: ∃x,g 2=x:=⟨_,rfl⟩
   rw[El]at hE;have HE:=hdd hE;have HS:Hid (aH g 3=if(aH g 2).1<gn then(gn,2)else aH g 2):=hdd (by rw[←El];rfl);have⟨u,hu⟩:=ex ((aH g 2).1);have⟨v,hv⟩:=ex ((aH g 2).2);have HU:Hid (aH g 2=(u,v)):=hdd (by rw[←hu,←hv]);rw[hu,hv];clear hE El hu hv;by_cases aF:u<gn;·have fE:Hid (aH g 3=(gn,2)):=hdd Bd;have j5:(u:Int)<(gn:Int):=aa;clear aF;go_wp2_with fail;refine(HL.out m W HB.out c).mono ?_;rintro e w2 ⟨rfl,m2,rfl⟩;rw[HE.out];go_wp2_with fail;exact⟨⟨3,_,aa,rfl,jq,by rw[fE.out];rfl,rfl⟩,nA⟩
   ·have fE:Hid (aH g 3=(u,v)):=hdd Be;have j5: ¬(u:Int)<(gn:Int):=aa;clear aF;go_wp2_with fail;refine(HL.out m W HB.out c).mono ?_;rintro e w2 ⟨rfl,m2,rfl⟩;rw[HE.out];go_wp2_with fail;exact⟨⟨3,_,aa,rfl,jq,jq,rfl⟩,nA⟩
  ·have GQ:=ab3 a b c d;have hE:df D dict place d left=g 3:=HG.out 3;obtain⟨gn,El⟩: ∃x,g 3=x:=⟨_,rfl⟩
   rw[El]at hE;have HE:=hdd hE;have HS:Hid (aH g 4=if(aH g 3).1<gn then(gn,3)else aH g 3):=hdd (by rw[←El];rfl);have⟨u,hu⟩:=ex ((aH g 3).1);have⟨v,hv⟩:=ex ((aH g 3).2);have HU:Hid (aH g 3=(u,v)):=hdd (by rw[←hu,←hv]);rw[hu,hv];clear hE El hu hv;by_cases aF:u<gn;·have fE:Hid (aH g 4=(gn,3)):=hdd Bd;have j5:(u:Int)<(gn:Int):=aa;clear aF;go_wp2_with fail;refine(HL.out m W HB.out d).mono ?_;rintro e w2 ⟨rfl,m2,rfl⟩;rw[HE.out];go_wp2_with fail;exact⟨⟨4,_,aa,rfl,jq,by rw[fE.out];rfl,rfl⟩,nA⟩
   ·have fE:Hid (aH g 4=(u,v)):=hdd Be;have j5: ¬(u:Int)<(gn:Int):=aa;clear aF;go_wp2_with fail;refine(HL.out m W HB.out d).mono ?_;rintro e w2 ⟨rfl,m2,rfl⟩;rw[HE.out];go_wp2_with fail;exact⟨⟨4,_,aa,rfl,jq,jq,rfl⟩,nA⟩
  ·go_wp2_with fail;go_ret2;exact⟨rfl,below_drewN HB.out _⟩
def gj(D:List UInt8)(dict nice:Int)(p:Nat)(left a b c d:Int):Sy:=
 let rep:=dI D dict (p:Int) left a b c d
 let m:=kN D dict nice (p:Int) left
 if 2≤rep.1∧m.1≤rep.1+1 then⟨2,0,rep.1,0,rep.2⟩
 else if 3≤m.1∨(0<m.1∧m.2≤128)then⟨1,0,m.1,m.2,0⟩
 else if 1≤df D dict (p:Int) a left then⟨2,0,1,0,0⟩
 else⟨0,D.getD p 0,0,0,0⟩
def ql(s:Sy)(w:World)(e:Ending)(w':World):Prop:=e= .returned s.val∧Below w.heap.size w w'
theorem zZ(D:List UInt8)(dict place de most:Int):df D dict place de most≤273:=by
 unfold df;split
 ·have:=ir D place.toNat (place.toNat-de.toNat) (py D place.toNat (min 273 most));have h:py D place.toNat (min 273 most)≤273:=by unfold py;omega
  omega
 ·omega
theorem xv{M:Nat}(h: ∀i,g i≤M): ∀n,(aH g n).1≤M∧(aH g n).2≤n
 | 0=>⟨Nat.zero_le _,Nat.zero_le _⟩
 | n+1=>by
  unfold aH;have ih:=xv h n;split;·exact⟨h n,Nat.le_succ _⟩
  ·exact⟨ih.1,aa⟩
theorem xw(D:List UInt8)(dict place left a b c d:Int):(dI D dict place left a b c d).1≤273∧(dI D dict place left a b c d).2≤4:=xv (fun _=>zZ _ _ _ _ _) 4
theorem Es{g:Nat}{v0 v1 v2 v3 v4:Value}(h:Below B w W)(hg:B≤g):Below B w (((((W.setCell ⟨g,0,none⟩ v0).setCell ⟨g,1,none⟩ v1).setCell ⟨g,2,none⟩ v2).setCell ⟨g,3,none⟩ v3).setCell ⟨g,4,none⟩ v4):=
 ((((h.setCell (p:=⟨g,0,none⟩) hg _).setCell (p:=⟨g,1,none⟩) hg _).setCell (p:=⟨g,2,none⟩) hg _).setCell (p:=⟨g,3,none⟩) hg _).setCell (p:=⟨g,4,none⟩) hg _
theorem BU(b1 b2 b3 b4:Nat)(F:Nat)(A DA:Option Addr)(cF cd:Nat)(D:List UInt8)(dict nice:Int)(mp B:Nat)(p tt:Nat)(a b c d:Int)(w:World)
  (hR:nV w F A cF D dict nice mp B) (hD:Bytes w DA D) (zj:D.length≤cd) (h1:aQ b1 w (.int .i64 (tt:Nat))) (h2:aQ b2 w (PF F)) (h3:w.heap[b3]? =some (.cells [.int .i64 a,.int .i64 b,.int .i64 c,.int .i64 d].toArray 127 (0,0))) (h4:aQ b4 w (.slice DA D.length cd))
  (hp:p<tt) (Hg:tt≤D.length):
  Calls prog 158 #[.int .i64 (p:Nat),PF b1,PF b2,PF b3,PF b4] w (ql (gj D dict nice p ((tt:Int)-(p:Int)) a b c d) w):=by
 have TD:=hR.at_.small;have⟨X,hX⟩:=ex ((tt:Int)-(p:Int):Int);rw[hX];have HC:=hdd (fun(W:World) (hb:Below w.heap.size w W)=>(show W.cell? ⟨b1,0,none⟩=some (.int .i64 (tt:Nat))∧W.cell? ⟨b2,0,none⟩=some (PF F)∧(W.cell? ⟨b3,0,none⟩=some (.int .i64 a)∧W.cell? ⟨b3,1,none⟩=some (.int .i64 b)∧W.cell? ⟨b3,2,none⟩=some (.int .i64 c)∧W.cell? ⟨b3,3,none⟩=some (.int .i64 d))∧W.cell? ⟨b4,0,none⟩=some (.slice DA D.length cd)from by
  have l3:b3<w.heap.size:=(cr h3)
  have e3:=(hb.block _ l3).trans h3;refine⟨(h1.aI (hb.block _ h1.lt)).cell,(h2.aI (hb.block _ h2.lt)).cell,⟨?_,?_,?_,?_⟩,(h4.aI (hb.block _ h4.lt)).cell⟩<;>(rw[cell_of_row W _ _ _ _ _ e3];rfl)))
 have Oc:=hdd (fun(W:World) (hb:Below w.heap.size w W)=>(hR.below hb));have HDB:=hdd (fun(W:World) (hb:Below w.heap.size w W)=>(hD.below hb).addr aa);have BT:(D.length:Int)≤(cd:Int):=aa;have hXw:IntKind.i64.wrap X=X:=IntWalk.i64_in _ aa;have rz:(p:Int)<(D.length:Int):=aa;have rI:(p:Int)≤100000:=aa
 have HS:Hid (∀s,s=gj D dict nice p X a b c d→s=let rep:=dI D dict (p:Int) X a b c d
   let m:=kN D dict nice (p:Int) X
   if 2≤rep.1∧m.1≤rep.1+1 then⟨2,0,rep.1,0,rep.2⟩
   else if 3≤m.1∨(0<m.1∧m.2≤128)then⟨1,0,m.1,m.2,0⟩
   else if 1≤df D dict (p:Int) a X then⟨2,0,1,0,0⟩
   else⟨0,D.getD p 0,0,0,0⟩):=hdd (fun s h=>h)
 have⟨S,hS⟩:=ex (gj D dict nice p X a b c d);rw[hS];have fE:=hdd (HS.out S hS.symm);clear HS hS;have DS:=xw D dict (p:Int) X a b c d;obtain⟨⟨rn,TE⟩,hr⟩: ∃r,dI D dict (p:Int) X a b c d=r:=⟨_,rfl⟩
 obtain⟨⟨mn,mk⟩,hm⟩: ∃r,kN D dict nice (p:Int) X=r:=⟨_,rfl⟩
 obtain⟨bk,ni⟩: ∃r,df D dict (p:Int) a X=r:=⟨_,rfl⟩
 rw[hr,hm,ni]at fE;rw[hr]at DS;simp only at fE DS;have asQ:(rn:Int)≤273:=aa;have HR:=hdd hr;have HM:=hdd hm;have ve:=hdd ni;clear hR hD zj h1 h2 h3 h4 hr hm ni TD;go_enter func158,ntmps158;go_upto_region 1 with fail;have⟨W1,dE⟩:=ex (w.alloc (.cells #[.int .i64 0,.int .u8 0,.int .i64 0,.int .i64 0,.int .i64 0] 158));rw[dE];have aC:Below w.heap.size w W1:=vI;have hz:W1.heap[w.heap.size]? =some (.cells [.int .i64 0,.int .u8 0,.int .i64 0,.int .i64 0,.int .i64 0].toArray 158 (0,0)):=Gd;have aF:w.heap.size<W1.heap.size:=(cr hz)
 have cu:=hdd aC;have yI:=hdd aF
 have HZ:=hdd (fun(W:World) (hb:Below W1.heap.size W1 W)=>(show(W.cell? ⟨w.heap.size,0,none⟩=some (.int .i64 0)∧W.cell? ⟨w.heap.size,1,none⟩=some (.int .u8 0)∧W.cell? ⟨w.heap.size,2,none⟩=some (.int .i64 0)∧W.cell? ⟨w.heap.size,3,none⟩=some (.int .i64 0)∧W.cell? ⟨w.heap.size,4,none⟩=some (.int .i64 0))∧
   (∀i,W.frozen? ⟨w.heap.size,i,none⟩=false)from by
  have e:=(hb.block _ aF).trans hz;refine⟨⟨?_,?_,?_,?_,?_⟩,fun i=>frozen_of_row _ _ _ _ _ e⟩<;>(rw[cell_of_row W _ _ _ _ _ e];rfl)))
 obtain⟨cA,cB,⟨cC0,cC1,cC2,cC3⟩,cD⟩:=HC.out W1 aC;clear dE aC hz aF;go_wp2_with fail;refine(xu F A cF D dict nice mp _ (p:Int) X a b c d W1 (Oc.out W1 cu.out).at_).mono ?_;rintro e w2 ⟨rfl,aE⟩;rw[HR.out];have dY:=hdd (aO cu.out aE);have ZW:=hdd aE;obtain⟨cA,cB,⟨cC0,cC1,cC2,cC3⟩,cD⟩:=HC.out w2 dY.out;clear aE;go_wp2_with fail;refine(Qu F A cF D dict nice mp B (p:Int) X w2 (Oc.out w2 dY.out)).mono ?_;rintro e w3 ⟨rfl,aW⟩;rw[HM.out];have fc:=hdd (aO dY.out aW);have aj8:=hdd (aO ZW.out aW);obtain⟨cA,cB,⟨cC0,cC1,cC2,cC3⟩,cD⟩:=HC.out w3 fc.out;clear aW;go_upto_region 5 with fail;obtain⟨⟨z0,z1,z2,z3,z4⟩,zf⟩:=HZ.out w3 aj8.out;have f0:=zf 0;have f1:=zf 1;have f2:=zf 2;have f3:=zf 3;have f4:=zf 4;clear zf;by_cases fY:2≤rn∧mn≤rn+1;·have CM:Hid (S=⟨2,0,rn,0,TE⟩):=hdd (by rw[fE.out,if_pos fY]);have g1:decide ((2:Int)≤(rn:Int))=true:=decide_eq_true aa;have g1':(2:Int)≤(rn:Int):=aa;have g2:(mn:Int)≤(rn:Int)+1:=aa;clear fY;go_wp2_with fail;refine bodyPost_ret (v:=S.val) nB rfl ⟨rfl,Es fc.out (Nat.le_refl _)⟩
 ·by_cases fS:3≤mn∨(0<mn∧mk≤128)
  ·have hs:(2≤rn∧ ¬mn≤rn+1∧3≤mn)∨(¬2≤rn∧3≤mn)∨(¬2≤rn∧ ¬3≤mn∧0<mn∧mk≤128):=(by omega);rcases hs with⟨g1,g2,g3⟩ | ⟨g1,g3⟩ | ⟨g1,g3,g4,g5⟩
   ·have i1:(2:Int)≤(rn:Int):=(by omega);have i2: ¬(mn:Int)≤(rn:Int)+1:=aa;have i3:(3:Int)≤(mn:Int):=aa;have CM:Hid (S=⟨1,0,mn,mk,0⟩):=hdd Gh;clear fY fS;go_wp2_with fail;refine bodyPost_ret (v:=S.val) nB rfl ⟨rfl,Es fc.out (Nat.le_refl _)⟩
   ·have i1: ¬(2:Int)≤(rn:Int):=(by omega);have i3:(3:Int)≤(mn:Int):=aa;have CM:Hid (S=⟨1,0,mn,mk,0⟩):=hdd Gh;clear fY fS;go_wp2_with fail;refine bodyPost_ret (v:=S.val) nB rfl ⟨rfl,Es fc.out (Nat.le_refl _)⟩
   ·have i1: ¬(2:Int)≤(rn:Int):=(by omega);have i3: ¬(3:Int)≤(mn:Int):=aa;have i4:(0:Int)<(mn:Int):=aa;have i5:(mk:Int)≤128:=aa;have CM:Hid (S=⟨1,0,mn,mk,0⟩):=hdd Gh;clear fY fS;go_wp2_with fail;refine bodyPost_ret (v:=S.val) nB rfl ⟨rfl,Es fc.out (Nat.le_refl _)⟩
  ·have hs:(¬2≤rn∧ ¬3≤mn∧ ¬0<mn)∨(¬2≤rn∧ ¬3≤mn∧0<mn∧ ¬mk≤128):=(by omega);rcases hs with⟨g1,g3,g4⟩ | ⟨g1,g3,g4,g5⟩
   ·have i1: ¬(2:Int)≤(rn:Int):=(by omega);have i3: ¬(3:Int)≤(mn:Int):=aa;have i4: ¬(0:Int)<(mn:Int):=aa;go_wp2_with fail;refine(xa F A cF D dict nice mp _ (p:Int) a X w3 (Oc.out w3 fc.out).at_).mono ?_;rintro e w4 ⟨rfl,m4,rfl⟩;rw[ve.out];by_cases hk:1≤bk;·have CM:Hid (S=⟨2,0,1,0,0⟩):=hdd (by rw[fE.out,if_neg fY,if_neg fS,if_pos hk]);have g5:(1:Int)≤(bk:Int):=aa;clear hk fY fS;go_wp2_with fail;refine bodyPost_ret (v:=S.val) nB rfl ⟨rfl,Es (below_drewN fc.out _) (Nat.le_refl _)⟩
    ·have CM:Hid (S=⟨0,D.getD p 0,0,0,0⟩):=hdd (by rw[fE.out,if_neg fY,if_neg fS,if_neg hk]);have g5: ¬(1:Int)≤(bk:Int):=aa;obtain⟨g,off,rfl,_,bx⟩:=HDB.out w3 fc.out;have cp:=bx p aa;have e1:=cY (d:=D) (i:=p) aa;rw[←e1]at cp;generalize D.getD p 0=u at*;clear hk fY fS bx e1;go_wp2_with fail;refine bodyPost_ret (v:=S.val) nB rfl ⟨rfl,Es (below_drewN fc.out _) (Nat.le_refl _)⟩
   ·have i1: ¬(2:Int)≤(rn:Int):=(by omega);have i3: ¬(3:Int)≤(mn:Int):=aa;have i4:(0:Int)<(mn:Int):=aa;have i5: ¬(mk:Int)≤128:=aa;go_wp2_with fail;refine(xa F A cF D dict nice mp _ (p:Int) a X w3 (Oc.out w3 fc.out).at_).mono ?_;rintro e w4 ⟨rfl,m4,rfl⟩;rw[ve.out];by_cases hk:1≤bk;·have CM:Hid (S=⟨2,0,1,0,0⟩):=hdd (by rw[fE.out,if_neg fY,if_neg fS,if_pos hk]);have g5:(1:Int)≤(bk:Int):=aa;clear hk fY fS;go_wp2_with fail;refine bodyPost_ret (v:=S.val) nB rfl ⟨rfl,Es (below_drewN fc.out _) (Nat.le_refl _)⟩
    ·have CM:Hid (S=⟨0,D.getD p 0,0,0,0⟩):=hdd (by rw[fE.out,if_neg fY,if_neg fS,if_neg hk]);have g5: ¬(1:Int)≤(bk:Int):=aa;obtain⟨g,off,rfl,_,bx⟩:=HDB.out w3 fc.out;have cp:=bx p aa;have e1:=cY (d:=D) (i:=p) aa;rw[←e1]at cp;generalize D.getD p 0=u at*;clear hk fY fS bx e1;go_wp2_with fail;refine bodyPost_ret (v:=S.val) nB rfl ⟨rfl,Es (below_drewN fc.out _) (Nat.le_refl _)⟩
theorem LD(s:Sy)(hk:s.k≤2)(hr:s.r≤3)(r:R4)(w:World):Calls prog 162 #[r.val,s.val] w (iO (du s r).1 (du s r).2.1 (du s r).2.2.1 (du s r).2.2.2 w):=by
 obtain⟨k,b,l,d,q⟩:=s;obtain⟨r0,r1,r2,r3⟩:=r;simp only at hk hr;rcases(by omega:k=0∨k=1∨k=2)with rfl | rfl | rfl;·exact LC r0 r1 r2 r3 b _ _ _ w
 ·exact Er r0 r1 r2 r3 b _ _ _ w
 ·rcases(by omega:q=0∨q=1∨q=2∨q=3)with rfl | rfl | rfl | rfl;·exact Hb r0 r1 r2 r3 b _ _ w
  ·exact Hc r0 r1 r2 r3 b _ _ w
  ·exact Hd r0 r1 r2 r3 b _ _ w
  ·exact Hf r0 r1 r2 r3 b _ _ w
theorem qm{g:Nat→Nat}: ∀n,0<n→(aH g n).2<n
 | n+1,_=>by
  unfold aH;split;·exact Nat.lt_succ_self _
  ·rcases Nat.eq_zero_or_pos n with rfl | h;·exact Nat.lt_succ_self _
   ·have:=qm (g:=g) n h;omega
theorem LE(D:List UInt8)(dict nice:Int)(p:Nat)(left a b c d:Int):(gj D dict nice p left a b c d).k≤2∧(gj D dict nice p left a b c d).r≤3:=by
 have h:(dI D dict (p:Int) left a b c d).2<4:=qm 4 an;unfold gj;simp only;split;·exact⟨Nat.le_refl 2,by show(dI D dict (p:Int) left a b c d).2≤3;omega⟩
 ·split;·exact⟨(by decide:1≤2),Nat.zero_le 3⟩
  ·split;·exact⟨Nat.le_refl 2,Nat.zero_le 3⟩
   ·exact⟨Nat.zero_le 2,Nat.zero_le 3⟩
theorem Qy(D:List UInt8)(dict nice place most:Int):(kN D dict nice place most).1≤D.length:=by
 unfold kN;split
 ·rename_i h;unfold fU;split;·exact Nat.zero_le _
  ·rcases(iN (fun k=>aU D place.toNat (place.toNat-k) (py D place.toNat (min nice most))) (min (place.toNat:Int) dict).toNat).at_ with⟨e,_⟩ | ⟨_,_,e,_⟩
   ·rw[e];exact Nat.zero_le _
   ·rw[←e];have h1:=ir D place.toNat (place.toNat-(bX (fun k=>aU D place.toNat (place.toNat-k) (py D place.toNat (min nice most))) (min (place.toNat:Int) dict).toNat).2) (py D place.toNat (min nice most));have h2:py D place.toNat (min nice most)≤D.length:=(by unfold py;omega);exact Nat.le_trans h1 h2
 ·exact Nat.zero_le _
theorem LF(D:List UInt8)(dict nice:Int)(p:Nat)(left a b c d:Int):(gj D dict nice p left a b c d).l≤273+D.length:=by
 have h1:=(xw D dict (p:Int) left a b c d).1;have h2:=Qy D dict nice (p:Int) left;unfold gj;simp only;split;·show(dI D dict (p:Int) left a b c d).1≤_;omega
 ·split;·show(kN D dict nice (p:Int) left).1≤_;omega
  ·split;·show 1≤_;omega
   ·exact Nat.zero_le _
def fe(D:List UInt8)(dict nice:Int)(tt p:Nat)(r:R4):Sy:=gj D dict nice p ((tt:Int)-(p:Int)) r.1 r.2.1 r.2.2.1 r.2.2.2
def ba(D:List UInt8)(dict nice:Int)(tt:Nat):Nat→Nat→R4→List Sy×R4
 | 0,_,r=>([],r)
 | f+1,p,r=>if p<tt then
   (fe D dict nice tt p r::(ba D dict nice tt f (p+max (fe D dict nice tt p r).l 1) (du (fe D dict nice tt p r) r)).1,(ba D dict nice tt f (p+max (fe D dict nice tt p r).l 1) (du (fe D dict nice tt p r) r)).2)
  else([],r)
theorem uf(D:List UInt8)(dict nice:Int)(tt:Nat): ∀(f g p:Nat) (r:R4),tt-p≤f→tt-p≤g→ba D dict nice tt f p r=ba D dict nice tt g p r
 | 0,0,p,r,_,_=>rfl
 | 0,g+1,p,r,h,_=>by unfold ba;rw[if_neg aa]
 | f+1,0,p,r,_,h=>by unfold ba;rw[if_neg aa]
 | f+1,g+1,p,r,h1,h2=>by
  unfold ba;by_cases hp:p<tt;·rw[if_pos hp,if_pos hp,uf D dict nice tt f g _ _ aa aa]
  ·rw[if_neg hp,if_neg hp]
theorem gJ(hp:p<tt):ba D dict nice tt (tt-p) p r=
  (fe D dict nice tt p r::(ba D dict nice tt (tt-(p+max (fe D dict nice tt p r).l 1)) (p+max (fe D dict nice tt p r).l 1) (du (fe D dict nice tt p r) r)).1,(ba D dict nice tt (tt-(p+max (fe D dict nice tt p r).l 1)) (p+max (fe D dict nice tt p r).l 1) (du (fe D dict nice tt p r) r)).2):=by
 obtain⟨f,hf⟩: ∃f,tt-p=f+1:=⟨tt-p-1,aa⟩
 rw[hf];conv=>lhs;unfold ba
 rw[if_pos hp,uf D dict nice tt f (tt-(p+max (fe D dict nice tt p r).l 1)) _ _ aa aa]
theorem mB(hp: ¬p<tt):ba D dict nice tt (tt-p) p r=([],r):=by rw[show tt-p=0 by omega];rfl
structure Cut(D:List UInt8)(p l k:Nat):Prop where
 one:1≤k
 back:k≤p
 fits:p+l≤D.length
 same: ∀i,i<l→D.getD (p+i) 0=D.getD (p+i-k) 0
theorem xy{L:Nat}(h1:1≤k)(h2:k≤p)(hL:p+L≤D.length)(h:aU D p (p-k) L=l):Cut D p l k:=by have hl:=dO D L p (p-k);rw[h]at hl;exact⟨h1,h2,ar hl.le,fun i hi=>by rw[hl.eq i hi];congr 1;omega⟩
theorem nW{de:Int}(h:df D dict (p:Int) de most=l)(hl:0<l): ∃k:Nat,de=(k:Int)∧Cut D p l k∧(k:Int)≤dict∧l≤273∧(l:Int)≤most:=by
 unfold df at h;split at h
 ·rename_i hc;obtain⟨k,rfl⟩: ∃k:Nat,de=(k:Int):=⟨de.toNat,aa⟩
  simp only[Int.toNat_natCast]at h;have aj9:py D p (min 273 most)=(min (min 273 most) ((D.length:Int)-(p:Int))).toNat:=rfl;have hle:=ir D p (p-k) (py D p (min 273 most));exact⟨k,rfl,xy aa aa aa h,hc.2.2.2.2,aa,aa⟩
 ·omega
theorem ug{n:Nat}(h:kN D dict nice (p:Int) most=(n,k))(hn:0<n):2≤n∧(n:Int)≤nice∧Cut D p n k∧(k:Int)≤dict∧(n:Int)≤most:=by
 unfold kN at h;split at h
 ·rename_i hc;rw[Int.toNat_natCast]at h;unfold fU at h;have hB:=iN (fun k=>aU D p (p-k) (py D p (min nice most))) (min (p:Int) dict).toNat;split at h;·injection h with h _;omega
  ·rename_i h2;rw[h]at hB h2;rcases hB.at_ with⟨e,_⟩ | ⟨h1,h3,h4,h5⟩
   ·simp only at e;omega
   ·simp only at h1 h3 h4 h5 h2;have aj9:py D p (min nice most)=(min (min nice most) ((D.length:Int)-(p:Int))).toNat:=rfl;have hle:=ir D p (p-k) (py D p (min nice most));exact⟨aa,aa,xy h1 aa aa h4,aa,aa⟩
 ·injection h with h _;omega
theorem qn: ∀n,(aH g n).1=0∨g (aH g n).2=(aH g n).1
 | 0=> .inl rfl
 | n+1=>by
  unfold aH;split;·exact .inr rfl
  ·exact qn n
theorem kO{D:List UInt8}{p k:Nat}: ∀(l:Nat),Cut D p l k→zT (D.take p) k l=D.take (p+l)
 | 0,_=>rfl
 | l+1,h=>by
  have ih:=kO (D:=D) (p:=p) (k:=k) l ⟨h.one,h.back,ar h.fits,fun i hi=>h.same i aa⟩;have hf:=h.fits;have h1:=h.one;have hb:=h.back;unfold zT;rw[ih];have e:(D.take (p+l)).length=p+l:=qa;rw[e];have e2:(D.take (p+l)).getD (p+l-k) 0=D.getD (p+l) 0:=by rw[h.same l aa];simp only[List.getD_eq_getElem?_getD];rw[List.getElem?_take_of_lt aa]
  rw[e2,←Nat.add_assoc,List.take_add_one,cY aa,List.getElem?_eq_getElem aa];rfl
structure Qz(D:List UInt8)(dict:Int)(p:Nat)(r:R4)(s:Sy):Prop where
 k:s.k≤2
 q:s.r≤3
 fits:iI r (p:Int) (s.k:Nat) (s.l:Nat) (s.d:Nat) (s.r:Nat)=true
 asR:kL r (s.k:Nat) (s.d:Nat) (s.r:Nat)≤dict
 plain:BG (s.k:Nat) s.b (s.l:Nat) (s.d:Nat) (s.r:Nat)=s.val
 back: ∃n:Nat,kL r (s.k:Nat) (s.d:Nat) (s.r:Nat)=(n:Int)∧(((s.k:Nat):Int)≠0→1≤n∧n≤p)∧mY (D.take p) (s.k:Nat) s.b s.l n=D.take (p+max s.l 1)
 aoR:p+max s.l 1≤D.length
 short:s.l≤273
theorem jw(s:Sy)(hk:s.k≤2)(r:R4):cT r (s.k:Nat) (s.d:Nat) (s.r:Nat)=du s r:=by
 obtain⟨k,b,l,d,q⟩:=s;simp only at hk;rcases(by omega:k=0∨k=1∨k=2)with rfl | rfl | rfl;·rfl
 ·rfl
 ·unfold cT du;rw[if_neg (show ¬((2:Nat):Int)=0 by decide),if_neg (show ¬((2:Nat):Int)=1 by decide),if_neg (show ¬2=0 by decide),if_neg (show ¬2=1 by decide)];simp only;match q with
  | 0=>rfl
  | 1=>rfl
  | 2=>rfl
  | q+3=>
   rw[if_neg aa,if_neg aa,if_neg aa];rfl
theorem adV(r:R4)(q:Nat):Li r (q:Int)=r4 r.1 r.2.1 r.2.2.1 r.2.2.2 q:=by unfold Li;rw[Int.toNat_natCast]
end Go.Proofs.YtgfpocdiojifoaaGreatDoor
