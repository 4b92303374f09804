import Derived.Test.YtfcaoggfnkhfiaaGreatDoorZ10
import Derived.Laws.CopyOwn
import Derived.Deep.RegionLaw
import Derived.Deep.RegionHeld3
import Derived.Deep.CutBlock
import Derived.Deep.DeepCutAuto
import Derived.Maps.AppendAt
import Derived.Test.YtfcaoggfnkhfiaaGreatDoorZ03
namespace Go.Proofs.YtfcaoggfnkhfiaaGreatDoor
set_option maxRecDepth 100000
set_option maxHeartbeats 8000000
open Go.RowKit Go.Proofs.Tryz
variable{dict most nice:Int}{D d:List UInt8}{B F c k l lm mp p place tt:Nat}{g:Nat→Nat}{A:Option Addr}{r:R4}{t0 t1 t2 t3:TypeId}{n0 n1 n2 n3 r0 r1 r2 r3 s0 s1 s2 s3 s4 z0 z1 z2 z3:Value}{W w:World}
section
open Go.RowKit Go.Maps
structure pf(w:World)(F:Nat)(A:Option Addr)(c:Nat)(d:List UInt8)(dict nice:Int)(mp B:Nat):Prop where
 at_:cZ w F A c d dict nice mp (.slice (some ⟨B,0,none⟩) (d.length-3) (d.length-3))
 Sn:cj w mp d (d.length-1)
 So:w.heap[B]? =some (.cells (il d (d.length-3)).toArray 21 (0,0))
theorem pf.below{w w':World}{F:Nat}{A:Option Addr}{c:Nat}{d:List UInt8}{dict nice:Int}{mp B:Nat}(h:pf w F A c d dict nice mp B)(hb:Below w.heap.size w w'):pf w' F A c d dict nice mp B:=
 ⟨h.at_.below hb,h.Sn.below hb,(hb.block _ (cr h.So)).trans h.So⟩
def Sp(d:List UInt8)(dict nice:Int)(w:World)(e:Ending)(w':World):Prop:= ∃(Fp:Nat) (A:Option Addr) (c mp B:Nat),e= .returned (.tuple #[PF Fp,.int .i64 0])∧pf w' Fp A c d dict nice mp B∧Below w.heap.size w w'
theorem XK(A:Option Addr)(d:List UInt8)(c:Nat)(dict nice:Int)(w:World)(hB:Bytes w A d)(hc:d.length≤c)(hl:d.length≤100000)(h1: ¬dict<1)(h2: ¬nice<2)(h3: ¬273<nice):
  Calls prog 70 #[.slice A d.length c,.int .i64 dict,.int .i64 nice] w (Sp d dict nice w):=by
 have pW:(d.length:Int)≤(c:Int):=aa;have qw:(d.length:Int)≤100000:=aa;have Ic:=ae (Ny A d c w hB hc hl);have HL:=ae hl;clear hB hc hl;go_enter func70,ntmps70;go_wp2_with fail;refine Ic.out.mono ?_;rintro e w1 ⟨v,rfl,aK,az⟩;obtain⟨A',c',rfl,Sq,qn,hB'⟩:=aK.read;have a7:=ae az;have ou:=ae hB';have HC':=ae Sq;have⟨W2,mc⟩:=ex (w1.alloc (.cells #[.slice A' d.length c',.int .i64 dict,.int .i64 nice,.map none,.slice none 0 0] 141));have kL:W2.heap[w1.heap.size]? =some (.cells [.slice A' d.length c',.int .i64 dict,.int .i64 nice,.map none,.slice none 0 0].toArray 141 (0,0)):=C5;have aD:Below w1.heap.size w1 W2:=C0;have au9:(d.length:Int)≤(c':Int):=aa;have Sr:=ae (yy A' d c' (d.length-1) W2 (hB'.below aD) Sq HL.out rfl);have Ay:=ae mc;have J':=ae kL;have dW:=ae aD;have f20:W2.cell? ⟨w1.heap.size,0,none⟩=some (.slice A' d.length c'):=t6;clear aK az hB' Sq qn mc kL aD;go_wp2_with fail;rw[Ay.out];have oM:Hid (w1.heap.size<W2.heap.size):=ae (cr J'.out);clear f20;refine Sr.out.mono ?_;rintro e W3 ⟨rfl,sf,bA⟩;have nX:=(bA.block _ oM.out).trans J'.out;have f30:W3.frozen? ⟨w1.heap.size,3,none⟩=false:=frozen_of_row _ _ _ _ _ nX;have⟨W4,mG⟩:=ex (W3.setCell ⟨w1.heap.size,3,none⟩ (.map (some W2.heap.size)));have vj:=heap_set nX 3 (.map (some W2.heap.size));rw[mG]at vj;have abe:cj W4 W2.heap.size d (d.length-1):=by rw[←mG];exact sf.set _ _ oM.out
 have bm:Below w1.heap.size w1 W4:=by rw[←mG];exact(dW.out.trans (bA.mono (Nat.le_of_lt oM.out))).setCell (p:=⟨w1.heap.size,3,none⟩) (Nat.le_refl _) _
 have f40:W4.cell? ⟨w1.heap.size,0,none⟩=some (.slice A' d.length c'):=by rw[cell_of_row W4 _ _ _ _ _ vj];rfl
 have f3d:W3.cell? ⟨w1.heap.size,3,none⟩=some (.map none):=by rw[cell_of_row W3 _ _ _ _ _ nX];rfl
 have f3c:W3.cell? ⟨w1.heap.size,0,none⟩=some (.slice A' d.length c'):=by rw[cell_of_row W3 _ _ _ _ _ nX];rfl
 have HSF:=ae (DW A' d c' (d.length-3) W4 (ou.out.below bm) HC'.out HL.out rfl);have M2:=ae mG;have M':=ae vj;have iV:=ae bm;have amu:=ae abe;have h24:Hid (W2.heap.size<W4.heap.size):=ae abe.lt;clear mG vj bm abe nX sf bA;go_wp2_with fail;rw[M2.out];refine HSF.out.mono ?_;rintro e W5 ⟨rfl,lW,eu⟩;have afJ:w1.heap.size<W4.heap.size:=(cr M'.out)
 have yz:=(eu.block _ afJ).trans M'.out;have f50:W5.frozen? ⟨w1.heap.size,4,none⟩=false:=frozen_of_row _ _ _ _ _ yz;have f5d:W5.cell? ⟨w1.heap.size,4,none⟩=some (.slice none 0 0):=by rw[cell_of_row W5 _ _ _ _ _ yz];rfl
 have⟨W6,F7⟩:=ex (W5.setCell ⟨w1.heap.size,4,none⟩ (.slice (some ⟨W4.heap.size+1,0,none⟩) (d.length-3:Nat) (d.length-3:Nat)));have Ss:=heap_set yz 4 (.slice (some ⟨W4.heap.size+1,0,none⟩) (d.length-3:Nat) (d.length-3:Nat));rw[F7]at Ss;have lI:Below w1.heap.size w1 W6:=by rw[←F7];exact(iV.out.trans (eu.mono (Nat.le_of_lt afJ))).setCell (p:=⟨w1.heap.size,4,none⟩) (Nat.le_refl _) _
 have hR:pf W6 w1.heap.size A' c' d dict nice W2.heap.size (W4.heap.size+1):=by
  refine⟨⟨Ss,ou.out.below lI,HC'.out,HL.out⟩,?_,?_⟩;·rw[←F7];exact(amu.out.below eu).set _ _ oM.out
  ·rw[←F7];exact(ah _ _ _ _ (by show W4.heap.size+1≠w1.heap.size;omega)).trans lW
 have HR:=ae hR;have VV:=ae F7;have AC:Hid (Below w.heap.size w W6):=ae (aM a7.out lI);clear F7 Ss lI hR yz lW eu;go_wp2_with fail;rw[VV.out];go_ret2;exact⟨_,_,_,_,_,rfl,HR.out,AC.out⟩
end
def nY(d:List UInt8)(dict nice place most:Int):Nat×Nat:=if 0≤place∧place<(d.length:Int)then yj d dict nice place.toNat most else(0,0)
def Su(r:Nat×Nat)(w:World)(e:Ending)(w':World):Prop:=e= .returned (.tuple #[.int .i64 (r.1:Nat),.int .i64 (r.2:Nat)])∧Below w.heap.size w w'
theorem afK(hR:pf w F A c d dict nice mp B)(h4:4≤lm)(hl:place+lm≤d.length){b1 b2:Nat}(hb:Below w.heap.size w W)(jA:aT b1 W (PF F))(fL:aT b2 W (.int .i64 (place:Nat))):
  Calls prog 229 #[PF F,.int .i64 (place:Nat),.int .i64 (lm:Nat),.func (.func 252) #[] #[PF b1,PF b2]] W (yu d place lm dict (chain d (four d place) place) W):=by
 have hW:=hR.below hb
 exact vE F A c d dict nice mp _ place lm _ _ _ W hW.at_ hl aa (fun x hx=>(kC.1 hx).1) (pa _ _ _) (enters_of func252 ai rfl)
  (Sb Fence.wide 3 trivial rfl ak F A c d dict nice mp B (d.length-3) b1 b2 place W hW.at_ hW.So jA fL aa aa)
theorem O'(hR:pf w F A c d dict nice mp B)(h2:2≤lm)(hl:place+lm≤d.length){e:Ending}{W0:World}(hb:Below w.heap.size w W0)
  (hP:F6 (places d (d.getD place 0) (d.getD (place+1) 0) (d.length-1)) place W0 e W):
  ∃(b1 b2:Nat) (L2:List Nat),e= .returned (.func (.func 254) #[] #[PF b1,PF b2])∧Below w.heap.size w W∧(∀z,z∈L2↔z<place∧d.getD z 0=d.getD place 0∧d.getD (z+1) 0=d.getD (place+1) 0)∧
   Calls prog 229 #[PF F,.int .i64 (place:Nat),.int .i64 (lm:Nat),.func (.func 254) #[] #[PF b1,PF b2]] W (yu d place lm dict L2 W):=by
 obtain⟨b1,b2,A2,c2,h,rfl,jA,fL,sj,cU,hh,Ap,Z9,aD⟩:=hP;obtain⟨hm,hf⟩:=Nu (place:=place) rfl rfl aa hh Ap Z9;have fw:Below w.heap.size w W:=aM hb aD;have hW:=hR.below fw;have hlen:=rC d (d.getD place 0) (d.getD (place+1) 0) (d.length-1);have LZ:=hR.at_.small;refine⟨b1,b2,_,rfl,fw,hm,?_⟩
 exact vE F A c d dict nice mp _ place lm _ _ _ W hW.at_ hl aa (fun x hx=>((hm x).1 hx).1) hf (enters_of func254 ai rfl)
  (Sd Fence.wide 3 trivial rfl ak A2 c2 _ b1 b2 h W sj cU aa (fun x hx=>by have:=(nk.1 hx).1;omega) jA fL hh)
theorem Sv(F:Nat)(A:Option Addr)(c:Nat)(d:List UInt8)(dict nice:Int)(mp B:Nat)(place most:Int)(w:World)(hR:pf w F A c d dict nice mp B):
  Calls prog 191 #[PF F,.int .i64 place,.int .i64 most] w (Su (nY d dict nice place most) w):=by
 have HH:=ae (LV F A c d dict nice mp _ place w hR.at_);have qw:(d.length:Int)≤100000:=am hR.at_.small;unfold nY;by_cases h1:0≤place∧place<(d.length:Int);case neg=>
  have hh:hasB d place=false:=by
   unfold hasB;cases h:(decide (0≤place)&&decide (place<(d.length:Int)))with
   | false=>rfl
   | true=>simp at h;exact absurd h h1
  rw[hh]at HH;rw[if_neg h1];clear h1 hh hR;go_enter func191,ntmps191;go_wp2_with fail;refine HH.out.mono ?_;rintro e w1 ⟨rfl,rfl⟩;go_wp2_with fail;go_ret2;exact⟨rfl,Below.refl _ _⟩
 have hh:hasB d place=true:=by unfold hasB;simp[h1.1,h1.2]
 rw[hh]at HH;rw[if_pos h1];obtain⟨p,rfl⟩: ∃p:Nat,place=(p:Int):=⟨place.toNat,aa⟩
 simp only[Int.toNat_natCast];have AU:(p:Int)≤100000:=aa;have vo:(p:Int)<(d.length:Int):=h1.2;have⟨X,hX⟩:=ex ((d.length:Int)-(p:Int):Int);have⟨M,hM⟩:=ex (min (min nice most) X:Int);have⟨R,hRd⟩:=ex (yj d dict nice p most);rw[hRd];have Qk:Hid (R=if(dN (sO d p M.toNat) (depth p dict)).1<2 then(0,0)else dN (sO d p M.toNat) (depth p dict)):=ae (by
  rw[←hRd];unfold yj;have e:Cg d p (min nice most)=M.toNat:=by unfold Cg;rw[hX,hM]
  rw[e];rfl)
 obtain⟨f0,_,f2,_,_⟩:=hR.at_.cells;have VW:M≤(d.length:Int)-(p:Int):=aa;have HR:=ae hR;have hXw:IntKind.i64.wrap X=X:=IntWalk.i64_in _ aa;have nT:(M=nice∧ ¬most<nice∧ ¬X<nice)∨(M=most∧most<nice∧ ¬X<most)∨(M=X∧most<nice∧X<most)∨(M=X∧ ¬most<nice∧X<nice):=aa;have HMX:Hid (M≤(d.length:Int)-(p:Int)):=ae VW;clear h1 hh hR hM VW hRd;by_cases Hw:M<2
 ·have hz:Hid ((dN (sO d p M.toNat) (depth p dict)).1<2):=ae (by
   rcases(kA (sO d p M.toNat) (depth p dict)).at_ with⟨e,_⟩ | ⟨_,_,e,_⟩
   ·omega
   ·have h1:=jC d p (p-(dN (sO d p M.toNat) (depth p dict)).2) M.toNat;have e2:bu d p (p-(dN (sO d p M.toNat) (depth p dict)).2) M.toNat=(dN (sO d p M.toNat) (depth p dict)).1:=e;omega)
  have HRZ:Hid (R=(0,0)):=ae (by rw[Qk.out,if_pos hz.out]);clear Qk hz;have b2:decide (M<2)=true:=decide_eq_true Hw;rcases nT with⟨rfl,a1,a2⟩ | ⟨rfl,a1,a2⟩ | ⟨rfl,a1,a2⟩ | ⟨rfl,a1,a2⟩
  all_goals
   go_enter func191,ntmps191;go_wp2_with fail;refine HH.out.mono ?_;rintro e w1 ⟨rfl,rfl⟩;go_wp2_with fail;go_quiet (fail);go_wp2_with fail;go_ret2;rw[HRZ.out];exact⟨rfl,below_drewN (Below.refl _ _) _⟩
 ·obtain⟨lm,rfl⟩: ∃lm:Nat,M=(lm:Int):=⟨M.toNat,aa⟩
  simp only[Int.toNat_natCast]at Qk;have b2:decide ((lm:Int)<2)=false:=decide_eq_false Hw;have hlm:Hid (2≤lm∧p+lm≤d.length):=ae (am HMX.out);have hp3:Hid (p+1<d.length):=ae (am hlm.out);by_cases VB:4≤lm
  ·have b4:decide ((4:Int)≤(lm:Int))=true:=decide_eq_true aa;have b4':(4:Int)≤(lm:Int):=aa;have H4:=ae VB;clear Hw VB;rcases nT with⟨rfl,a1,a2⟩ | ⟨rfl,a1,a2⟩ | ⟨rfl,a1,a2⟩ | ⟨rfl,a1,a2⟩
   all_goals
    go_enter func191,ntmps191;go_wp2_with fail;refine HH.out.mono ?_;rintro e w1 ⟨rfl,rfl⟩;go_wp2_with fail;go_quiet (fail);go_wp2_with fail;refine(yr F p _).mono ?_;rintro e w1 ⟨b1,b2,rfl,jA,fL,_,_,az⟩;have ki:=(below_drewN (Below.refl w.heap.size w) _).trans az;have a7:=ae ki;have xF:=ae (afK HR.out H4.out hlm.out.2 ki jA fL);clear jA fL az ki;go_wp2_with fail;refine xF.out.mono ?_;rintro e w2 ⟨n,k,rfl,S',aD⟩;have ZZ:=ae S';have dW:=ae (aM a7.out aD);clear S' aD;by_cases hn4:4≤n
    ·have nl:Hid ((if(dN (sO d p lm) (depth p dict)).1<2 then(0,0)else dN (sO d p lm) (depth p dict))=(n,k)):=ae (by
      have e:=Ns ZZ.out hn4;rw[←e,if_neg (by show ¬n<2;omega)])
     have b5:decide ((4:Int)≤(n:Int))=true:=decide_eq_true aa;have b5':(4:Int)≤(n:Int):=aa;clear hn4;go_wp2_with fail;go_ret2;rw[Qk.out,nl.out];exact⟨rfl,dW.out⟩
    ·have HNF:=ae (XF ZZ.out aa);have b5:decide ((4:Int)≤(n:Int))=false:=decide_eq_false aa;have b5': ¬(4:Int)≤(n:Int):=aa;clear hn4;go_wp2_with fail;refine(pd F A c d dict _ mp _ p _ (HR.out.below dW.out).at_ (HR.out.below dW.out).Sn hp3.out).mono ?_;rintro e w3 hpd;obtain⟨c1,c2,L2,rfl,bA,yA,sQ⟩:=O' (lm:=3) HR.out ak (by have:=hlm.out;have:=H4.out;omega) dW.out hpd;have gF:=ae bA;have HME:=ae yA;have HLO:=ae sQ;clear hpd bA yA sQ;go_wp2_with fail;refine HLO.out.mono ?_;rintro e w4 ⟨n2,k2,rfl,yB,bm⟩;have iV:Hid (Below w.heap.size w w4):=ae (aM gF.out bm);have nl:=ae (Cj HME.out ak (am H4.out) HNF.out yB);clear yB bm;go_wp2_with fail;go_ret2;rw[Qk.out,←nl.out];exact⟨rfl,iV.out⟩
  ·have b4:decide ((4:Int)≤(lm:Int))=false:=decide_eq_false aa;have b4': ¬(4:Int)≤(lm:Int):=aa;clear Hw VB;rcases nT with⟨rfl,a1,a2⟩ | ⟨rfl,a1,a2⟩ | ⟨rfl,a1,a2⟩ | ⟨rfl,a1,a2⟩
   all_goals
    go_enter func191,ntmps191;go_wp2_with fail;refine HH.out.mono ?_;rintro e w1 ⟨rfl,rfl⟩;go_wp2_with fail;go_quiet (fail);go_wp2_with fail;have HBQ: ∀m,Hid (Below w.heap.size w (w.drewN m)):=fun m=>ae (below_drewN (Below.refl _ _) m);refine(pd F A c d dict _ mp _ p _ (HR.out.below (HBQ _).out).at_ (HR.out.below (HBQ _).out).Sn hp3.out).mono ?_;rintro e w3 hpd;obtain⟨c1,c2,L2,rfl,bA,yA,sQ⟩:=O' (lm:=lm) HR.out hlm.out.1 hlm.out.2 (HBQ _).out hpd;have gF:=ae bA;have HME:=ae yA;have HLO:=ae sQ;clear hpd bA yA sQ;go_wp2_with fail;refine HLO.out.mono ?_;rintro e w4 ⟨n2,k2,rfl,yB,bm⟩;have iV:Hid (Below w.heap.size w w4):=ae (aM gF.out bm);have nl:=ae (Cj HME.out hlm.out.1 (Nat.le_refl _) (fun j _ _=>jC _ _ _ _) yB);clear yB bm;go_wp2_with fail;go_ret2;rw[Qk.out,←nl.out];exact⟨rfl,iV.out⟩
def jh(a b c d:Int)(w:World)(e:Ending)(w':World):Prop:=e= .returned (ID a b c d)∧Below w.heap.size w w'
theorem NA(a b c d:Int)(IJ:UInt8)(l dd r:Int)(w:World):Calls prog 193 #[ID a b c d,tS 0 IJ l dd r] w (jh a b c d w):=by go_enter func193,ntmps193;go_wp2_with fail;refine bodyPost_ret (v:=ID a b c d) (by simp[results,results193,go_sem]) rfl ⟨rfl,?_⟩;exact((ar).alloc ag _).alloc av _
theorem vG
  (hW:(((w.alloc (.cells #[r0,r1,r2,r3] t0)).alloc (.cells #[s0,s1,s2,s3,s4] t1)).alloc (.cells #[z0,z1,z2,z3] t2)).alloc (.cells #[n0,n1,n2,n3] t3)=W):
  Below w.heap.size w W∧W.heap[w.heap.size]? =some (.cells [r0,r1,r2,r3].toArray t0 (0,0))∧W.heap[w.heap.size+1+1]? =some (.cells [z0,z1,z2,z3].toArray t2 (0,0))∧W.heap[w.heap.size+1+1+1]? =some (.cells [n0,n1,n2,n3].toArray t3 (0,0)):=by
 subst hW;have mk: ∀(W:World) (o:Obj) (b:Nat),b=W.heap.size→(W.alloc o).heap[b]? =some o:=fun W o b e=>C8;have up: ∀(W:World) (o o':Obj) (b:Nat),W.heap[b]? =some o'→(W.alloc o).heap[b]? =some o':=fun W o o' b h=>(Below.heap_alloc _ _ _ (cr h)).trans h;refine⟨((((ar).alloc ag _).alloc av _).alloc av _),up _ _ _ _ (up _ _ _ _ (up _ _ _ _ (mk _ _ _ rfl))),up _ _ _ _ (mk _ _ _ ag),mk _ _ _ ag⟩
theorem kj{m:Nat}
  (hW:((((w.alloc (.cells #[r0,r1,r2,r3] t0)).alloc (.cells #[s0,s1,s2,s3,s4] t1)).alloc (.cells #[z0,z1,z2,z3] t2)).drewN m).alloc (.cells #[n0,n1,n2,n3] t3)=W):
  Below w.heap.size w W∧W.heap[w.heap.size]? =some (.cells [r0,r1,r2,r3].toArray t0 (0,0))∧W.heap[w.heap.size+1+1]? =some (.cells [z0,z1,z2,z3].toArray t2 (0,0))∧W.heap[w.heap.size+1+1+1]? =some (.cells [n0,n1,n2,n3].toArray t3 (0,0)):=by
 obtain⟨h1,h2,h3,h4⟩:=vG (rfl:(((w.alloc (.cells #[r0,r1,r2,r3] t0)).alloc (.cells #[s0,s1,s2,s3,s4] t1)).alloc (.cells #[z0,z1,z2,z3] t2)).alloc (.cells #[n0,n1,n2,n3] t3)=_);subst hW;exact⟨⟨h1.os,h1.tape,h1.output,h1.size,h1.block⟩,h2,h3,h4⟩
theorem F8(a b c d:Int)(IJ:UInt8)(l dd r:Int)(w:World):Calls prog 193 #[ID a b c d,tS 1 IJ l dd r] w (jh dd a b c w):=by
 go_enter func193,ntmps193;go_wp2_with fail;generalize hW:(((w.alloc _).alloc _).alloc _).alloc _=W;obtain⟨hB,h0,h2,h3⟩:=vG hW;obtain⟨W0,Az⟩: ∃g,w.heap.size=g:=⟨_,rfl⟩
 have⟨g,hg⟩:=ex (W0+1+1+1);obtain⟨g2,gI⟩: ∃g,W0+1+1=g:=⟨_,rfl⟩
 rw[Az]at hB h0 h2 h3 ⊢;rw[hg]at h3 ⊢;rw[gI]at h2 ⊢;have yC:g2<g∧W0≤g∧W0≤g2:=aa;have xb:Hid (g2<g∧W0≤g∧W0≤g2):=ae yC;have HB:=ae hB;have H2:=ae h2;have F9:=ae Az;clear hg gI hW yC h2 hB Az;have q1: ∀w,(Instr.sliceAt 152 (.pointer (some ⟨g,0,none⟩)) (some (.int .i64 1)) (some (.int .i64 4)) none).run prog w= .ok (.slice (some ⟨g,1,none⟩) 3 3) w:=fun w=>xJ g 3 ak w;have q2: ∀w,(Instr.sliceAt 152 (.pointer (some ⟨W0,0,none⟩)) none (some (.int .i64 3)) none).run prog w= .ok (.slice (some ⟨W0,0,none⟩) 3 4) w:=fun w=>Fe W0 3 ak w;have vr:W.drew.heap[g]? =some (.cells ([Value.int .i64 a,Value.int .i64 b,Value.int .i64 c,Value.int .i64 d]).toArray 152 (0,0)):=h3;have kf:=mo (cs:=[Value.int .i64 a,Value.int .i64 b,Value.int .i64 c]) h0 (by intro j hj;match j,hj with | 0,_ | 1,_ | 2,_=>rfl);have vq:IntKind.i64.wrap 4=4:=ak;clear h3 h0;go_region_law (refine step_copy_splice rfl (.tmp 26) (.tmp 28) 172 172 rfl 3 underlying172 ai _ _ _ _ _ _ rfl rfl g 1 _ _ vr ([Value.int .i64 a,Value.int .i64 b,Value.int .i64 c]) rfl (fun _=>⟨rfl,_,rfl,kf⟩) ag Il g W.drew (Below.refl _ _) (Nat.le_refl _) ?_;intro w4 et bm);have aP:w4.heap[g]? =some (.cells ([Value.int .i64 a,Value.int .i64 a,Value.int .i64 b,Value.int .i64 c]).toArray 152 (0,0)):=et.out;have hz:w4.heap[g2]? =some (.cells ([Value.int .i64 0,Value.int .i64 0,Value.int .i64 0,Value.int .i64 0]).toArray 152 (0,0)):=(bm.block g2 xb.out.1).trans H2.out;have ki:Below W0 w w4:=(show Below W0 w W.drew from⟨HB.out.os,HB.out.tape,HB.out.output,HB.out.size,HB.out.block⟩).trans (bm.mono xb.out.2.1);have dE:=ae ki;have E7:=ae aP;have HZ:=ae hz;have k0:w4.cell? ⟨g,0,none⟩=some (.int .i64 a):=xB;have fz0:w4.frozen? ⟨g,0,none⟩=false:=frozen_of_row _ _ _ _ _ aP;clear q1 q2 vr kf vq bm et ki hz aP;have XL:g≠g2∧g2≠g:=am xb.out;obtain⟨n1,n2⟩:=XL;have k1:w4.cell? ⟨g,1,none⟩=some (.int .i64 a):=gX;have k2:w4.cell? ⟨g,2,none⟩=some (.int .i64 b):=gX;have k3:w4.cell? ⟨g,3,none⟩=some (.int .i64 c):=gX;have z0:w4.cell? ⟨g2,0,none⟩=some (.int .i64 0):=eF;have f0:w4.frozen? ⟨g2,0,none⟩=false:=frozen_of_row _ _ _ _ _ HZ.out;have z1:w4.cell? ⟨g2,1,none⟩=some (.int .i64 0):=eF;have f1:w4.frozen? ⟨g2,1,none⟩=false:=frozen_of_row _ _ _ _ _ HZ.out;have z2:w4.cell? ⟨g2,2,none⟩=some (.int .i64 0):=eF;have f2:w4.frozen? ⟨g2,2,none⟩=false:=frozen_of_row _ _ _ _ _ HZ.out;have z3:w4.cell? ⟨g2,3,none⟩=some (.int .i64 0):=eF;have f3:w4.frozen? ⟨g2,3,none⟩=false:=frozen_of_row _ _ _ _ _ HZ.out;go_wp2_with fail;refine bodyPost_ret (v:=ID dd a b c) xC rfl ⟨rfl,?_⟩;have hg:=xb.out;rw[F9.out];refine Below.setCell ?_ hg.2.2 _;refine Below.setCell ?_ hg.2.2 _;refine Below.setCell ?_ hg.2.2 _;refine Below.setCell ?_ hg.2.2 _;exact Below.setCell dE.out hg.2.1 _
theorem JA(a b c d:Int)(IJ:UInt8)(l dd:Int)(w:World):Calls prog 193 #[ID a b c d,tS 2 IJ l dd 0] w (jh a b c d w):=by
 go_enter func193,ntmps193;go_wp2_with fail;go_quiet (fail);go_wp2_with fail;generalize hW:((((w.alloc _).alloc _).alloc _).drewN _).alloc _=W;obtain⟨hB,h0,h2,h3⟩:=kj hW;obtain⟨W0,Az⟩: ∃g,w.heap.size=g:=⟨_,rfl⟩
 have⟨g,hg⟩:=ex (W0+1+1+1);obtain⟨g2,gI⟩: ∃g,W0+1+1=g:=⟨_,rfl⟩
 rw[Az]at hB h0 h2 h3 ⊢;rw[hg]at h3 ⊢;rw[gI]at h2 ⊢;have yC:g2<g∧W0≤g∧W0≤g2:=aa;have xb:Hid (g2<g∧W0≤g∧W0≤g2):=ae yC;have HB:=ae hB;have H2:=ae h2;have F9:=ae Az;clear hg gI hW yC h2 hB Az;have q1: ∀w,(Instr.sliceAt 152 (.pointer (some ⟨g,0,none⟩)) (some (.int .i64 1)) (some (.int .i64 1)) none).run prog w= .ok (.slice (some ⟨g,1,none⟩) 0 3) w:=fun w=>xJ g 0 ak w;have q2: ∀w,(Instr.sliceAt 152 (.pointer (some ⟨W0,0,none⟩)) none (some (.int .i64 0)) none).run prog w= .ok (.slice (some ⟨W0,0,none⟩) 0 4) w:=fun w=>Fe W0 0 ak w;have vr:W.drew.heap[g]? =some (.cells ([Value.int .i64 a,Value.int .i64 b,Value.int .i64 c,Value.int .i64 d]).toArray 152 (0,0)):=h3;have kf:=mo (cs:=[]) h0 ag;have vq:IntKind.i64.wrap 1=1:=ak;clear h3 h0;go_region_law (refine step_copy_splice rfl (.tmp 26) (.tmp 28) 172 172 rfl 3 underlying172 ai _ _ _ _ _ _ rfl rfl g 1 _ _ vr ([]) rfl (fun _=>⟨rfl,_,rfl,kf⟩) ag ag g W.drew (Below.refl _ _) (Nat.le_refl _) ?_;intro w4 et bm);have aP:w4.heap[g]? =some (.cells ([Value.int .i64 a,Value.int .i64 b,Value.int .i64 c,Value.int .i64 d]).toArray 152 (0,0)):=et.out;have hz:w4.heap[g2]? =some (.cells ([Value.int .i64 0,Value.int .i64 0,Value.int .i64 0,Value.int .i64 0]).toArray 152 (0,0)):=(bm.block g2 xb.out.1).trans H2.out;have ki:Below W0 w w4:=(show Below W0 w W.drew from⟨HB.out.os,HB.out.tape,HB.out.output,HB.out.size,HB.out.block⟩).trans (bm.mono xb.out.2.1);have dE:=ae ki;have E7:=ae aP;have HZ:=ae hz;have k0:w4.cell? ⟨g,0,none⟩=some (.int .i64 a):=xB;have fz0:w4.frozen? ⟨g,0,none⟩=false:=frozen_of_row _ _ _ _ _ aP;clear q1 q2 vr kf vq bm et ki hz aP;have XL:g≠g2∧g2≠g:=am xb.out;obtain⟨n1,n2⟩:=XL;have k1:w4.cell? ⟨g,1,none⟩=some (.int .i64 b):=gX;have k2:w4.cell? ⟨g,2,none⟩=some (.int .i64 c):=gX;have k3:w4.cell? ⟨g,3,none⟩=some (.int .i64 d):=gX;have z0:w4.cell? ⟨g2,0,none⟩=some (.int .i64 0):=eF;have f0:w4.frozen? ⟨g2,0,none⟩=false:=frozen_of_row _ _ _ _ _ HZ.out;have z1:w4.cell? ⟨g2,1,none⟩=some (.int .i64 0):=eF;have f1:w4.frozen? ⟨g2,1,none⟩=false:=frozen_of_row _ _ _ _ _ HZ.out;have z2:w4.cell? ⟨g2,2,none⟩=some (.int .i64 0):=eF;have f2:w4.frozen? ⟨g2,2,none⟩=false:=frozen_of_row _ _ _ _ _ HZ.out;have z3:w4.cell? ⟨g2,3,none⟩=some (.int .i64 0):=eF;have f3:w4.frozen? ⟨g2,3,none⟩=false:=frozen_of_row _ _ _ _ _ HZ.out;go_wp2_with fail;refine bodyPost_ret (v:=ID a b c d) xC rfl ⟨rfl,?_⟩;have hg:=xb.out;rw[F9.out];refine Below.setCell ?_ hg.2.2 _;refine Below.setCell ?_ hg.2.2 _;refine Below.setCell ?_ hg.2.2 _;refine Below.setCell ?_ hg.2.2 _;exact Below.setCell dE.out hg.2.1 _
theorem JB(a b c d:Int)(IJ:UInt8)(l dd:Int)(w:World):Calls prog 193 #[ID a b c d,tS 2 IJ l dd 1] w (jh b a c d w):=by
 go_enter func193,ntmps193;go_wp2_with fail;go_quiet (fail);go_wp2_with fail;generalize hW:((((w.alloc _).alloc _).alloc _).drewN _).alloc _=W;obtain⟨hB,h0,h2,h3⟩:=kj hW;obtain⟨W0,Az⟩: ∃g,w.heap.size=g:=⟨_,rfl⟩
 have⟨g,hg⟩:=ex (W0+1+1+1);obtain⟨g2,gI⟩: ∃g,W0+1+1=g:=⟨_,rfl⟩
 rw[Az]at hB h0 h2 h3 ⊢;rw[hg]at h3 ⊢;rw[gI]at h2 ⊢;have yC:g2<g∧W0≤g∧W0≤g2:=aa;have xb:Hid (g2<g∧W0≤g∧W0≤g2):=ae yC;have HB:=ae hB;have H2:=ae h2;have F9:=ae Az;clear hg gI hW yC h2 hB Az;have q1: ∀w,(Instr.sliceAt 152 (.pointer (some ⟨g,0,none⟩)) (some (.int .i64 1)) (some (.int .i64 2)) none).run prog w= .ok (.slice (some ⟨g,1,none⟩) 1 3) w:=fun w=>xJ g 1 ak w;have q2: ∀w,(Instr.sliceAt 152 (.pointer (some ⟨W0,0,none⟩)) none (some (.int .i64 1)) none).run prog w= .ok (.slice (some ⟨W0,0,none⟩) 1 4) w:=fun w=>Fe W0 1 ak w;have vr:W.drew.heap[g]? =some (.cells ([Value.int .i64 a,Value.int .i64 b,Value.int .i64 c,Value.int .i64 d]).toArray 152 (0,0)):=h3;have kf:=mo (cs:=[Value.int .i64 a]) h0 (by intro j hj;match j,hj with | 0,_=>rfl);have vq:IntKind.i64.wrap 2=2:=ak;clear h3 h0;go_region_law (refine step_copy_splice rfl (.tmp 26) (.tmp 28) 172 172 rfl 3 underlying172 ai _ _ _ _ _ _ rfl rfl g 1 _ _ vr ([Value.int .i64 a]) rfl (fun _=>⟨rfl,_,rfl,kf⟩) ag (by intro v hv;simp at hv;subst hv;rfl) g W.drew (Below.refl _ _) (Nat.le_refl _) ?_;intro w4 et bm);have aP:w4.heap[g]? =some (.cells ([Value.int .i64 a,Value.int .i64 a,Value.int .i64 c,Value.int .i64 d]).toArray 152 (0,0)):=et.out;have hz:w4.heap[g2]? =some (.cells ([Value.int .i64 0,Value.int .i64 0,Value.int .i64 0,Value.int .i64 0]).toArray 152 (0,0)):=(bm.block g2 xb.out.1).trans H2.out;have ki:Below W0 w w4:=(show Below W0 w W.drew from⟨HB.out.os,HB.out.tape,HB.out.output,HB.out.size,HB.out.block⟩).trans (bm.mono xb.out.2.1);have dE:=ae ki;have E7:=ae aP;have HZ:=ae hz;have k0:w4.cell? ⟨g,0,none⟩=some (.int .i64 a):=xB;have fz0:w4.frozen? ⟨g,0,none⟩=false:=frozen_of_row _ _ _ _ _ aP;clear q1 q2 vr kf vq bm et ki hz aP;have XL:g≠g2∧g2≠g:=am xb.out;obtain⟨n1,n2⟩:=XL;have k1:w4.cell? ⟨g,1,none⟩=some (.int .i64 a):=gX;have k2:w4.cell? ⟨g,2,none⟩=some (.int .i64 c):=gX;have k3:w4.cell? ⟨g,3,none⟩=some (.int .i64 d):=gX;have z0:w4.cell? ⟨g2,0,none⟩=some (.int .i64 0):=eF;have f0:w4.frozen? ⟨g2,0,none⟩=false:=frozen_of_row _ _ _ _ _ HZ.out;have z1:w4.cell? ⟨g2,1,none⟩=some (.int .i64 0):=eF;have f1:w4.frozen? ⟨g2,1,none⟩=false:=frozen_of_row _ _ _ _ _ HZ.out;have z2:w4.cell? ⟨g2,2,none⟩=some (.int .i64 0):=eF;have f2:w4.frozen? ⟨g2,2,none⟩=false:=frozen_of_row _ _ _ _ _ HZ.out;have z3:w4.cell? ⟨g2,3,none⟩=some (.int .i64 0):=eF;have f3:w4.frozen? ⟨g2,3,none⟩=false:=frozen_of_row _ _ _ _ _ HZ.out;go_wp2_with fail;refine bodyPost_ret (v:=ID b a c d) xC rfl ⟨rfl,?_⟩;have hg:=xb.out;rw[F9.out];refine Below.setCell ?_ hg.2.2 _;refine Below.setCell ?_ hg.2.2 _;refine Below.setCell ?_ hg.2.2 _;refine Below.setCell ?_ hg.2.2 _;exact Below.setCell dE.out hg.2.1 _
theorem JC(a b c d:Int)(IJ:UInt8)(l dd:Int)(w:World):Calls prog 193 #[ID a b c d,tS 2 IJ l dd 2] w (jh c a b d w):=by
 go_enter func193,ntmps193;go_wp2_with fail;go_quiet (fail);go_wp2_with fail;generalize hW:((((w.alloc _).alloc _).alloc _).drewN _).alloc _=W;obtain⟨hB,h0,h2,h3⟩:=kj hW;obtain⟨W0,Az⟩: ∃g,w.heap.size=g:=⟨_,rfl⟩
 have⟨g,hg⟩:=ex (W0+1+1+1);obtain⟨g2,gI⟩: ∃g,W0+1+1=g:=⟨_,rfl⟩
 rw[Az]at hB h0 h2 h3 ⊢;rw[hg]at h3 ⊢;rw[gI]at h2 ⊢;have yC:g2<g∧W0≤g∧W0≤g2:=aa;have xb:Hid (g2<g∧W0≤g∧W0≤g2):=ae yC;have HB:=ae hB;have H2:=ae h2;have F9:=ae Az;clear hg gI hW yC h2 hB Az;have q1: ∀w,(Instr.sliceAt 152 (.pointer (some ⟨g,0,none⟩)) (some (.int .i64 1)) (some (.int .i64 3)) none).run prog w= .ok (.slice (some ⟨g,1,none⟩) 2 3) w:=fun w=>xJ g 2 ak w;have q2: ∀w,(Instr.sliceAt 152 (.pointer (some ⟨W0,0,none⟩)) none (some (.int .i64 2)) none).run prog w= .ok (.slice (some ⟨W0,0,none⟩) 2 4) w:=fun w=>Fe W0 2 ak w;have vr:W.drew.heap[g]? =some (.cells ([Value.int .i64 a,Value.int .i64 b,Value.int .i64 c,Value.int .i64 d]).toArray 152 (0,0)):=h3;have kf:=mo (cs:=[Value.int .i64 a,Value.int .i64 b]) h0 (by intro j hj;match j,hj with | 0,_ | 1,_=>rfl);have vq:IntKind.i64.wrap 3=3:=ak;clear h3 h0;go_region_law (refine step_copy_splice rfl (.tmp 26) (.tmp 28) 172 172 rfl 3 underlying172 ai _ _ _ _ _ _ rfl rfl g 1 _ _ vr ([Value.int .i64 a,Value.int .i64 b]) rfl (fun _=>⟨rfl,_,rfl,kf⟩) ag (by intro v hv;simp at hv;rcases hv with rfl | rfl<;>rfl) g W.drew (Below.refl _ _) (Nat.le_refl _) ?_;intro w4 et bm);have aP:w4.heap[g]? =some (.cells ([Value.int .i64 a,Value.int .i64 a,Value.int .i64 b,Value.int .i64 d]).toArray 152 (0,0)):=et.out;have hz:w4.heap[g2]? =some (.cells ([Value.int .i64 0,Value.int .i64 0,Value.int .i64 0,Value.int .i64 0]).toArray 152 (0,0)):=(bm.block g2 xb.out.1).trans H2.out;have ki:Below W0 w w4:=(show Below W0 w W.drew from⟨HB.out.os,HB.out.tape,HB.out.output,HB.out.size,HB.out.block⟩).trans (bm.mono xb.out.2.1);have dE:=ae ki;have E7:=ae aP;have HZ:=ae hz;have k0:w4.cell? ⟨g,0,none⟩=some (.int .i64 a):=xB;have fz0:w4.frozen? ⟨g,0,none⟩=false:=frozen_of_row _ _ _ _ _ aP;clear q1 q2 vr kf vq bm et ki hz aP;have XL:g≠g2∧g2≠g:=am xb.out;obtain⟨n1,n2⟩:=XL;have k1:w4.cell? ⟨g,1,none⟩=some (.int .i64 a):=gX;have k2:w4.cell? ⟨g,2,none⟩=some (.int .i64 b):=gX;have k3:w4.cell? ⟨g,3,none⟩=some (.int .i64 d):=gX;have z0:w4.cell? ⟨g2,0,none⟩=some (.int .i64 0):=eF;have f0:w4.frozen? ⟨g2,0,none⟩=false:=frozen_of_row _ _ _ _ _ HZ.out;have z1:w4.cell? ⟨g2,1,none⟩=some (.int .i64 0):=eF;have f1:w4.frozen? ⟨g2,1,none⟩=false:=frozen_of_row _ _ _ _ _ HZ.out;have z2:w4.cell? ⟨g2,2,none⟩=some (.int .i64 0):=eF;have f2:w4.frozen? ⟨g2,2,none⟩=false:=frozen_of_row _ _ _ _ _ HZ.out;have z3:w4.cell? ⟨g2,3,none⟩=some (.int .i64 0):=eF;have f3:w4.frozen? ⟨g2,3,none⟩=false:=frozen_of_row _ _ _ _ _ HZ.out;go_wp2_with fail;refine bodyPost_ret (v:=ID c a b d) xC rfl ⟨rfl,?_⟩;have hg:=xb.out;rw[F9.out];refine Below.setCell ?_ hg.2.2 _;refine Below.setCell ?_ hg.2.2 _;refine Below.setCell ?_ hg.2.2 _;refine Below.setCell ?_ hg.2.2 _;exact Below.setCell dE.out hg.2.1 _
theorem JD(a b c d:Int)(IJ:UInt8)(l dd:Int)(w:World):Calls prog 193 #[ID a b c d,tS 2 IJ l dd 3] w (jh d a b c w):=by
 go_enter func193,ntmps193;go_wp2_with fail;go_quiet (fail);go_wp2_with fail;generalize hW:((((w.alloc _).alloc _).alloc _).drewN _).alloc _=W;obtain⟨hB,h0,h2,h3⟩:=kj hW;obtain⟨W0,Az⟩: ∃g,w.heap.size=g:=⟨_,rfl⟩
 have⟨g,hg⟩:=ex (W0+1+1+1);obtain⟨g2,gI⟩: ∃g,W0+1+1=g:=⟨_,rfl⟩
 rw[Az]at hB h0 h2 h3 ⊢;rw[hg]at h3 ⊢;rw[gI]at h2 ⊢;have yC:g2<g∧W0≤g∧W0≤g2:=aa;have xb:Hid (g2<g∧W0≤g∧W0≤g2):=ae yC;have HB:=ae hB;have H2:=ae h2;have F9:=ae Az;clear hg gI hW yC h2 hB Az;have q1: ∀w,(Instr.sliceAt 152 (.pointer (some ⟨g,0,none⟩)) (some (.int .i64 1)) (some (.int .i64 4)) none).run prog w= .ok (.slice (some ⟨g,1,none⟩) 3 3) w:=fun w=>xJ g 3 ak w;have q2: ∀w,(Instr.sliceAt 152 (.pointer (some ⟨W0,0,none⟩)) none (some (.int .i64 3)) none).run prog w= .ok (.slice (some ⟨W0,0,none⟩) 3 4) w:=fun w=>Fe W0 3 ak w;have vr:W.drew.heap[g]? =some (.cells ([Value.int .i64 a,Value.int .i64 b,Value.int .i64 c,Value.int .i64 d]).toArray 152 (0,0)):=h3;have kf:=mo (cs:=[Value.int .i64 a,Value.int .i64 b,Value.int .i64 c]) h0 (by intro j hj;match j,hj with | 0,_ | 1,_ | 2,_=>rfl);have vq:IntKind.i64.wrap 4=4:=ak;clear h3 h0;go_region_law (refine step_copy_splice rfl (.tmp 26) (.tmp 28) 172 172 rfl 3 underlying172 ai _ _ _ _ _ _ rfl rfl g 1 _ _ vr ([Value.int .i64 a,Value.int .i64 b,Value.int .i64 c]) rfl (fun _=>⟨rfl,_,rfl,kf⟩) ag Il g W.drew (Below.refl _ _) (Nat.le_refl _) ?_;intro w4 et bm);have aP:w4.heap[g]? =some (.cells ([Value.int .i64 a,Value.int .i64 a,Value.int .i64 b,Value.int .i64 c]).toArray 152 (0,0)):=et.out;have hz:w4.heap[g2]? =some (.cells ([Value.int .i64 0,Value.int .i64 0,Value.int .i64 0,Value.int .i64 0]).toArray 152 (0,0)):=(bm.block g2 xb.out.1).trans H2.out;have ki:Below W0 w w4:=(show Below W0 w W.drew from⟨HB.out.os,HB.out.tape,HB.out.output,HB.out.size,HB.out.block⟩).trans (bm.mono xb.out.2.1);have dE:=ae ki;have E7:=ae aP;have HZ:=ae hz;have k0:w4.cell? ⟨g,0,none⟩=some (.int .i64 a):=xB;have fz0:w4.frozen? ⟨g,0,none⟩=false:=frozen_of_row _ _ _ _ _ aP;clear q1 q2 vr kf vq bm et ki hz aP;have XL:g≠g2∧g2≠g:=am xb.out;obtain⟨n1,n2⟩:=XL;have k1:w4.cell? ⟨g,1,none⟩=some (.int .i64 a):=gX;have k2:w4.cell? ⟨g,2,none⟩=some (.int .i64 b):=gX;have k3:w4.cell? ⟨g,3,none⟩=some (.int .i64 c):=gX;have z0:w4.cell? ⟨g2,0,none⟩=some (.int .i64 0):=eF;have f0:w4.frozen? ⟨g2,0,none⟩=false:=frozen_of_row _ _ _ _ _ HZ.out;have z1:w4.cell? ⟨g2,1,none⟩=some (.int .i64 0):=eF;have f1:w4.frozen? ⟨g2,1,none⟩=false:=frozen_of_row _ _ _ _ _ HZ.out;have z2:w4.cell? ⟨g2,2,none⟩=some (.int .i64 0):=eF;have f2:w4.frozen? ⟨g2,2,none⟩=false:=frozen_of_row _ _ _ _ _ HZ.out;have z3:w4.cell? ⟨g2,3,none⟩=some (.int .i64 0):=eF;have f3:w4.frozen? ⟨g2,3,none⟩=false:=frozen_of_row _ _ _ _ _ HZ.out;go_wp2_with fail;refine bodyPost_ret (v:=ID d a b c) xC rfl ⟨rfl,?_⟩;have hg:=xb.out;rw[F9.out];refine Below.setCell ?_ hg.2.2 _;refine Below.setCell ?_ hg.2.2 _;refine Below.setCell ?_ hg.2.2 _;refine Below.setCell ?_ hg.2.2 _;exact Below.setCell dE.out hg.2.1 _
def aG(g:Nat→Nat):Nat→Nat×Nat
 | 0=>(0,0)
 | n+1=>if(aG g n).1<g n then(g n,n)else aG g n
def eY(D:List UInt8)(dict place left a b c d:Int):Nat×Nat:=aG (fun i=>eo D dict place (r4 a b c d i) left) 4
def XM(r:Nat×Nat)(w:World)(e:Ending)(w':World):Prop:=e= .returned (.tuple #[.int .i64 (r.1:Nat),.int .i64 (r.2:Nat)])∧Below w.heap.size w w'
theorem yD(F:Nat)(A:Option Addr)(cp:Nat)(D:List UInt8)(dict nice:Int)(mp:Nat)(v4:Value)(place left a b c d:Int)(w:World)(hF:cZ w F A cp D dict nice mp v4):
  Calls prog 190 #[PF F,.int .i64 place,.int .i64 left,ID a b c d] w (XM (eY D dict place left a b c d) w):=by
 have HL:=ae (fun(m:Nat) (W:World) (hb:Below w.heap.size w W) (x:Int)=>ym F A cp D dict nice mp v4 place x left (W.drewN m) ((hF.below hb).drewN m));unfold eY;obtain⟨g,hg⟩: ∃g:Nat→Nat,(fun i=>eo D dict place (r4 a b c d i) left)=g:=⟨_,rfl⟩
 rw[hg];have HG:=ae (fun i=>congrFun hg i);clear hg hF;go_enter func190,ntmps190;go_wp2_with fail;have⟨W,hW⟩:=ex (w.alloc (.cells #[.int .i64 a,.int .i64 b,.int .i64 c,.int .i64 d] 152));rw[hW];have HB:Hid (Below w.heap.size w W):=ae (by rw[←hW];exact ar);clear hW;go_loopw [10,11,16] (fun x y i wr=> ∃(n m:Nat),n≤4∧i= .int .i64 (n:Nat)∧x= .int .i64 ((aG g n).1:Nat)∧y= .int .i64 ((aG g n).2:Nat)∧wr=W.drewN m) (fun x y i _=>4-(intOf i).toNat);case atStart=>exact⟨0,0,aa,rfl,rfl,rfl,rfl⟩
 case round=>
  obtain⟨n,m,hn,rfl,rfl,rfl,rfl⟩:=hrel;rcases(by omega:n=0∨n=1∨n=2∨n=3∨n=4)with rfl | rfl | rfl | rfl | rfl
  ·have Jb:=QB a b c d;have hE:eo D dict place a left=g 0:=HG.out 0;obtain⟨gn,F5⟩: ∃x,g 0=x:=⟨_,rfl⟩
   rw[F5]at hE;have HE:=ae hE;have HS:Hid (aG g 1=if(aG g 0).1<gn then(gn,0)else aG g 0):=ae (by rw[←F5];rfl);have⟨u,hu⟩:=ex ((aG g 0).1);have⟨v,hv⟩:=ex ((aG g 0).2);have HU:Hid (aG g 0=(u,v)):=ae (by rw[←hu,←hv]);rw[hu,hv];clear hE F5 hu hv;by_cases aH:u<gn;·have t7:Hid (aG g 1=(gn,0)):=ae C9;have oM:(u:Int)<(gn:Int):=aa;clear aH;go_wp2_with fail;refine(HL.out m W HB.out a).mono ?_;rintro e w2 ⟨rfl,m2,rfl⟩;rw[HE.out];go_wp2_with fail;exact⟨⟨1,_,aa,rfl,jK,by rw[t7.out];rfl,rfl⟩,oF⟩
   ·have t7:Hid (aG g 1=(u,v)):=ae Da;have oM: ¬(u:Int)<(gn:Int):=aa;clear aH;go_wp2_with fail;refine(HL.out m W HB.out a).mono ?_;rintro e w2 ⟨rfl,m2,rfl⟩;rw[HE.out];go_wp2_with fail;exact⟨⟨1,_,aa,rfl,jK,jK,rfl⟩,oF⟩
  ·have Jb:=ad6 a b c d;have hE:eo D dict place b left=g 1:=HG.out 1;obtain⟨gn,F5⟩: ∃x,g 1=x:=⟨_,rfl⟩
   rw[F5]at hE;have HE:=ae hE;have HS:Hid (aG g 2=if(aG g 1).1<gn then(gn,1)else aG g 1):=ae (by rw[←F5];rfl);have⟨u,hu⟩:=ex ((aG g 1).1);have⟨v,hv⟩:=ex ((aG g 1).2);have HU:Hid (aG g 1=(u,v)):=ae (by rw[←hu,←hv]);rw[hu,hv];clear hE F5 hu hv;by_cases aH:u<gn;·have t7:Hid (aG g 2=(gn,1)):=ae C9;have oM:(u:Int)<(gn:Int):=aa;clear aH;go_wp2_with fail;refine(HL.out m W HB.out b).mono ?_;rintro e w2 ⟨rfl,m2,rfl⟩;rw[HE.out];go_wp2_with fail;exact⟨⟨2,_,aa,rfl,jK,by rw[t7.out];rfl,rfl⟩,oF⟩
   ·have t7:Hid (aG g 2=(u,v)):=ae Da;have oM: ¬(u:Int)<(gn:Int):=aa;clear aH;go_wp2_with fail;refine(HL.out m W HB.out b).mono ?_;rintro e w2 ⟨rfl,m2,rfl⟩;rw[HE.out];go_wp2_with fail;exact⟨⟨2,_,aa,rfl,jK,jK,rfl⟩,oF⟩
  ·have Jb:=ad7 a b c d;have hE:eo D dict place c left=g 2:=HG.out 2;obtain⟨gn,F5⟩: ∃x,g 2=x:=⟨_,rfl⟩
   rw[F5]at hE;have HE:=ae hE;have HS:Hid (aG g 3=if(aG g 2).1<gn then(gn,2)else aG g 2):=ae (by rw[←F5];rfl);have⟨u,hu⟩:=ex ((aG g 2).1);have⟨v,hv⟩:=ex ((aG g 2).2);have HU:Hid (aG g 2=(u,v)):=ae (by rw[←hu,←hv]);rw[hu,hv];clear hE F5 hu hv;by_cases aH:u<gn;·have t7:Hid (aG g 3=(gn,2)):=ae C9;have oM:(u:Int)<(gn:Int):=aa;clear aH;go_wp2_with fail;refine(HL.out m W HB.out c).mono ?_;rintro e w2 ⟨rfl,m2,rfl⟩;rw[HE.out];go_wp2_with fail;exact⟨⟨3,_,aa,rfl,jK,by rw[t7.out];rfl,rfl⟩,oF⟩
   ·have t7:Hid (aG g 3=(u,v)):=ae Da;have oM: ¬(u:Int)<(gn:Int):=aa;clear aH;go_wp2_with fail;refine(HL.out m W HB.out c).mono ?_;rintro e w2 ⟨rfl,m2,rfl⟩;rw[HE.out];go_wp2_with fail;exact⟨⟨3,_,aa,rfl,jK,jK,rfl⟩,oF⟩
  ·have Jb:=ad8 a b c d;have hE:eo D dict place d left=g 3:=HG.out 3;obtain⟨gn,F5⟩: ∃x,g 3=x:=⟨_,rfl⟩
   rw[F5]at hE;have HE:=ae hE;have HS:Hid (aG g 4=if(aG g 3).1<gn then(gn,3)else aG g 3):=ae (by rw[←F5];rfl);have⟨u,hu⟩:=ex ((aG g 3).1);have⟨v,hv⟩:=ex ((aG g 3).2);have HU:Hid (aG g 3=(u,v)):=ae (by rw[←hu,←hv]);rw[hu,hv];clear hE F5 hu hv;by_cases aH:u<gn;·have t7:Hid (aG g 4=(gn,3)):=ae C9;have oM:(u:Int)<(gn:Int):=aa;clear aH;go_wp2_with fail;refine(HL.out m W HB.out d).mono ?_;rintro e w2 ⟨rfl,m2,rfl⟩;rw[HE.out];go_wp2_with fail;exact⟨⟨4,_,aa,rfl,jK,by rw[t7.out];rfl,rfl⟩,oF⟩
   ·have t7:Hid (aG g 4=(u,v)):=ae Da;have oM: ¬(u:Int)<(gn:Int):=aa;clear aH;go_wp2_with fail;refine(HL.out m W HB.out d).mono ?_;rintro e w2 ⟨rfl,m2,rfl⟩;rw[HE.out];go_wp2_with fail;exact⟨⟨4,_,aa,rfl,jK,jK,rfl⟩,oF⟩
  ·go_wp2_with fail;go_ret2;exact⟨rfl,below_drewN HB.out _⟩
def iH(D:List UInt8)(dict nice:Int)(p:Nat)(left a b c d:Int):Sy:=
 let rep:=eY D dict (p:Int) left a b c d
 let m:=nY D dict nice (p:Int) left
 if 2≤rep.1∧m.1≤rep.1+1 then⟨2,0,rep.1,0,rep.2⟩
 else if 3≤m.1∨(0<m.1∧m.2≤128)then⟨1,0,m.1,m.2,0⟩
 else if 1≤eo D dict (p:Int) a left then⟨2,0,1,0,0⟩
 else⟨0,D.getD p 0,0,0,0⟩
def yE(s:Sy)(w:World)(e:Ending)(w':World):Prop:=e= .returned s.val∧Below w.heap.size w w'
theorem NB(D:List UInt8)(dict place bM most:Int):eo D dict place bM most≤273:=by
 unfold eo;split
 ·have:=jC D place.toNat (place.toNat-bM.toNat) (Cg D place.toNat (min 273 most));have h:Cg D place.toNat (min 273 most)≤273:=by unfold Cg;omega
  omega
 ·omega
theorem yF{M:Nat}(h: ∀i,g i≤M): ∀n,(aG g n).1≤M∧(aG g n).2≤n
 | 0=>⟨Nat.zero_le _,Nat.zero_le _⟩
 | n+1=>by
  unfold aG;have ih:=yF h n;split;·exact⟨h n,Nat.le_succ _⟩
  ·exact⟨ih.1,aa⟩
theorem yG(D:List UInt8)(dict place left a b c d:Int):(eY D dict place left a b c d).1≤273∧(eY D dict place left a b c d).2≤4:=yF (fun _=>NB _ _ _ _ _) 4
theorem Ga{g:Nat}{v0 v1 v2 v3 v4:Value}(h:Below B w W)(hg:B≤g):Below B w (((((W.setCell ⟨g,0,none⟩ v0).setCell ⟨g,1,none⟩ v1).setCell ⟨g,2,none⟩ v2).setCell ⟨g,3,none⟩ v3).setCell ⟨g,4,none⟩ v4):=
 ((((h.setCell (p:=⟨g,0,none⟩) hg _).setCell (p:=⟨g,1,none⟩) hg _).setCell (p:=⟨g,2,none⟩) hg _).setCell (p:=⟨g,3,none⟩) hg _).setCell (p:=⟨g,4,none⟩) hg _
theorem DX(b1 b2 b3 b4:Nat)(F:Nat)(A DA:Option Addr)(cF cd:Nat)(D:List UInt8)(dict nice:Int)(mp B:Nat)(p tt:Nat)(a b c d:Int)(w:World)
  (hR:pf w F A cF D dict nice mp B) (hD:Bytes w DA D) (BN:D.length≤cd) (h1:aT b1 w (.int .i64 (tt:Nat))) (h2:aT b2 w (PF F)) (h3:w.heap[b3]? =some (.cells [.int .i64 a,.int .i64 b,.int .i64 c,.int .i64 d].toArray 152 (0,0))) (h4:aT b4 w (.slice DA D.length cd))
  (hp:p<tt) (XN:tt≤D.length):
  Calls prog 189 #[.int .i64 (p:Nat),PF b1,PF b2,PF b3,PF b4] w (yE (iH D dict nice p ((tt:Int)-(p:Int)) a b c d) w):=by
 have LZ:=hR.at_.small;have⟨X,hX⟩:=ex ((tt:Int)-(p:Int):Int);rw[hX];have HC:=ae (fun(W:World) (hb:Below w.heap.size w W)=>(show W.cell? ⟨b1,0,none⟩=some (.int .i64 (tt:Nat))∧W.cell? ⟨b2,0,none⟩=some (PF F)∧(W.cell? ⟨b3,0,none⟩=some (.int .i64 a)∧W.cell? ⟨b3,1,none⟩=some (.int .i64 b)∧W.cell? ⟨b3,2,none⟩=some (.int .i64 c)∧W.cell? ⟨b3,3,none⟩=some (.int .i64 d))∧W.cell? ⟨b4,0,none⟩=some (.slice DA D.length cd)from by
  have l3:b3<w.heap.size:=(cr h3)
  have e3:=(hb.block _ l3).trans h3;refine⟨(h1.aA (hb.block _ h1.lt)).cell,(h2.aA (hb.block _ h2.lt)).cell,⟨?_,?_,?_,?_⟩,(h4.aA (hb.block _ h4.lt)).cell⟩<;>(rw[cell_of_row W _ _ _ _ _ e3];rfl)))
 have HRB:=ae (fun(W:World) (hb:Below w.heap.size w W)=>(hR.below hb));have HDB:=ae (fun(W:World) (hb:Below w.heap.size w W)=>(hD.below hb).addr aa);have Sl:(D.length:Int)≤(cd:Int):=aa;have hXw:IntKind.i64.wrap X=X:=IntWalk.i64_in _ aa;have AU:(p:Int)<(D.length:Int):=aa;have qp:(p:Int)≤100000:=aa
 have HS:Hid (∀s,s=iH D dict nice p X a b c d→s=let rep:=eY D dict (p:Int) X a b c d
   let m:=nY D dict nice (p:Int) X
   if 2≤rep.1∧m.1≤rep.1+1 then⟨2,0,rep.1,0,rep.2⟩
   else if 3≤m.1∨(0<m.1∧m.2≤128)then⟨1,0,m.1,m.2,0⟩
   else if 1≤eo D dict (p:Int) a X then⟨2,0,1,0,0⟩
   else⟨0,D.getD p 0,0,0,0⟩):=ae (fun s h=>h)
 have⟨S,hS⟩:=ex (iH D dict nice p X a b c d);rw[hS];have t7:=ae (HS.out S hS.symm);clear HS hS;have Fu:=yG D dict (p:Int) X a b c d;obtain⟨⟨rn,VX⟩,hr⟩: ∃r,eY D dict (p:Int) X a b c d=r:=⟨_,rfl⟩
 obtain⟨⟨mn,mk⟩,hm⟩: ∃r,nY D dict nice (p:Int) X=r:=⟨_,rfl⟩
 obtain⟨bk,lV⟩: ∃r,eo D dict (p:Int) a X=r:=⟨_,rfl⟩
 rw[hr,hm,lV]at t7;rw[hr]at Fu;simp only at t7 Fu;have avg:(rn:Int)≤273:=aa;have HR:=ae hr;have HM:=ae hm;have wS:=ae lV;clear hR hD BN h1 h2 h3 h4 hr hm lV LZ;go_enter func189,ntmps189;go_upto_region 1 with fail;have⟨W1,fv⟩:=ex (w.alloc (.cells #[.int .i64 0,.int .u8 0,.int .i64 0,.int .i64 0,.int .i64 0] 183));rw[fv];have az:Below w.heap.size w W1:=CY;have hz:W1.heap[w.heap.size]? =some (.cells [.int .i64 0,.int .u8 0,.int .i64 0,.int .i64 0,.int .i64 0].toArray 183 (0,0)):=by rw[←fv];exact heap_alloc_last _ _
 have aH:w.heap.size<W1.heap.size:=(cr hz)
 have a7:=ae az;have AG:=ae aH
 have HZ:=ae (fun(W:World) (hb:Below W1.heap.size W1 W)=>(show(W.cell? ⟨w.heap.size,0,none⟩=some (.int .i64 0)∧W.cell? ⟨w.heap.size,1,none⟩=some (.int .u8 0)∧W.cell? ⟨w.heap.size,2,none⟩=some (.int .i64 0)∧W.cell? ⟨w.heap.size,3,none⟩=some (.int .i64 0)∧W.cell? ⟨w.heap.size,4,none⟩=some (.int .i64 0))∧
   (∀i,W.frozen? ⟨w.heap.size,i,none⟩=false)from by
  have e:=(hb.block _ aH).trans hz;refine⟨⟨?_,?_,?_,?_,?_⟩,fun i=>frozen_of_row _ _ _ _ _ e⟩<;>(rw[cell_of_row W _ _ _ _ _ e];rfl)))
 obtain⟨cA,cB,⟨cC0,cC1,cC2,cC3⟩,cD⟩:=HC.out W1 az;clear fv az hz aH;go_wp2_with fail;refine(yD F A cF D dict nice mp _ (p:Int) X a b c d W1 (HRB.out W1 a7.out).at_).mono ?_;rintro e w2 ⟨rfl,aD⟩;rw[HR.out];have dW:=ae (aM a7.out aD);have DY:=ae aD;obtain⟨cA,cB,⟨cC0,cC1,cC2,cC3⟩,cD⟩:=HC.out w2 dW.out;clear aD;go_wp2_with fail;refine(Sv F A cF D dict nice mp B (p:Int) X w2 (HRB.out w2 dW.out)).mono ?_;rintro e w3 ⟨rfl,bA⟩;rw[HM.out];have gF:=ae (aM dW.out bA);have DZ:=ae (aM DY.out bA);obtain⟨cA,cB,⟨cC0,cC1,cC2,cC3⟩,cD⟩:=HC.out w3 gF.out;clear bA;go_upto_region 5 with fail;obtain⟨⟨z0,z1,z2,z3,z4⟩,zf⟩:=HZ.out w3 DZ.out;have f0:=zf 0;have f1:=zf 1;have f2:=zf 2;have f3:=zf 3;have f4:=zf 4;clear zf;by_cases cC:2≤rn∧mn≤rn+1;·have Ht:Hid (S=⟨2,0,rn,0,VX⟩):=ae (by rw[t7.out,if_pos cC]);have g1:decide ((2:Int)≤(rn:Int))=true:=decide_eq_true aa;have g1':(2:Int)≤(rn:Int):=aa;have g2:(mn:Int)≤(rn:Int)+1:=aa;clear cC;go_wp2_with fail;refine bodyPost_ret (v:=S.val) oG rfl ⟨rfl,Ga gF.out (Nat.le_refl _)⟩
 ·by_cases cU:3≤mn∨(0<mn∧mk≤128)
  ·have hs:(2≤rn∧ ¬mn≤rn+1∧3≤mn)∨(¬2≤rn∧3≤mn)∨(¬2≤rn∧ ¬3≤mn∧0<mn∧mk≤128):=(by omega);rcases hs with⟨g1,g2,g3⟩ | ⟨g1,g3⟩ | ⟨g1,g3,g4,g5⟩
   ·have i1:(2:Int)≤(rn:Int):=(by omega);have i2: ¬(mn:Int)≤(rn:Int)+1:=aa;have i3:(3:Int)≤(mn:Int):=aa;have Ht:Hid (S=⟨1,0,mn,mk,0⟩):=ae Iv;clear cC cU;go_wp2_with fail;refine bodyPost_ret (v:=S.val) oG rfl ⟨rfl,Ga gF.out (Nat.le_refl _)⟩
   ·have i1: ¬(2:Int)≤(rn:Int):=(by omega);have i3:(3:Int)≤(mn:Int):=aa;have Ht:Hid (S=⟨1,0,mn,mk,0⟩):=ae Iv;clear cC cU;go_wp2_with fail;refine bodyPost_ret (v:=S.val) oG rfl ⟨rfl,Ga gF.out (Nat.le_refl _)⟩
   ·have i1: ¬(2:Int)≤(rn:Int):=(by omega);have i3: ¬(3:Int)≤(mn:Int):=aa;have i4:(0:Int)<(mn:Int):=aa;have i5:(mk:Int)≤128:=aa;have Ht:Hid (S=⟨1,0,mn,mk,0⟩):=ae Iv;clear cC cU;go_wp2_with fail;refine bodyPost_ret (v:=S.val) oG rfl ⟨rfl,Ga gF.out (Nat.le_refl _)⟩
  ·have hs:(¬2≤rn∧ ¬3≤mn∧ ¬0<mn)∨(¬2≤rn∧ ¬3≤mn∧0<mn∧ ¬mk≤128):=(by omega);rcases hs with⟨g1,g3,g4⟩ | ⟨g1,g3,g4,g5⟩
   ·have i1: ¬(2:Int)≤(rn:Int):=(by omega);have i3: ¬(3:Int)≤(mn:Int):=aa;have i4: ¬(0:Int)<(mn:Int):=aa;go_wp2_with fail;refine(ym F A cF D dict nice mp _ (p:Int) a X w3 (HRB.out w3 gF.out).at_).mono ?_;rintro e w4 ⟨rfl,m4,rfl⟩;rw[wS.out];by_cases hk:1≤bk;·have Ht:Hid (S=⟨2,0,1,0,0⟩):=ae (by rw[t7.out,if_neg cC,if_neg cU,if_pos hk]);have g5:(1:Int)≤(bk:Int):=aa;clear hk cC cU;go_wp2_with fail;refine bodyPost_ret (v:=S.val) oG rfl ⟨rfl,Ga (below_drewN gF.out _) (Nat.le_refl _)⟩
    ·have Ht:Hid (S=⟨0,D.getD p 0,0,0,0⟩):=ae (by rw[t7.out,if_neg cC,if_neg cU,if_neg hk]);have g5: ¬(1:Int)≤(bk:Int):=aa;obtain⟨g,off,rfl,_,dm⟩:=HDB.out w3 gF.out;have cp:=dm p aa;have e1:=dj (d:=D) (i:=p) aa;rw[←e1]at cp;generalize D.getD p 0=u at*;clear hk cC cU dm e1;go_wp2_with fail;refine bodyPost_ret (v:=S.val) oG rfl ⟨rfl,Ga (below_drewN gF.out _) (Nat.le_refl _)⟩
   ·have i1: ¬(2:Int)≤(rn:Int):=(by omega);have i3: ¬(3:Int)≤(mn:Int):=aa;have i4:(0:Int)<(mn:Int):=aa;have i5: ¬(mk:Int)≤128:=aa;go_wp2_with fail;refine(ym F A cF D dict nice mp _ (p:Int) a X w3 (HRB.out w3 gF.out).at_).mono ?_;rintro e w4 ⟨rfl,m4,rfl⟩;rw[wS.out];by_cases hk:1≤bk;·have Ht:Hid (S=⟨2,0,1,0,0⟩):=ae (by rw[t7.out,if_neg cC,if_neg cU,if_pos hk]);have g5:(1:Int)≤(bk:Int):=aa;clear hk cC cU;go_wp2_with fail;refine bodyPost_ret (v:=S.val) oG rfl ⟨rfl,Ga (below_drewN gF.out _) (Nat.le_refl _)⟩
    ·have Ht:Hid (S=⟨0,D.getD p 0,0,0,0⟩):=ae (by rw[t7.out,if_neg cC,if_neg cU,if_neg hk]);have g5: ¬(1:Int)≤(bk:Int):=aa;obtain⟨g,off,rfl,_,dm⟩:=HDB.out w3 gF.out;have cp:=dm p aa;have e1:=dj (d:=D) (i:=p) aa;rw[←e1]at cp;generalize D.getD p 0=u at*;clear hk cC cU dm e1;go_wp2_with fail;refine bodyPost_ret (v:=S.val) oG rfl ⟨rfl,Ga (below_drewN gF.out _) (Nat.le_refl _)⟩
theorem NC(s:Sy)(hk:s.k≤2)(hr:s.r≤3)(r:R4)(w:World):Calls prog 193 #[r.val,s.val] w (jh (ek s r).1 (ek s r).2.1 (ek s r).2.2.1 (ek s r).2.2.2 w):=by
 obtain⟨k,b,l,d,q⟩:=s;obtain⟨r0,r1,r2,r3⟩:=r;simp only at hk hr;rcases(by omega:k=0∨k=1∨k=2)with rfl | rfl | rfl;·exact NA r0 r1 r2 r3 b _ _ _ w
 ·exact F8 r0 r1 r2 r3 b _ _ _ w
 ·rcases(by omega:q=0∨q=1∨q=2∨q=3)with rfl | rfl | rfl | rfl;·exact JA r0 r1 r2 r3 b _ _ w
  ·exact JB r0 r1 r2 r3 b _ _ w
  ·exact JC r0 r1 r2 r3 b _ _ w
  ·exact JD r0 r1 r2 r3 b _ _ w
theorem rD{g:Nat→Nat}: ∀n,0<n→(aG g n).2<n
 | n+1,_=>by
  unfold aG;split;·exact Nat.lt_succ_self _
  ·rcases Nat.eq_zero_or_pos n with rfl | h;·exact Nat.lt_succ_self _
   ·have:=rD (g:=g) n h;omega
theorem ND(D:List UInt8)(dict nice:Int)(p:Nat)(left a b c d:Int):(iH D dict nice p left a b c d).k≤2∧(iH D dict nice p left a b c d).r≤3:=by
 have h:(eY D dict (p:Int) left a b c d).2<4:=rD 4 ak;unfold iH;simp only;split;·exact⟨Nat.le_refl 2,by show(eY D dict (p:Int) left a b c d).2≤3;omega⟩
 ·split;·exact⟨(by decide:1≤2),Nat.zero_le 3⟩
  ·split;·exact⟨Nat.le_refl 2,Nat.zero_le 3⟩
   ·exact⟨Nat.zero_le 2,Nat.zero_le 3⟩
theorem Sw(D:List UInt8)(dict nice place most:Int):(nY D dict nice place most).1≤D.length:=by
 unfold nY;split
 ·rename_i h;unfold yj;split;·exact Nat.zero_le _
  ·rcases(kA (fun k=>bu D place.toNat (place.toNat-k) (Cg D place.toNat (min nice most))) (min (place.toNat:Int) dict).toNat).at_ with⟨e,_⟩ | ⟨_,_,e,_⟩
   ·rw[e];exact Nat.zero_le _
   ·rw[←e];have h1:=jC D place.toNat (place.toNat-(dN (fun k=>bu D place.toNat (place.toNat-k) (Cg D place.toNat (min nice most))) (min (place.toNat:Int) dict).toNat).2) (Cg D place.toNat (min nice most));have h2:Cg D place.toNat (min nice most)≤D.length:=(by unfold Cg;omega);exact Nat.le_trans h1 h2
 ·exact Nat.zero_le _
theorem NE(D:List UInt8)(dict nice:Int)(p:Nat)(left a b c d:Int):(iH D dict nice p left a b c d).l≤273+D.length:=by
 have h1:=(yG D dict (p:Int) left a b c d).1;have h2:=Sw D dict nice (p:Int) left;unfold iH;simp only;split;·show(eY D dict (p:Int) left a b c d).1≤_;omega
 ·split;·show(nY D dict nice (p:Int) left).1≤_;omega
  ·split;·show 1≤_;omega
   ·exact Nat.zero_le _
def im(D:List UInt8)(dict nice:Int)(tt p:Nat)(r:R4):Sy:=iH D dict nice p ((tt:Int)-(p:Int)) r.1 r.2.1 r.2.2.1 r.2.2.2
def aV(D:List UInt8)(dict nice:Int)(tt:Nat):Nat→Nat→R4→List Sy×R4
 | 0,_,r=>([],r)
 | f+1,p,r=>if p<tt then
   (im D dict nice tt p r::(aV D dict nice tt f (p+max (im D dict nice tt p r).l 1) (ek (im D dict nice tt p r) r)).1,(aV D dict nice tt f (p+max (im D dict nice tt p r).l 1) (ek (im D dict nice tt p r) r)).2)
  else([],r)
theorem vH(D:List UInt8)(dict nice:Int)(tt:Nat): ∀(f g p:Nat) (r:R4),tt-p≤f→tt-p≤g→aV D dict nice tt f p r=aV D dict nice tt g p r
 | 0,0,p,r,_,_=>rfl
 | 0,g+1,p,r,h,_=>by unfold aV;rw[if_neg aa]
 | f+1,0,p,r,_,h=>by unfold aV;rw[if_neg aa]
 | f+1,g+1,p,r,h1,h2=>by
  unfold aV;by_cases hp:p<tt;·rw[if_pos hp,if_pos hp,vH D dict nice tt f g _ _ aa aa]
  ·rw[if_neg hp,if_neg hp]
theorem pg(hp:p<tt):aV D dict nice tt (tt-p) p r=
  (im D dict nice tt p r::(aV D dict nice tt (tt-(p+max (im D dict nice tt p r).l 1)) (p+max (im D dict nice tt p r).l 1) (ek (im D dict nice tt p r) r)).1,(aV D dict nice tt (tt-(p+max (im D dict nice tt p r).l 1)) (p+max (im D dict nice tt p r).l 1) (ek (im D dict nice tt p r) r)).2):=by
 obtain⟨f,hf⟩: ∃f,tt-p=f+1:=⟨tt-p-1,aa⟩
 rw[hf];conv=>lhs;unfold aV
 rw[if_pos hp,vH D dict nice tt f (tt-(p+max (im D dict nice tt p r).l 1)) _ _ aa aa]
theorem yH(hp: ¬p<tt):aV D dict nice tt (tt-p) p r=([],r):=by rw[show tt-p=0 by omega];rfl
structure Cut(D:List UInt8)(p l k:Nat):Prop where
 one:1≤k
 back:k≤p
 fits:p+l≤D.length
 same: ∀i,i<l→D.getD (p+i) 0=D.getD (p+i-k) 0
theorem yI{L:Nat}(h1:1≤k)(h2:k≤p)(hL:p+L≤D.length)(h:bu D p (p-k) L=l):Cut D p l k:=by have hl:=d9 D L p (p-k);rw[h]at hl;exact⟨h1,h2,am hl.le,fun i hi=>by rw[hl.eq i hi];congr 1;omega⟩
theorem ph{bM:Int}(h:eo D dict (p:Int) bM most=l)(hl:0<l): ∃k:Nat,bM=(k:Int)∧Cut D p l k∧(k:Int)≤dict∧l≤273∧(l:Int)≤most:=by
 unfold eo at h;split at h
 ·rename_i hc;obtain⟨k,rfl⟩: ∃k:Nat,bM=(k:Int):=⟨bM.toNat,aa⟩
  simp only[Int.toNat_natCast]at h;have amw:Cg D p (min 273 most)=(min (min 273 most) ((D.length:Int)-(p:Int))).toNat:=rfl;have hle:=jC D p (p-k) (Cg D p (min 273 most));exact⟨k,rfl,yI aa aa aa h,hc.2.2.2.2,aa,aa⟩
 ·omega
theorem vI{n:Nat}(h:nY D dict nice (p:Int) most=(n,k))(hn:0<n):2≤n∧(n:Int)≤nice∧Cut D p n k∧(k:Int)≤dict∧(n:Int)≤most:=by
 unfold nY at h;split at h
 ·rename_i hc;rw[Int.toNat_natCast]at h;unfold yj at h;have hB:=kA (fun k=>bu D p (p-k) (Cg D p (min nice most))) (min (p:Int) dict).toNat;split at h;·injection h with h _;omega
  ·rename_i h2;rw[h]at hB h2;rcases hB.at_ with⟨e,_⟩ | ⟨h1,h3,h4,h5⟩
   ·simp only at e;omega
   ·simp only at h1 h3 h4 h5 h2;have amw:Cg D p (min nice most)=(min (min nice most) ((D.length:Int)-(p:Int))).toNat:=rfl;have hle:=jC D p (p-k) (Cg D p (min nice most));exact⟨aa,aa,yI h1 aa aa h4,aa,aa⟩
 ·injection h with h _;omega
theorem rE: ∀n,(aG g n).1=0∨g (aG g n).2=(aG g n).1
 | 0=> .inl rfl
 | n+1=>by
  unfold aG;split;·exact .inr rfl
  ·exact rE n
theorem lJ{D:List UInt8}{p k:Nat}: ∀(l:Nat),Cut D p l k→fA (D.take p) k l=D.take (p+l)
 | 0,_=>rfl
 | l+1,h=>by
  have ih:=lJ (D:=D) (p:=p) (k:=k) l ⟨h.one,h.back,am h.fits,fun i hi=>h.same i aa⟩;have hf:=h.fits;have h1:=h.one;have hb:=h.back;unfold fA;rw[ih];have e:(D.take (p+l)).length=p+l:=mV;rw[e];have e2:(D.take (p+l)).getD (p+l-k) 0=D.getD (p+l) 0:=by rw[h.same l aa];simp only[List.getD_eq_getElem?_getD];rw[List.getElem?_take_of_lt aa]
  rw[e2,←Nat.add_assoc,List.take_add_one,dj aa,List.getElem?_eq_getElem aa];rfl
structure abf(D:List UInt8)(dict:Int)(p:Nat)(r:R4)(s:Sy):Prop where
 k:s.k≤2
 q:s.r≤3
 fits:iW r (p:Int) (s.k:Nat) (s.l:Nat) (s.d:Nat) (s.r:Nat)=true
 amx:iF r (s.k:Nat) (s.d:Nat) (s.r:Nat)≤dict
 plain:RU (s.k:Nat) s.b (s.l:Nat) (s.d:Nat) (s.r:Nat)=s.val
 back: ∃n:Nat,iF r (s.k:Nat) (s.d:Nat) (s.r:Nat)=(n:Int)∧(((s.k:Nat):Int)≠0→1≤n∧n≤p)∧jV (D.take p) (s.k:Nat) s.b s.l n=D.take (p+max s.l 1)
 Sx:p+max s.l 1≤D.length
 short:s.l≤273
theorem nZ(s:Sy)(hk:s.k≤2)(r:R4):ik r (s.k:Nat) (s.d:Nat) (s.r:Nat)=ek s r:=by
 obtain⟨k,b,l,d,q⟩:=s;simp only at hk;rcases(by omega:k=0∨k=1∨k=2)with rfl | rfl | rfl;·rfl
 ·rfl
 ·unfold ik ek;rw[if_neg (show ¬((2:Nat):Int)=0 by decide),if_neg (show ¬((2:Nat):Int)=1 by decide),if_neg (show ¬2=0 by decide),if_neg (show ¬2=1 by decide)];simp only;match q with
  | 0=>rfl
  | 1=>rfl
  | 2=>rfl
  | q+3=>
   rw[if_neg aa,if_neg aa,if_neg aa];rfl
theorem afN(r:R4)(q:Nat):LJ r (q:Int)=r4 r.1 r.2.1 r.2.2.1 r.2.2.2 q:=by unfold LJ;rw[Int.toNat_natCast]
end Go.Proofs.YtfcaoggfnkhfiaaGreatDoor
