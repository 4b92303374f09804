import Derived.Test.YtgfpocdiojifoaaGreatDoorZ06
import Derived.Shelf.Small.Bits
import Derived.Shelf.Bytes.SlSearch0
import Derived.Ground.SlbNamesProg
import Derived.Shelf.Bytes.SlJoin
import Derived.Shelf.Bytes.SlEqualAll
import Derived.Shelf.Bytes.Small
import Derived.Lib.MinMax
namespace Go.Proofs.YtgfpocdiojifoaaGreatDoor
set_option maxRecDepth 100000
set_option maxHeartbeats 8000000
open Go.RowKit
namespace Md
def len(io:Io)(A p:Nat)(l:Int)(x:io.S):Nat×io.S:=
 let y:=io.au A (decide (8≤l-2)) x
 if y.1=false then(2+(tree io (A+2+8*p) 3 (l-2) y.2).1,(tree io (A+2+8*p) 3 (l-2) y.2).2)
 else
  let z:=io.au (A+1) (decide (16≤l-2)) y.2
  if z.1=false then(10+(tree io (A+130+8*p) 3 (l-2-8) z.2).1,(tree io (A+130+8*p) 3 (l-2-8) z.2).2)
  else(18+(tree io (A+258) 8 (l-2-16) z.2).1,(tree io (A+258) 8 (l-2-16) z.2).2)
end Md
def Ig(Q:Prop)(D:Ending→World→Prop)(e:Ending)(w':World):Prop:=D e w'∧Q
theorem NG(io:Io){C L lc lp pb st:Nat}{r:R4}{x:io.S}{X:List Nat}{w:World}(hM:MS io w C L lc lp pb st r x X){A p k:Nat}{l:Int}{R:Nat}{Z:io.S}(hR:Md.len io A p l x=(R,Z))(hok:io.ok x.2 (k+10))(hA:A=432∨A=946)(hp:p<16)(hl0:0≤l)(hl1:l≤300):
  Calls Tryz.prog 224 #[.pointer (some ⟨C,9+A,none⟩),io.v,.int .i64 (p:Nat),.int .i64 l] w (Ig (2≤R∧R≤273∧io.ok Z.2 k) (lN (.int .i64 (R:Nat)) io C L lc lp pb st r Z X w)):=by
 have hpi:(p:Int)<16:=by omega
 have HA:Hid (A=432∨A=946):=Lib.hid hA
 unfold Md.len at hR
 obtain⟨⟨B,y⟩,hy⟩: ∃z,io.au A (decide (8≤l-2)) x=z:=⟨_,rfl⟩
 obtain⟨h1,ok1⟩:=qp io hM hy (at_:=A) (j:=0) (len:=2) (cp:=2) (b:=C) (off:=9+A) rfl (k:=k+9) hok (Md.uG rfl (by omega) (by omega)) (by omega) (by omega) (by omega)
 rw[hy]at hR
 simp only at hR
 have H1:=Lib.hid h1
 have rW:=Lib.hid ok1
 have HR:=Lib.hid hR
 clear hA hok hy hR h1 ok1
 go_enter Tryz.func224,Tryz.ntmps224
 go_wp2_with fail
 refine H1.out.mono ?_
 rintro e w1 ⟨rfl,X1,hM1,kG,hX1⟩
 have uT:=Lib.hid hM1
 have HO1:=Lib.hid (And.intro kG hX1)
 clear hM1 kG hX1 H1
 cases B with
 | false=>
  have hb:dK false=0:=rfl
  rw[hb]
  have hR:=HR.out
  simp only[if_true]at hR
  obtain⟨⟨tv,z⟩,hz⟩: ∃q,Md.tree io (A+2+8*p) 3 (l-2) y=q:=⟨_,rfl⟩
  obtain⟨h2,htv,ok2⟩:=Bc io uT.out hz (len:=8) (cp:=8) (b:=C) (off:=9+A+2+p*8) (k:=k) (io.le rW.out (by omega)) (Md.uG (by omega) (by have:=HA.out;omega) (by have:=HA.out;omega)) (by omega) (by omega) (by omega) (by omega)
  rw[hz]at hR
  injection hR with hR1 hR2
  have rH:=Lib.hid (And.intro hR1.symm hR2.symm)
  clear hR1 hR2
  have H2:=Lib.hid h2
  have ahd:(tv:Int)<8:=by omega
  have mZ:=Lib.hid ok2
  clear hz hb h2 ok2
  go_wp2_with fail
  refine H2.out.mono ?_
  rintro e w2 ⟨rfl,hw2⟩
  go_wp2_with fail
  go_ret
  obtain⟨e1,e2⟩:=rH.out
  subst e1 e2
  exact⟨⟨by go_num,jd.trans HO1.out.1 HO1.out.2 hw2⟩,by omega,by omega,mZ.out⟩
 | true=>
  have hb:dK true=1:=rfl
  rw[hb]
  have hR:=HR.out
  simp only[Bool.true_eq_false,if_false]at hR
  obtain⟨⟨B,y2⟩,hy⟩: ∃q,io.au (A+1) (decide (16≤l-2)) y=q:=⟨_,rfl⟩
  obtain⟨h1,ok1⟩:=qp io uT.out hy (at_:=A) (j:=1) (len:=2) (cp:=2) (b:=C) (off:=9+A) rfl (k:=k+8) rW.out (Md.uG rfl (by have:=HA.out;omega) (by have:=HA.out;omega)) (by omega) (by omega) (by omega)
  rw[hy]at hR
  simp only at hR
  have H1:=Lib.hid h1
  have adb:=Lib.hid ok1
  have HRb:=Lib.hid hR
  clear hy hR h1 ok1 hb
  go_wp2_with fail
  refine H1.out.mono ?_
  rintro e w2 ⟨rfl,hw2⟩
  obtain⟨X2,hM2,iQ,hX2⟩:=jd.trans HO1.out.1 HO1.out.2 hw2
  have EX:=Lib.hid hM2
  have RY:=Lib.hid (And.intro iQ hX2)
  clear hM2 iQ hX2 H1 hw2
  cases B with
  | false=>
   have hb:dK false=0:=rfl
   rw[hb]
   have hR:=HRb.out
   simp only[if_true]at hR
   obtain⟨⟨tv,z⟩,hz⟩: ∃q,Md.tree io (A+130+8*p) 3 (l-2-8) y2=q:=⟨_,rfl⟩
   obtain⟨h2,htv,ok2⟩:=Bc io EX.out hz (len:=8) (cp:=8) (b:=C) (off:=9+A+130+p*8) (k:=k) (io.le adb.out (by omega)) (Md.uG (by omega) (by have:=HA.out;omega) (by have:=HA.out;omega)) (by omega) (by omega) (by omega) (by omega)
   rw[hz]at hR
   injection hR with hR1 hR2
   have rH:=Lib.hid (And.intro hR1.symm hR2.symm)
   clear hR1 hR2
   have H2:=Lib.hid h2
   have ahd:(tv:Int)<8:=by omega
   have mZ:=Lib.hid ok2
   clear hz hb h2 ok2
   go_wp2_with fail
   refine H2.out.mono ?_
   rintro e w3 ⟨rfl,hw3⟩
   go_wp2_with fail
   go_ret
   obtain⟨e1,e2⟩:=rH.out
   subst e1 e2
   exact⟨⟨by go_num,jd.trans RY.out.1 RY.out.2 hw3⟩,by omega,by omega,mZ.out⟩
  | true=>
   have hb:dK true=1:=rfl
   rw[hb]
   have hR:=HRb.out
   simp only[Bool.true_eq_false,if_false]at hR
   obtain⟨⟨tv,z⟩,hz⟩: ∃q,Md.tree io (A+258) 8 (l-2-16) y2=q:=⟨_,rfl⟩
   obtain⟨h2,htv,ok2⟩:=Bc io EX.out hz (len:=256) (cp:=256) (b:=C) (off:=9+A+258) (k:=k) (io.le adb.out (by omega)) (Md.uG (by omega) (by have:=HA.out;omega) (by have:=HA.out;omega)) (by omega) (by omega) (by omega) (by omega)
   rw[hz]at hR
   injection hR with hR1 hR2
   have rH:=Lib.hid (And.intro hR1.symm hR2.symm)
   clear hR1 hR2
   have H2:=Lib.hid h2
   have ahd:(tv:Int)<256:=by omega
   have mZ:=Lib.hid ok2
   clear hz hb h2 ok2
   go_wp2_with fail
   refine H2.out.mono ?_
   rintro e w3 ⟨rfl,hw3⟩
   go_wp2_with fail
   go_ret
   obtain⟨e1,e2⟩:=rH.out
   subst e1 e2
   exact⟨⟨by go_num,jd.trans RY.out.1 RY.out.2 hw3⟩,by omega,by omega,mZ.out⟩
section
open Go.Shelf
def xg:Go.Shelf.Ren:=⟨fun | 128=>238 | n=>n,fun | 51=>24 | 3=>3 | 4=>4 | 46=>123 | 5=>5 | 9=>9 | n=>n,fun | n=>n⟩
theorem Fq:Go.Proofs.Lays.n128 Tryz.prog xg:={
 mixed:=by kernel_rfl
 f128:=Tryz.func238.trans (congrArg some (by kernel_rfl))
 t3:=Tryz.underlying3
 a3:=Tryz.isAgg3
 z3:=Tryz.sizeOf3
 v3:=Tryz.zeroValue3
 t4:=Tryz.underlying4
 a4:=Tryz.isAgg4
 z4:=Tryz.sizeOf4
 v4:=Tryz.zeroValue4
 t5:=Tryz.underlying5
 a5:=Tryz.isAgg5
 z5:=Tryz.sizeOf5
 v5:=Tryz.zeroValue5
 t9:=Tryz.underlying9
 a9:=Tryz.isAgg9
 z9:=Tryz.sizeOf9
 v9:=Tryz.zeroValue9
 t46:=Tryz.underlying123
 a46:=Tryz.isAgg123
 z46:=Tryz.sizeOf123
 v46:=Tryz.zeroValue123
 t51:=Tryz.underlying24
 a51:=Tryz.isAgg24
 z51:=Tryz.sizeOf24
 v51:=Tryz.zeroValue24}
theorem yT(x:Int)(w:World)(h0:0≤x)(h1:x≤4294967295):
  Calls Tryz.prog 238 #[.int .u32 x] w fun e w'=>e= .returned (.int .i64 (Lib.bitLen x.toNat))∧w'=w:=Any.bits_Len32 Fq x w h0 h1
def xk:Go.Shelf.Ren:=⟨fun | 115=>36 | n=>n,fun | 37=>22 | 4=>4 | 9=>9 | 5=>5 | n=>n,fun | n=>n⟩
theorem Fv:Go.Proofs.Lays.n115 Tryz.prog xk:={
 mixed:=by kernel_rfl
 f115:=Tryz.func36.trans (congrArg some (by kernel_rfl))
 t4:=Tryz.underlying4
 a4:=Tryz.isAgg4
 z4:=Tryz.sizeOf4
 v4:=Tryz.zeroValue4
 t9:=Tryz.underlying9
 a9:=Tryz.isAgg9
 z9:=Tryz.sizeOf9
 v9:=Tryz.zeroValue9
 t37:=Tryz.underlying22
 a37:=Tryz.isAgg22
 z37:=Tryz.sizeOf22
 v37:=Tryz.zeroValue22}
open Go.Proofs Go.RowKit Go.Lib in
theorem qw(v1 v2:Value)(t1 t2:ByteArray)(w:World)(h1:(convert 22 9 v1).run Tryz.prog w= .ok (.string t1) w)(h2:(convert 22 9 v2).run Tryz.prog w= .ok (.string t2) w):
  Calls Tryz.prog 36 #[v1,v2] w fun e w'=>e= .returned (.bool (t1.toList==t2.toList))∧w'=w:=Any.bytes_Equal_strs Fv v1 v2 t1 t2 w h1 h2
def uU:Go.Shelf.Ren:=⟨fun | 14=>19 | 15=>48 | n=>n,fun | 26=>55 | 22=>22 | 3=>3 | 4=>4 | 0=>0 | 9=>9 | 20=>20 | 5=>5 | n=>n,fun | n=>n⟩
theorem Aw:Go.Proofs.SlLaysJ.n14 Tryz.prog uU:={
 mixed:=by kernel_rfl
 f14:=Tryz.func19.trans (congrArg some (by kernel_rfl))
 f15:=Tryz.func48.trans (congrArg some (by kernel_rfl))
 t0:=Tryz.underlying0
 a0:=Tryz.isAgg0
 z0:=Tryz.sizeOf0
 v0:=Tryz.zeroValue0
 t3:=Tryz.underlying3
 a3:=Tryz.isAgg3
 z3:=Tryz.sizeOf3
 v3:=Tryz.zeroValue3
 t4:=Tryz.underlying4
 a4:=Tryz.isAgg4
 z4:=Tryz.sizeOf4
 v4:=Tryz.zeroValue4
 t9:=Tryz.underlying9
 a9:=Tryz.isAgg9
 z9:=Tryz.sizeOf9
 v9:=Tryz.zeroValue9
 t20:=Tryz.underlying20
 a20:=Tryz.isAgg20
 z20:=Tryz.sizeOf20
 v20:=Tryz.zeroValue20
 t22:=Tryz.underlying22
 a22:=Tryz.isAgg22
 z22:=Tryz.sizeOf22
 v22:=Tryz.zeroValue22
 t26:=Tryz.underlying55
 a26:=Tryz.isAgg55
 z26:=Tryz.sizeOf55
 v26:=Tryz.zeroValue55
 t5:=Tryz.underlying5
 z5:=Tryz.sizeOf5
 i5:=by kernel_rfl}
open Go.RowKit Go.Lib in
theorem rJ(b o n c:Nat)(vs:List Value)(ls:List (List UInt8))(sv:Value)(sep:List UInt8)(w:World)(hn:ls.length=n)(h2:2≤n)(hP:Lib.PartsAt w ⟨b,o,none⟩ vs ls)(hcap:n≤c)(hS:Lib.HoldsBytes w sv sep)(hn47:n≤140737488355328)(hlen:Lib.lens ls+sep.length*(n-1)≤140737488355328):
  Calls Tryz.prog 19 #[.slice (some ⟨b,o,none⟩) n c,sv] w fun e w'=> ∃v',e= .returned v'∧Lib.FreshBytes w.heap.size w' v' (Lib.join ls sep)∧Below w.heap.size w w':=Any.bytes_Join_many Aw b o n c vs ls sv sep w hn h2 hP hcap hS hn47 hlen
end
def jq(d:Nat):Nat:=if d<4 then d else 2*Lib.bitLen d-2+d/2^(Lib.bitLen d-2)%2
theorem xq{d:Nat}(h4:4≤d)(h:d<4294967296):3≤Lib.bitLen d∧Lib.bitLen d≤32:=by
 rw[Lib.bitLen_shift 2 d h4 (by omega)]
 have h5:d/2^2≠0:=by omega
 rw[Lib.bitLen_half (d/2^2) h5 (by omega)]
 have h6:d/2^2/2<2^29:=by omega
 have h7: ∀(f x:Nat),x<2^f→Lib.bitLenAux 64 x≤f∨64<f:=fun f x hx=>by
  by_cases hf:f≤64
  ·left
   rw[Lib.bitLenAux_fuel f x hx 64 hf]
   clear hx hf
   induction f generalizing x with
   | zero=>exact Nat.le_refl _
   | succ f ih=>
    unfold Lib.bitLenAux
    split
    ·omega
    ·have:=ih (x/2);omega
  ·right;omega
 have h8:=h7 29 _ h6
 unfold Lib.bitLen
 omega
theorem JZ{d:Nat}(h:d<4294967296):jq d<64:=by
 unfold jq
 split
 ·omega
 ·have:=xq (d:=d) (by omega) h
  omega
theorem J3(x:Nat)(hx:x<4294967296):bits .and .u32 (x:Int) 1=((x%2:Nat):Int):=by
 rw[show(1:Int)=((1:Nat):Int)from rfl,u32_and_nat _ _ (by omega) (by omega),nat_mask1]
theorem Wj(d:Nat)(hd:d<4294967296)(w:World):Calls Tryz.prog 235 #[.int .u32 (d:Nat)] w fun e w'=>e= .returned (.int .i64 (jq d:Nat))∧w=w':=by
 by_cases h4:d<4
 ·have h4i:(d:Int)<4:=by omega
  have HS:Hid (jq d=d):=Lib.hid (by unfold jq;rw[if_pos h4])
  rw[HS.out]
  go_enter Tryz.func235,Tryz.ntmps235
  go_wp2_with fail
  go_ret
  exact⟨rfl,rfl⟩
 ·have h4i: ¬(d:Int)<4:=by omega
  obtain⟨n1,n2⟩:=xq (d:=d) (by omega) hd
  have HL:=Lib.hid (yT (d:Nat) w (by omega) (by omega))
  obtain⟨S,hS⟩: ∃S,jq d=S:=⟨_,rfl⟩
  rw[hS]
  unfold jq at hS
  rw[if_neg h4]at hS
  rw[Int.toNat_natCast]at HL
  generalize Lib.bitLen d=n at*
  have hn1:(3:Int)≤(n:Int):=by omega
  have hn2:(n:Int)≤32:=by omega
  have HS:=Lib.hid hS
  clear hS
  go_enter Tryz.func235,Tryz.ntmps235
  go_wp2_with fail
  refine HL.out.mono ?_
  rintro e w1 ⟨rfl,rfl⟩
  go_wp2_with fail
  go_ret
  refine⟨congrArg (fun n:Int=>Ending.returned (Value.int .i64 n)) ?_,rfl⟩
  rw[←HS.out]
  have e:(d:Int)/2^(n-2)=((d/2^(n-2):Nat):Int):=by simp
  have hle:d/2^(n-2)≤d:=Nat.div_le_self _ _
  rw[e,J3 _ (by omega)]
  unfold wrap64
  omega
namespace Md
def dist(io:Io)(l:Nat)(dd:Int)(x:io.S):Nat×io.S:=
 let d:Nat:=((dd-1)%4294967296).toNat
 let y:=tree io (1460+64*min (l-2) 3) 6 (jq d:Nat) x
 if y.1<4 then(y.1+1,y.2)
 else if y.1<14 then
  let z:=rev io (1716+32*y.1) (y.1/2-1) (d:Nat) y.2
  ((2+y.1%2)*2^(y.1/2-1)+z.1+1,z.2)
 else
  let q:=io.plain y.2.2 (d/16%2^(y.1/2-1-4)) (y.1/2-1-4)
  let z:=rev io 2164 4 (d:Nat) (y.2.1,q.2)
  ((2+y.1%2)*2^(y.1/2-1)+q.1%2^(y.1/2-1-4)*16+z.1+1,z.2)
end Md
theorem aa1(io:Io){C L lc lp pb st:Nat}{r:R4}{x:io.S}{X:List Nat}{w:World}(hM:MS io w C L lc lp pb st r x X){l k:Nat}{dd:Int}{R:Nat}{Z:io.S}(hR:Md.dist io l dd x=(R,Z))(hok:io.ok x.2 (k+42))(hl:2≤l)(hl1:l≤300)(hd0:0≤dd)(hd1:dd≤4294967295):
  Calls Tryz.prog 225 #[.pointer (some ⟨C,1469,none⟩),io.v,.int .i64 (l:Nat),.int .i64 dd] w (Ig (1≤R∧R≤4294967296∧io.ok Z.2 k) (lN (.int .i64 (R:Nat)) io C L lc lp pb st r Z X w)):=by
 obtain⟨D,hD'⟩: ∃D:Nat,((dd-1)%4294967296).toNat=D:=⟨_,rfl⟩
 have hD:D<4294967296:=by omega
 have hDi:IntKind.u32.wrap (dd-1)=(D:Int):=by rw[IntKind.wrap_u32];omega
 unfold Md.dist at hR
 rw[hD']at hR
 have Nj:min (IntKind.i64.wrap ((l:Int)-2)) 3=((min (l-2) 3:Nat):Int):=by rw[IntKind.wrap_i64];omega
 obtain⟨K,hK⟩: ∃K,min (l-2) 3=K:=⟨_,rfl⟩
 have hK3:K≤3:=by omega
 rw[hK]at hR Nj
 obtain⟨⟨slot,y⟩,hy⟩: ∃q,Md.tree io (1460+64*K) 6 (jq D:Nat) x=q:=⟨_,rfl⟩
 obtain⟨h1,hsl,ok1⟩:=Bc io (hM.drewN 1) hy (len:=64) (cp:=64) (b:=C) (off:=1469+K*64) (k:=k+36) (io.le hok (by omega)) (Md.uG (by omega) (by omega) (by omega)) (by omega) (by omega) (by omega) (by omega)
 simp only[hy]at hR
 have HT:=Lib.hid h1
 have HR:=Lib.hid hR
 have Nh:=Lib.hid ok1
 have aqI:(slot:Int)<64:=by omega
 have hKi:(K:Int)<4:=by omega
 clear hR h1 ok1 hy hok
 have hdr:True:=trivial
 go_enter Tryz.func225,Tryz.ntmps225
 go_upto_region 2 with fail
 refine wp_region_held_drew (S:=fun _=>True) (by kernel_rfl) hdr (fun hS=> ?_)
 refine tq 0 hS ?_
 refine tq 1 hS ?_
 refine tq 2 hS ?_
 refine tq 3 hS ?_
 refine tq 4 hS ?_
 refine tq 5 hS ?_
 refine tq 6 hS ?_
 refine tq 7 hS ?_
 refine tq 8 hS ?_
 refine tq 9 hS ?_
 refine tr 10 (fun K hK=> ?_)
 go_simp
 refine(Wj D hD _).mono ?_
 rintro e x4 ⟨rfl,rfl⟩
 go_wp2_with fail
 refine hK.out _ _ hdr (fun _=> ?_)
 clear hK K
 refine tr 11 (fun K hK=> ?_)
 go_simp
 refine HT.out.mono ?_
 rintro e x5 ⟨rfl,X1,hM1,kG,hX1⟩
 have g5:=Lib.hid (And.intro kG hX1)
 clear kG hX1
 go_wp2_with fail
 refine hK.out _ _ trivial (fun _=> ?_)
 clear hK K
 refine tq 12 trivial ?_
 refine wpAnyH_done (by kernel_rfl) ?_ _
 have uT:=Lib.hid hM1
 clear hS hdr hM1 HT
 have hR:=HR.out
 by_cases h4:slot<4
 ·have h4i:(slot:Int)<4:=by omega
  rw[if_pos h4]at hR
  injection hR with hR1 hR2
  have rH:=Lib.hid (And.intro hR1.symm hR2.symm)
  clear hR1 hR2 h4
  go_wp2_with fail
  go_ret
  obtain⟨e1,e2⟩:=rH.out
  subst e1 e2
  exact⟨⟨by go_num,X1,uT.out,Only.nY g5.out.1,g5.out.2⟩,by omega,by omega,io.le Nh.out (by omega)⟩
 ·have h4i: ¬(slot:Int)<4:=by omega
  rw[if_neg h4]at hR
  obtain⟨n,hn⟩: ∃n,slot/2-1=n:=⟨_,rfl⟩
  have hni:(slot:Int)/2-1=(n:Int):=by omega
  have aep:n≤30:=by omega
  have aer:2^n≤2^30:=Nat.pow_le_pow_right (by omega) aep
  obtain⟨TOP,hT⟩: ∃T,(2+slot%2)*2^n=T:=⟨_,rfl⟩
  have aa2:TOP≤3*2^30:=by rw[←hT];exact Nat.mul_le_mul (by omega) aer
  have htop:wrap64 (wrap64 (2+bits .and .i64 (slot:Int) 1)*2^n)=(TOP:Int):=by
   rw[og,show(2:Int)+(slot:Int)%2=((2+slot%2:Nat):Int) by omega]
   have e1:wrap64 ((2+slot%2:Nat):Int)=((2+slot%2:Nat):Int):=by unfold wrap64;omega
   rw[e1,show(2:Int)^n=((2^n:Nat):Int) by simp,←Int.natCast_mul,hT]
   unfold wrap64;omega
  have hTi:(TOP:Int)≤3221225472:=by omega
  rw[hn,hT]at hR
  by_cases RZ:slot<14
  ·have ak9:(slot:Int)<14:=by omega
   rw[if_pos RZ]at hR
   obtain⟨⟨t,z⟩,hz⟩: ∃q,Md.rev io (1716+32*slot) n (D:Nat) y=q:=⟨_,rfl⟩
   have h2n:2^n≤2^5:=Nat.pow_le_pow_right (by omega) (by omega)
   obtain⟨h2,ht,ok2⟩:=V9 io uT.out hz (len:=32) (cp:=32) (b:=C) (off:=1725+(slot-4)*32) (k:=k) (io.le Nh.out (by omega)) (Md.JY (by omega) (by omega) (by omega)) (by omega) (by omega) (by omega) (by omega)
   simp only[hz]at hR
   injection hR with hR1 hR2
   have rH:=Lib.hid (And.intro hR1.symm hR2.symm)
   have H2:=Lib.hid h2
   have mZ:=Lib.hid ok2
   have hti:(t:Int)<32:=by omega
   have HN:=Lib.hid hn
   have Wn:=Lib.hid (And.intro aa2 ht)
   clear hR1 hR2 h4 hn aep aer hT aa2 h2n ht h2 ok2 hz RZ
   go_wp2_with fail
   refine H2.out.mono ?_
   rintro e x6 ⟨rfl,hw6⟩
   go_wp2_with fail
   go_ret
   obtain⟨e1,e2⟩:=rH.out
   subst e1 e2
   exact⟨⟨by go_num,jd.trans (Only.nY g5.out.1) g5.out.2 hw6⟩,by omega,by have:=Wn.out;omega,mZ.out⟩
  ·have ak9: ¬(slot:Int)<14:=by omega
   rw[if_neg RZ]at hR
   obtain⟨m,hm⟩: ∃m,n-4=m:=⟨_,rfl⟩
   have Nj:(n:Int)-4=(m:Int):=by omega
   have ala:m≤26:=by omega
   have ahe:2^m≤2^26:=Nat.pow_le_pow_right (by omega) ala
   have hp1:1≤2^m:=Nat.one_le_two_pow
   rw[hm]at hR
   obtain⟨M,hM'⟩: ∃M,2^m-1=M:=⟨_,rfl⟩
   have hmask:((2:Int)^m-1)%4294967296=(M:Int):=by
    rw[show(2:Int)^m=((2^m:Nat):Int) by simp];omega
   obtain⟨V,hV⟩: ∃V,D/16%2^m=V:=⟨_,rfl⟩
   have ahf:V<2^m:=by rw[←hV];exact Nat.mod_lt _ (by omega)
   have hand:bits .and .u32 ((D:Int)/16) (M:Int)=(V:Int):=by
    rw[show(D:Int)/16=((D/16:Nat):Int) by omega,u32_and_nat _ _ (by omega) (by omega),←hM',Nat.and_two_pow_sub_one_eq_mod,hV]
   have hVm:V%2^m=V:=Nat.mod_eq_of_lt ahf
   rw[hV]at hR
   obtain⟨⟨q,s2⟩,hq⟩: ∃z,io.plain y.2 V m=z:=⟨_,rfl⟩
   obtain⟨h2,hq2,ok2⟩:=Wh io uT.out (v:=V) (m:=m) (q:=q) (s2:=s2) (k:=k+4) (by rw[hVm];exact hq) Nh.out (by omega) (by omega)
   simp only[hq]at hR
   rw[Nat.mod_eq_of_lt hq2]at hR
   have hqi:(q:Int)<67108864:=by omega
   have hand2:bits .and .u32 (q:Int) (M:Int)=(q:Int):=by
    rw[u32_and_nat _ _ (by omega) (by omega),←hM',Nat.and_two_pow_sub_one_eq_mod,Nat.mod_eq_of_lt hq2]
   obtain⟨⟨t,z⟩,hz⟩: ∃q,Md.rev io 2164 4 (D:Nat) (y.1,s2)=q:=⟨_,rfl⟩
   simp only[hz]at hR
   injection hR with hR1 hR2
   have rH:=Lib.hid (And.intro hR1.symm hR2.symm)
   have HZ:=Lib.hid hz
   have mZ:=Lib.hid ok2
   have Wn:=Lib.hid (And.intro aa2 hq2)
   have aoJ:=io.meth
   have H26:=Lib.hid ahe
   rcases io.kind with hF | hF
   all_goals
    have H2:=Lib.hid h2
    rw[hF]at H2
   all_goals
    clear hR1 hR2 hn aep aer hT aa2 h2 ok2 hz RZ hm ahe hM' hV ahf hVm hq hq2 hp1 h4
    go_wp2_with fail
    refine H2.out.mono ?_
    rintro e x6 ⟨rfl,hw6⟩
    obtain⟨X2,hM2,iQ,hX2⟩:=jd.trans (Only.nY g5.out.1) g5.out.2 hw6
    obtain⟨h3,ht,ok3⟩:=V9 io hM2 HZ.out (len:=16) (cp:=16) (b:=C) (off:=2045) (k:=k) (io.le mZ.out (by omega)) (Md.JY (by omega) (by omega) (by omega)) (by omega) (by omega) (by omega) (by omega)
    have H3:=Lib.hid h3
    have hti:(t:Int)<16:=by omega
    have HT3:=Lib.hid (And.intro ht ok3)
    have RY:=Lib.hid (And.intro iQ hX2)
    clear iQ hX2 hM2 hw6 h3 ht ok3
    go_wp2_with fail
    refine H3.out.mono ?_
    rintro e x7 ⟨rfl,hw7⟩
    go_wp2_with fail
    go_ret
    obtain⟨e1,e2⟩:=rH.out
    subst e1 e2
    have h26:=H26.out
    have htt:=Wn.out
    exact⟨⟨by go_num,jd.trans RY.out.1 RY.out.2 hw7⟩,by omega,by have:=HT3.out;omega,HT3.out.2⟩
def bU(st:Nat):Nat:=if st<4 then 0 else if st<10 then st-3 else st-6
def yU(lc lp:Nat)(H:List UInt8):Nat:=H.length%2^lp*2^lc+(if 0<H.length then(H.getD (H.length-1) 0).toNat else 0)/2^(8-lc)
theorem aa3{lc lp:Nat}(H:List UInt8)(hlc:lc≤8):yU lc lp H<2^(lc+lp):=by
 unfold yU
 have h1:H.length%2^lp<2^lp:=Nat.mod_lt _ (Nat.pow_pos (by decide))
 have h2:(if 0<H.length then(H.getD (H.length-1) 0).toNat else 0)/2^(8-lc)<2^lc:=by
  rw[Nat.div_lt_iff_lt_mul (Nat.pow_pos (by decide)),←Nat.pow_add,show lc+(8-lc)=8 by omega]
  split
  ·exact(H.getD (H.length-1) 0).toNat_lt
  ·decide
 have h3:(H.length%2^lp+1)*2^lc≤2^lp*2^lc:=Nat.mul_le_mul_right _ h1
 rw[Nat.pow_add,Nat.mul_comm (2^lc)]
 rw[Nat.add_mul]at h3
 omega
theorem Ih(st:Nat)(_:st<12)(w:World):Calls Tryz.prog 223 #[.int .i64 (st:Nat)] w fun e w'=>e= .returned (.int .i64 (bU st:Nat))∧w=w':=by
 obtain⟨S,hS⟩: ∃S,bU st=S:=⟨_,rfl⟩
 rw[hS]
 unfold bU at hS
 by_cases h1:st<4
 ·rw[if_pos h1]at hS
  subst hS
  have h1i:(st:Int)<4:=by omega
  go_enter Tryz.func223,Tryz.ntmps223
  go_wp2_with fail
  go_ret
  exact⟨rfl,rfl⟩
 ·have h1i: ¬(st:Int)<4:=by omega
  rw[if_neg h1]at hS
  by_cases h2:st<10
  ·have h2i:(st:Int)<10:=by omega
   rw[if_pos h2]at hS
   have HS:=Lib.hid hS
   clear hS
   go_enter Tryz.func223,Tryz.ntmps223
   go_wp2_with fail
   go_ret
   have:=HS.out
   exact⟨by go_num,rfl⟩
  ·have h2i: ¬(st:Int)<10:=by omega
   rw[if_neg h2]at hS
   have HS:=Lib.hid hS
   clear hS
   go_enter Tryz.func223,Tryz.ntmps223
   go_wp2_with fail
   go_ret
   have:=HS.out
   exact⟨by go_num,rfl⟩
theorem qx(st a b:Nat)(w:World):Calls Tryz.prog 227 #[.int .i64 (st:Nat),.int .i64 (a:Nat),.int .i64 (b:Nat)] w fun e w'=>e= .returned (.int .i64 ((if st<7 then a else b:Nat):Int))∧w=w':=by
 by_cases h1:st<7
 ·have h1i:(st:Int)<7:=by omega
  rw[if_pos h1]
  go_enter Tryz.func227,Tryz.ntmps227
  go_wp2_with fail
  go_ret
  exact⟨rfl,rfl⟩
 ·have h1i: ¬(st:Int)<7:=by omega
  rw[if_neg h1]
  go_enter Tryz.func227,Tryz.ntmps227
  go_wp2_with fail
  go_ret
  exact⟨rfl,rfl⟩
def J4(v:Value)(w:World)(e:Ending)(w':World):Prop:=e= .returned v∧Below w.heap.size w w'
theorem je{a:Int}(h0: -9223372036854775808≤a)(h1:a≤9223372036854775807):wrap64 a=a:=by unfold wrap64;omega
theorem QF{n lc lp u K:Nat}(hlc:lc≤4)(hlp:lp≤4)(hu:u<256)(hK:n%2^lp*2^lc+u/2^(8-lc)=K):wrap64 (wrap64 (bits .and .i64 (n:Int) (wrap64 (wrap64 (2^lp)-1))*2^lc)+(u:Int)/2^(8-lc))=(K:Int):=by
 have h1:1≤2^lp:=Nat.one_le_two_pow
 have h2:2^lp≤2^4:=Nat.pow_le_pow_right (by omega) hlp
 have h3:2^lc≤2^4:=Nat.pow_le_pow_right (by omega) hlc
 have e1:wrap64 ((2:Int)^lp)=((2^lp:Nat):Int):=by rw[show(2:Int)^lp=((2^lp:Nat):Int) by simp];exact je (by omega) (by omega)
 have e2:wrap64 (((2^lp:Nat):Int)-1)=((2^lp-1:Nat):Int):=by rw[je (by omega) (by omega)];omega
 have e3:(n:Int)%((2^lp:Nat):Int)=((n%2^lp:Nat):Int):=by omega
 have h4:n%2^lp<2^lp:=Nat.mod_lt _ h1
 have h5:n%2^lp*2^lc≤16*16:=Nat.mul_le_mul (by omega) (by omega)
 have e4:((n%2^lp:Nat):Int)*2^lc=((n%2^lp*2^lc:Nat):Int):=by simp
 have e5:(u:Int)/2^(8-lc)=((u/2^(8-lc):Nat):Int):=by simp
 have h6:u/2^(8-lc)≤u:=Nat.div_le_self _ _
 rw[e1,e2,rV _ _ (by omega),e3,e4,e5]
 generalize n%2^lp*2^lc=N at*
 generalize u/2^(8-lc)=U at*
 rw[je (a:=(N:Int)) (by omega) (by omega),je (by omega) (by omega)]
 omega
theorem aa4{C L lc lp pb st:Nat}{r:R4}{P:Nat→Nat}{w:World}(hM:bg w C L lc lp pb st r P)(hlc:lc≤4)(hlp:lp≤4)(A:Option Addr)(H:List UInt8)(c:Nat)(hB:Bytes w A H)(hc:H.length≤c)(hH:H.length≤1000000000):
  Calls Tryz.prog 222 #[PF C,.slice A H.length c] w (J4 (.int .i64 (yU lc lp H:Nat)) w):=by
 obtain⟨c0,c1,_⟩:=hM.cells
 obtain⟨K,hK⟩: ∃K,yU lc lp H=K:=⟨_,rfl⟩
 rw[hK]
 unfold yU at hK
 have hci:(H.length:Int)≤(c:Int):=by omega
 have hHi:(H.length:Int)≤1000000000:=by omega
 by_cases h0:0<H.length
 ·have h0i:(0:Int)<(H.length:Int):=by omega
  rw[if_pos h0]at hK
  obtain⟨b,off,rfl,_,hat⟩:=hB.addr h0
  have cx:=hat (H.length-1) (by omega)
  rw[←dQ]at cx
  generalize H.getD (H.length-1) 0=u at*
  obtain⟨y,hy⟩: ∃y,H.length-1=y:=⟨_,rfl⟩
  rw[hy]at cx
  have hyi:(H.length:Int)-1=(y:Int):=by omega
  have hyl:(y:Int)<(H.length:Int):=by omega
  have HK:=Lib.hid hK
  clear hK hat hB hy
  go_enter Tryz.func222,Tryz.ntmps222
  go_wp2_with fail
  go_quiet (fail)
  go_wp2_with fail
  go_ret
  have e:=QF hlc hlp (u:=u.toNat) u.toNat_lt HK.out
  have e0:wrap64 ((u.toNat:Nat):Int)=((u.toNat:Nat):Int):=je (by omega) (by have:=u.toNat_lt;omega)
  refine⟨?_,below_drewN (Below.refl _ _) _⟩
  show Ending.returned (Value.int .i64 _)=_
  rw[e0,e]
 ·have h0i: ¬(0:Int)<(H.length:Int):=by omega
  rw[if_neg h0]at hK
  have HK:=Lib.hid hK
  clear hK hB
  go_enter Tryz.func222,Tryz.ntmps222
  go_wp2_with fail
  go_quiet (fail)
  go_wp2_with fail
  go_ret
  have e:=QF hlc hlp (u:=0) (by decide) HK.out
  rw[show(((0:Nat):Nat):Int)/2^(8-lc)=0 by simp,Int.add_zero]at e
  refine⟨?_,below_drewN (Below.refl _ _) _⟩
  show Ending.returned (Value.int .i64 _)=_
  exact congrArg (fun n:Int=>Ending.returned (Value.int .i64 n)) e
theorem BO{w W1:World}{v0 v1 v2 v3 v4:Value}(h:(w.alloc (.cells #[v0,v1,v2,v3,v4] 158)).alloc (.cells #[.int .i64 0,.int .u8 0,.int .i64 0,.int .i64 0,.int .i64 0] 158)=W1):
  (W1.cell? ⟨w.heap.size,0,none⟩=some v0∧W1.cell? ⟨w.heap.size,1,none⟩=some v1∧W1.cell? ⟨w.heap.size,2,none⟩=some v2∧W1.cell? ⟨w.heap.size,3,none⟩=some v3∧W1.cell? ⟨w.heap.size,4,none⟩=some v4)∧
  W1.heap[w.heap.size+1]? =some (.cells [Value.int .i64 0,.int .u8 0,.int .i64 0,.int .i64 0,.int .i64 0].toArray 158 (0,0)):=by
 have h0:W1.heap[w.heap.size]? =some (.cells [v0,v1,v2,v3,v4].toArray 158 (0,0)):=by
  rw[←h];exact(Below.heap_alloc _ _ _ (by simp)).trans (heap_alloc_last w _)
 have h1:W1.heap[w.heap.size+1]? =some (.cells [Value.int .i64 0,.int .u8 0,.int .i64 0,.int .i64 0,.int .i64 0].toArray 158 (0,0)):=by
  rw[←h]
  have h:=heap_alloc_last (w.alloc (.cells #[v0,v1,v2,v3,v4] 158)) (.cells #[.int .i64 0,.int .u8 0,.int .i64 0,.int .i64 0,.int .i64 0] 158)
  simpa using h
 refine⟨⟨?_,?_,?_,?_,?_⟩,h1⟩<;>(rw[cell_of_row W1 _ _ _ _ _ h0];rfl)
theorem rX{io:Io}{C L lc lp pb st:Nat}{r:R4}{x:io.S}{X:List Nat}{w w':World}{n:Nat}(h:jd io C L lc lp pb st r x X (w.drewN n) w'):jd io C L lc lp pb st r x X w w':=by
 obtain⟨X',hM,hon,hX⟩:=h
 exact⟨X',hM,Only.nY hon,hX⟩
theorem MS.front{io:Io}{w w':World}{C L lc lp pb st:Nat}{r r':R4}{x:io.S}{X:List Nat}(h:MS io w C L lc lp pb st r x X)(hm:bg w' C L lc lp pb st r' x.1)(ho:Only [C] w w'):MS io w' C L lc lp pb st r' x X:=
 ⟨hm,io.keep h.io ho.size (fun i hi=>ho.block i (io.lt h.io i hi) (fun e=>h.vU (by simp at e;rw[←e];exact hi))),h.vU,h.yR⟩
theorem Wp(io:Io){C L lc lp pb st:Nat}{r:R4}{x:io.S}{X:List Nat}{w:World}(hM:MS io w C L lc lp pb st r x X){p k:Nat}(hp:p<16)(kk:Int)(b:UInt8)(l d q:Int)(hl0:0≤l)(hl1:l≤300)(hd0:0≤d)(hd1:d≤4294967295)
  {n dd:Nat} {y Z:io.S} (hR1:Md.len io 432 p l x=(n,y)) (hR2:Md.dist io n d y=(dd,Z)) (hok:io.ok x.2 (k+52)):
  Calls Tryz.prog 205 #[PF C,io.v,.int .i64 (p:Nat),yL kk b l d q] w (Ig (2≤n∧n≤273∧1≤dd∧dd≤4294967296∧io.ok Z.2 k) (lN (yL 1 0 (n:Nat) (dd:Nat) 0) io C L lc lp pb (if st<7 then 7 else 10) (aS r 3 (dd:Nat)) Z X w)):=by
 obtain⟨ls,hls⟩: ∃ls,(if st<7 then 7 else 10)=ls:=⟨_,rfl⟩
 rw[hls]
 have NH:=Lib.hid hls
 obtain⟨r',hr'⟩: ∃r',aS r 3 (dd:Nat)=r':=⟨_,rfl⟩
 rw[hr']
 have HR':=Lib.hid hr'
 obtain⟨Q,hQ⟩: ∃Q,(2≤n∧n≤273∧1≤dd∧dd≤4294967296∧io.ok Z.2 k)=Q:=⟨_,rfl⟩
 rw[hQ]
 have HQ:=Lib.hid hQ
 clear hls hr' hQ
 have iL:Hid (∀i∈C::L::X,i<w.heap.size):=Lib.hid (by
  intro i hi
  simp only[List.mem_cons]at hi
  rcases hi with rfl | rfl | hi
  ·exact hM.mod.EW
  ·exact hM.mod.BN
  ·exact io.lt hM.io i hi)
 obtain⟨bs,hbs⟩: ∃bs,w.heap.size+1=bs:=⟨_,rfl⟩
 have lQ:=Lib.hid hbs
 clear hbs
 obtain⟨W1,hW1⟩: ∃W1,(w.alloc (.cells #[.int .i64 kk,.int .u8 (b.toNat:Nat),.int .i64 l,.int .i64 d,.int .i64 q] 158)).alloc (.cells #[.int .i64 0,.int .u8 0,.int .i64 0,.int .i64 0,.int .i64 0] 158)=W1:=⟨_,rfl⟩
 have hb1:Below w.heap.size w W1:=by rw[←hW1];exact((Below.refl _ _).alloc (Nat.le_refl _) _).alloc (by simp) _
 have hM1:=hM.below hb1
 obtain⟨hsy,hrs⟩:=BO hW1
 rw[lQ.out]at hrs
 have HW1:=Lib.hid hW1
 have uT:=Lib.hid hM1
 have uH:=Lib.hid hsy
 have xu:=Lib.hid hrs
 have HB1:=Lib.hid hb1
 have ne1:C≠bs:=fun e=>by have:=iL.out C (by simp);have:=lQ.out;omega
 have Wq:bs≠C:=fun e=>ne1 e.symm
 have ng:Hid (w.heap.size ∉ C::L::X∧bs ∉ C::L::X):=Lib.hid ⟨fun h=>by have:=iL.out _ h;omega,fun h=>by have:=iL.out _ h;have:=lQ.out;omega⟩
 clear hW1 hM1 hsy hrs hb1 hM
 have HLEN:=Lib.hid (NG io (uT.out.drewN 1) hR1 (k:=k+42) hok (.inl rfl) hp hl0 hl1)
 have HR2:=Lib.hid hR2
 have hpi:(p:Int)<16:=by omega
 have hdr:=uH.out.2.2.1
 clear hR1 hR2 hok
 go_enter Tryz.func205,Tryz.ntmps205
 go_upto_region 1 with fail
 rw[HW1.out,lQ.out]
 refine wp_region_held_drew (S:=fun w2=>w2.cell? ⟨w.heap.size,2,none⟩=some (.int .i64 l)) (by kernel_rfl) hdr (fun hS=> ?_)
 refine tq 0 hS ?_
 refine tq 1 hS ?_
 refine tq 2 hS ?_
 refine tq 3 hS ?_
 refine tq 4 hS ?_
 refine tq 5 hS ?_
 refine tp 6 rfl (fun w hSw=>by have q1:=hSw;go_simp;all_goals(with_reducible rfl)) hS ?_
 refine tr 7 (fun K hK=> ?_)
 go_simp
 refine HLEN.out.mono ?_
 rintro e x4 ⟨⟨rfl,hw4⟩,hn1,hn2,ok4⟩
 obtain⟨X4,hM4,kH,hX4⟩:=(show jd io C L lc lp pb st r y X W1 x4 from rX hw4)
 have aes:=Lib.hid kH
 have g4:=aA aes.out ng.out.1 uH.out.2.2.1
 have JV:=Lib.hid hM4
 have HX4:=Lib.hid hX4
 have aa5:=Lib.hid ok4
 have HN4:=Lib.hid (And.intro hn1 hn2)
 have aqL:(n:Int)≤273:=by omega
 clear hM4 kH hX4 ok4 hn1 hn2
 go_wp2_with fail
 refine hK.out _ _ g4 (fun _=> ?_)
 clear hK K
 refine tq 8 g4 ?_
 refine wpAnyH_done (by kernel_rfl) ?_ _
 have g4':=aA aes.out ng.out.1 uH.out.2.2.2.1
 clear hS g4 hdr HLEN
 have ahi:=Lib.hid (aa1 io (JV.out.drewN 1) HR2.out aa5.out HN4.out.1 (by have:=HN4.out;omega) hd0 hd1)
 have hdr:=g4'
 have aqM:=HX4
 go_upto_region 2 with fail
 refine wp_region_held_drew (S:=fun w2=>w2.cell? ⟨w.heap.size,3,none⟩=some (.int .i64 d)) (by kernel_rfl) hdr (fun hS=> ?_)
 refine tq 0 hS ?_
 refine tq 1 hS ?_
 refine tq 2 hS ?_
 refine tq 3 hS ?_
 refine tq 4 hS ?_
 refine tq 5 hS ?_
 refine tp 6 rfl (fun w hSw=>by have q1:=hSw;go_simp;all_goals(with_reducible rfl)) hS ?_
 refine tr 7 (fun K hK=> ?_)
 go_simp
 refine ahi.out.mono ?_
 rintro e x5 ⟨⟨rfl,hw5⟩,hd1,hd2,ok5⟩
 obtain⟨X5,hM5,Fz,hX5⟩:=jd.trans aes.out HX4.out (show jd io C L lc lp pb st r Z X4 x4 x5 from rX hw5)
 have Ws:=Lib.hid Fz
 have g5:=aA Ws.out ng.out.1 uH.out.2.2.2.1
 have HM5:=Lib.hid hM5
 have HX5:=Lib.hid hX5
 have aa7:=Lib.hid ok5
 have HD5:=Lib.hid (And.intro hd1 hd2)
 clear hM5 Fz hX5 ok5 hd1 hd2 hw5
 go_wp2_with fail
 refine hK.out _ _ g5 (fun _=> ?_)
 clear hK K
 refine tq 8 g5 ?_
 refine wpAnyH_done (by kernel_rfl) ?_ _
 clear hS g5 hdr ahi g4'
 have NI:=Lib.hid (yS HM5.out.mod 3 (by omega) (dd:Nat))
 rw[HR'.out]at NI
 have qR:Hid (∀i∈X5,i∈X∨W1.heap.size≤i):=HX5
 go_wp2_with fail
 refine NI.out.mono ?_
 rintro e x6 ⟨rfl,hm6,BP⟩
 have hM6:=HM5.out.front hm6 BP
 have FB:Only (C::L::X) W1 x6:=Ws.out.trans BP (fun i hi=> .inl (by simp at hi;simp[hi]))
 have QG:=Lib.hid hM6
 have lW:=Lib.hid FB
 obtain⟨_,_,_,c3,_⟩:=hM6.mod.cells
 have f3:=hM6.mod.kS 3
 have Ii:=qx st 7 10 x6
 rw[NH.out]at Ii
 have HAF:=Lib.hid Ii
 have hrs:=(lW.out.block bs (by have:=(Array.getElem?_eq_some_iff.1 xu.out).1;exact this) ng.out.2).trans xu.out
 have z0:x6.cell? ⟨bs,0,none⟩=some (.int .i64 0):=by rw[cell_of_row x6 _ _ _ _ _ hrs];rfl
 have z1:x6.cell? ⟨bs,1,none⟩=some (.int .u8 0):=by rw[cell_of_row x6 _ _ _ _ _ hrs];rfl
 have z2:x6.cell? ⟨bs,2,none⟩=some (.int .i64 0):=by rw[cell_of_row x6 _ _ _ _ _ hrs];rfl
 have z3:x6.cell? ⟨bs,3,none⟩=some (.int .i64 0):=by rw[cell_of_row x6 _ _ _ _ _ hrs];rfl
 have z4:x6.cell? ⟨bs,4,none⟩=some (.int .i64 0):=by rw[cell_of_row x6 _ _ _ _ _ hrs];rfl
 have zf: ∀i,x6.frozen? ⟨bs,i,none⟩=false:=fun i=>frozen_of_row _ _ _ _ _ hrs
 have F9:=zf 0
 have Gf:=zf 1
 have Jt:=zf 2
 have Ju:=zf 3
 have zf4:=zf 4
 clear hrs zf
 clear hm6 BP hM6 FB Ii NI
 go_wp2_with fail
 refine HAF.out.mono ?_
 rintro e x7 ⟨rfl,rfl⟩
 go_wp2_with fail
 refine bodyPost_ret (v:=yL 1 0 (n:Nat) (dd:Nat) 0) (by simp[results,Tryz.results205,go_sem,z0,z1,z2,z3,z4]) rfl ⟨⟨rfl,X5,?_,?_,?_⟩,by rw[←HQ.out];exact⟨HN4.out.1,HN4.out.2,HD5.out.1,HD5.out.2,aa7.out⟩⟩
 ·have hbX:bs ∉ C::L::X5:=fun h=>by
   simp only[List.mem_cons]at h
   rcases h with h | h | h
   ·exact Wq h
   ·have:=iL.out L (by simp);have:=lQ.out;omega
   ·rcases qR.out _ h with h | h
    ·have:=iL.out bs (by simp[h]);have:=lQ.out;omega
    ·have:=(Array.getElem?_eq_some_iff.1 xu.out).1;omega
  exact(((((QG.out.setHead (k:=3) (st':=ls) (r':=r') (by decide) rfl).aU hbX _).aU hbX _).aU hbX _).aU hbX _).aU hbX _
 ·have h0:Only (C::L::X) w x6:=(Only.of_below HB1.out).trans lW.out (fun i hi=> .inl hi)
  have hn:bs∈C::L::X∨w.heap.size≤bs:= .inr (by have:=lQ.out;omega)
  exact(((((h0.setCell (p:=⟨C,3,none⟩) (.inl (by simp)) _).setCell (p:=⟨bs,0,none⟩) hn _).setCell (p:=⟨bs,1,none⟩) hn _).setCell (p:=⟨bs,2,none⟩) hn _).setCell (p:=⟨bs,3,none⟩) hn _).setCell (p:=⟨bs,4,none⟩) hn _
 ·intro i hi
  rcases qR.out i hi with h | h
  ·exact .inl h
  ·exact .inr (Nat.le_trans HB1.out.size h)
end Go.Proofs.YtgfpocdiojifoaaGreatDoor
