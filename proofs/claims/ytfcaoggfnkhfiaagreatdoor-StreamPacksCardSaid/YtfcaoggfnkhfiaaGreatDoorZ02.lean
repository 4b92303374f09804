import Derived.Test.YtfcaoggfnkhfiaaGreatDoorZ01
import Derived.BigRegion
import Derived.Deep.RegionLaw
import Derived.Deep.LoopGhost
import Derived.Deep.DeepCutAuto
import Derived.Deep.RegionHeld3
import Derived.Lib.MinMax
import Derived.Deep.CutBlock
namespace Go.Proofs.YtfcaoggfnkhfiaaGreatDoor
set_option maxRecDepth 100000
set_option maxHeartbeats 8000000
open Go.RowKit Go.Proofs.Tryz
variable{lc lp pb st:Int}{P X:List Nat}{l xs:List Value}{C base cap e g gz n o:Nat}{fr:Nat×Nat}{t:TypeId}{a b c d v vP vR:Value}{w w':Lo}
namespace Rc
def be:Nat->Nat->List UInt8
 | 0,_=>[]
 | n+1,v=>be n (v/256)++[UInt8.ofNat (v%256)]
theorem gI(n v:Nat):(be n v).length=n:=by
 induction n generalizing v with
 | zero=>rfl
 | succ n ih=>simp[be,ih]
theorem Ub(n v:Nat):be n (v%256^n)=be n v:=by
 induction n generalizing v with
 | zero=>rfl
 | succ n ih=>
  simp only[be];have h1:v%256^(n+1)/256=v/256%256^n:=by rw[cS,dR,Nat.mod_mul_right_div_self]
  have h2:v%256^(n+1)%256=v%256:=by rw[cS,Nat.mod_mul_left_mod]
  rw[h1,h2,ih]
theorem FS(m n v:Nat):be (m+n) v=be m (v/256^n)++be n v:=by
 induction n generalizing v with
 | zero=>simp[be]
 | succ n ih=>
  rw[<-m6];simp only[be];rw[ih,<-eY];congr 2;rw[kW,cS,dR]
theorem Pa(n:Nat):be n 0=List.replicate n 0:=by
 induction n with
 | zero=>rfl
 | succ n ih=>simp only[be];rw[Nat.zero_div,ih,List.replicate_succ',Nat.zero_mod];rfl
theorem ZI(n v:Nat)(h:v<256^n):be (1+n) v=0::be n v:=by rw[FS,Nat.div_eq_of_lt h];rfl
structure St where
 k:Nat
 v:Nat
 r:Nat
def St.fits(s:St):Prop:=s.v+s.r<=256^(4+s.k)/\s.r<4294967296
def St.ok(s:St):Prop:=s.fits/\16777216<=s.r
def St.up(s:St):St:=⟨s.k+1,s.v*256,s.r*256⟩
def St.scale:Nat->St->St
 | 0,s=>s
 | n+1,s=>if s.r<16777216 then St.scale n s.up else s
theorem St.FU(s:St)(h:s.fits)(hr:s.r<16777216):s.up.fits:=by
 refine⟨?_,?_⟩;·show s.v*256+s.r*256<=256^(4+(s.k+1));rw[<-m6 4,cS,<-Nat.add_mul];exact qF _ h.1
 ·show s.r*256<4294967296;omega
def fair(c:Nat):Nat:=if c<1\/2048<=c then 1024 else c
theorem yq(c:Nat):1<=fair c/\fair c<=2047:=by unfold fair;split<;>omega
def next(p:Nat)(one:Bool):Nat:=if one then p-p/32 else p+(2048-p)/32
def St.pick(s:St)(p:Nat)(one:Bool):St:=if one then⟨s.k,s.v+s.r/2048*p,s.r-s.r/2048*p⟩else⟨s.k,s.v,s.r/2048*p⟩
theorem St.od(s:St)(p:Nat)(one:Bool)(h:s.ok)(h1:1<=p)(h2:p<=2047):(s.pick p one).fits/\8192<=(s.pick p one).r:=by
 have hb:s.r/2048*p<=s.r/2048*2047:=AH _ h2;have aI:s.r/2048*1<=s.r/2048*p:=AH _ h1;obtain⟨⟨ZJ,hf2⟩,hr⟩:=h;unfold St.pick St.fits;cases one;·simp only[Bool.false_eq_true,if_false];omega
 ·simp only[if_true];omega
def jS(m t V:Nat):List UInt8:=be (m-t) (V/256^t)++List.replicate t 0
theorem Iu(m V:Nat):jS m 0 V=be m V:=by simp[jS]
theorem vn(m t V:Nat)(h:t<m):jS m t V=be (m-(t+1)) (V/256^(t+1))++(UInt8.ofNat (V/256^t%256)::List.replicate t 0):=by
 unfold jS;obtain⟨j,hj⟩: ∃j,m-t=j+1:=⟨m-t-1,aa⟩
 rw[hj,show m-(t+1)=j by omega,be,kW,cS,eY];rfl
theorem LX(m t V:Nat)(h:t<m):(jS m t V)[m-1-t]? =some (UInt8.ofNat (V/256^t%256)):=by rw[vn m t V h,lH (by rw[gI];omega),gI,show m-1-t-(m-(t+1))=0 by omega];rfl
theorem Bf(m t V:Nat)(h:t<m)(x:UInt8):(jS m t V).set (m-1-t) x=be (m-(t+1)) (V/256^(t+1))++(x::List.replicate t 0):=by rw[vn m t V h,List.set_append_right _ _ (by rw[gI];omega),gI,show m-1-t-(m-(t+1))=0 by omega];rfl
theorem Iv(m t V:Nat)(h:t<m):(jS m t V).set (m-1-t) 0=jS m (t+1) V:=by rw[Bf m t V h];unfold jS;rw[List.replicate_succ]
theorem Uc(t V:Nat)(h:V%256^t=256^t-1)(h2:V/256^t%256=255):V%256^(t+1)=256^(t+1)-1:=by have hp:0<256^t:=Nat.pos_of_ne_zero ah;rw[cS,Nat.mod_mul,h,h2];omega
theorem succ_div(t V:Nat)(h:V%256^t=256^t-1):V+1=(V/256^t+1)*256^t:=by have hp:0<256^t:=Nat.pos_of_ne_zero ah;have:=Nat.div_add_mod V (256^t);rw[Nat.add_mul,dR (V/256^t)];omega
theorem Iw(m t V:Nat)(h:t<m)(hv:V%256^t=256^t-1)(h2:V/256^t%256≠255):
  (jS m t V).set (m-1-t) (UInt8.ofNat (V/256^t%256)+1)=be m (V+1):=by
 have hp:0<256^t:=Nat.pos_of_ne_zero ah;rw[Bf m t V h];have e1:be m (V+1)=be (m-t) (V/256^t+1)++List.replicate t 0:=by
  conv=>lhs;rw[show m=(m-t)+t by omega]
  rw[FS,succ_div t V hv,Nat.mul_div_cancel _ hp];congr 1;rw[<-Ub,Nat.mul_mod_left,Pa]
 rw[e1];obtain⟨j,hj⟩: ∃j,m-t=j+1:=⟨m-t-1,aa⟩
 rw[hj,show m-(t+1)=j by omega,be];have e2:(V/256^t+1)/256=V/256^(t+1):=by rw[cS,<-kW];omega
 have e3:UInt8.ofNat ((V/256^t+1)%256)=UInt8.ofNat (V/256^t%256)+1:=by apply UInt8.toNat_inj.1;rw[UInt8.toNat_add,fN,fN];simp
 rw[e2,e3,eY];rfl
theorem LY(m V:Nat)(hv:V%256^m=256^m-1):jS m m V=be m (V+1):=by unfold jS;rw[lJ,be,fL,<-Ub,succ_div m V hv,Nat.mul_mod_left,Pa]
end Rc
structure aM(X:List Nat)(w w':Lo):Prop where
 os:w'.os=w.os
 tape:w'.tape=w.tape
 output:w'.output=w.output
 size:w.heap.size<=w'.heap.size
 block: ∀i,i<w.heap.size->i ∉ X->w'.heap[i]? =w.heap[i]?
theorem aM.refl(X:List Nat)(w:Lo):aM X w w:=⟨rfl,rfl,rfl,aF _,λ_ _ _=>rfl⟩
theorem aM.trans{Y:List Nat}{a b c:Lo}(h:aM X a b)(k:aM Y b c)(hY: ∀i∈Y,i∈X\/a.heap.size<=i):aM X a c:=
 ⟨k.os.trans h.os,k.tape.trans h.tape,k.output.trans h.output,a8 h.size k.size,λi hi hX=>
  (k.block i (db hi h.size) (λhm=>by rcases hY i hm with h1|h1;exact hX h1;omega)).trans (h.block i hi hX)⟩
theorem aM.alloc{X:List Nat}{a b:Lo}(h:aM X a b)(o:Obj):aM X a (b.alloc o):=
 h.trans (Y:=[]) ⟨rfl,rfl,rfl,ah,λi hi _=>ee b o i hi⟩ ah
theorem aM.setCell{X:List Nat}{a b:Lo}(h:aM X a b){p:Addr}(hp:p.block∈X\/a.heap.size<=p.block)(u:Value):aM X a (b.setCell p u):=
 h.trans (Y:=[p.block]) ⟨rfl,rfl,rfl,ah,λi _ hm=>Below.heap_setCell b p u i (by simpa using hm)⟩ (by simpa using hp)
theorem aM.drew{a b:Lo}(h:aM X a b):aM X a b.drew:=⟨h.os,h.tape,h.output,h.size,h.block⟩
theorem aM.grown{a b c:Lo}(h:aM X a b)(hg:b.grownBy c (some o))(ho:o∈X\/a.heap.size<=o):aM X a c:=
 h.trans (Y:=[o]) ⟨hg.os,hg.tape,hg.output,hg.size,λi hi hm=>hg.block i hi (by simpa using hm)⟩ (by simpa using ho)
theorem aM.below{a b:Lo}{B:Nat}(h:aM X a b)(hB:B<=a.heap.size)(hX: ∀i∈X,B<=i):Below B a b:=
 ⟨h.os,h.tape,h.output,h.size,λi hi=>h.block i aa (λhm=>av (hX i hm))⟩
structure ib(w:Lo)(g o cap:Nat)(s:Rc.St):Prop where
 aE:w.heap[g]? =some (.cells #[.int .u32 ((s.v%4294967296:Nat):Int),.int .u32 (s.r:Int),.slice (some ⟨o,0,none⟩) (1+s.k) cap] 265 (0,0))
 own:w.ownsRow 0 5 1 (.slice (some ⟨o,0,none⟩) (1+s.k) cap) (1+s.k) ((Rc.be (1+s.k) (s.v/4294967296)).map B8)
 ne:g≠o
theorem Qv(c:BitVec 16)(w:Lo):Calls prog 294 #[.int .u16 c.toNat] w λe w'=>e= .returned (.int .u16 (Rc.fair c.toNat:Nat))/\w=w':=by
 have hc:=c.isLt;by_cases h1:c.toNat<1
 ·have hf:Rc.fair c.toNat=1024:=by unfold Rc.fair;rw[ax (.inl h1)]
  rw[hf];have h1':(c.toNat:Int)<1:=aa;go_enter func294,ntmps294;go_wp2;go_ret;exact⟨rfl,rfl⟩
 ·by_cases h2:2048<=c.toNat;·have hf:Rc.fair c.toNat=1024:=(by unfold Rc.fair;rw[ax (.inr h2)]);rw[hf];have h1': ¬(c.toNat:Int)<1:=aa;have h2':(2048:Int)<=c.toNat:=aa;go_enter func294,ntmps294;go_wp2;go_ret;exact⟨rfl,rfl⟩
  ·have hf:Rc.fair c.toNat=c.toNat:=(by unfold Rc.fair;rw[au aa]);rw[hf];have h1': ¬(c.toNat:Int)<1:=aa;have h2': ¬(2048:Int)<=c.toNat:=aa;go_enter func294,ntmps294;go_wp2;go_ret;exact⟨rfl,rfl⟩
def et(one:Bool):Int:=if one then 1 else 0
theorem Eb(p:Nat)(one:Bool)(w:Lo)(h1:1<=p)(h2:p<=2047):Calls prog 295 #[.int .u16 p,.int .i64 (et one)] w λe w'=>e= .returned (.int .u16 (Rc.next p one:Nat))/\w=w':=by
 cases one
 ·have hn:((Rc.next p false:Nat):Int)=(p:Int)+(2048-(p:Int))/32:=by simp only[Rc.next,Bool.false_eq_true,if_false];omega
  have HN:=ae hn;clear hn;unfold et;simp only[Bool.false_eq_true,if_false];go_enter func295,ntmps295;go_wp2;go_ret;exact⟨aR (λn:Int=>Ending.returned (Value.int .u16 n)) HN.symm,rfl⟩
 ·have hn:((Rc.next p true:Nat):Int)=(p:Int)-(p:Int)/32:=by simp only[Rc.next,if_true];omega
  have HN:=ae hn;clear hn;unfold et;simp only[if_true];go_enter func295,ntmps295;go_wp2;go_ret;exact⟨aR (λn:Int=>Ending.returned (Value.int .u16 n)) HN.symm,rfl⟩
theorem acV(b:UInt8):((b.toNat:Int)+1)%256=((b+1).toNat:Int):=by rw[UInt8.toNat_add];simp
theorem Iy(i q g o n cap:Nat)(b:UInt8)(w:Lo)(hi:i<n)(_hn:n<=9223372036854775807)(hqo:q≠o)(hgo:g≠o)
  (cq:w.cell? ⟨q,0,none⟩=some (.pointer (some ⟨g,0,none⟩))) (cg:w.cell? ⟨g,2,none⟩=some (.slice (some ⟨o,0,none⟩) n cap))
  (co:w.cell? ⟨o,i,none⟩=some (.int .u8 b.toNat)) (fo:w.frozen? ⟨o,i,none⟩=false):
  Calls prog 297 #[.int .i64 i,.pointer (some ⟨q,0,none⟩)] w λe w'=>e= .returned (.bool (((b+1).toNat:Int)==0))/\w'=w.setCell ⟨o,i,none⟩ (B8 (b+1)):=by
 have axr:=acV b;have hb:=b.toNat_lt;generalize hs:b+1=s at*;have HS:=ae hs;clear hs;have e1:(⟨q,0,none⟩:Addr)≠⟨o,i,none⟩:=λe=>hqo (aR Addr.block e);have e2:(⟨g,2,none⟩:Addr)≠⟨o,i,none⟩:=λe=>hgo (aR Addr.block e);have d1:(w.setCell ⟨o,i,none⟩ (B8 s)).cell? ⟨q,0,none⟩=some (.pointer (some ⟨g,0,none⟩)):=(World.cell?_setCell_other _ _ _ _ (λe=>e1 e.symm)).trans cq;have d2:(w.setCell ⟨o,i,none⟩ (B8 s)).cell? ⟨g,2,none⟩=some (.slice (some ⟨o,0,none⟩) n cap):=(World.cell?_setCell_other _ _ _ _ (λe=>e2 e.symm)).trans cg;go_enter func297,ntmps297;go_wp2;go_ret;exact⟨rfl,rfl⟩
theorem Bg(h:w.heap[g]? =some (.cells #[a,b,c] t (0,0)))(u:Value):(w.setCell ⟨g,0,none⟩ u).heap[g]? =some (.cells #[u,b,c] t (0,0)):=by rw[heap_setCell_same w g 0 _ t u h];rfl
theorem qQ(h:w.heap[g]? =some (.cells #[a,b,c] t (0,0)))(u:Value):(w.setCell ⟨g,1,none⟩ u).heap[g]? =some (.cells #[a,u,c] t (0,0)):=by rw[heap_setCell_same w g 1 _ t u h];rfl
theorem Ud(h:w.heap[g]? =some (.cells #[a,b,c] t (0,0)))(u:Value):(w.setCell ⟨g,2,none⟩ u).heap[g]? =some (.cells #[a,b,u] t (0,0)):=by rw[heap_setCell_same w g 2 _ t u h];rfl
theorem dL{p:Addr}(h:w.ownsRow 0 e 1 (.slice (some ⟨o,0,none⟩) n cap) n xs)(hp:p.block≠o)(u:Value):(w.setCell p u).ownsRow 0 e 1 (.slice (some ⟨o,0,none⟩) n cap) n xs:=
 World.ownsRow.kept (row:=some p.block) h ⟨rfl,rfl,rfl,ah,λj _ hj=>heap_setCell_other _ _ j _ (λe=>hj (by simp[e]))⟩ (.inr (by simpa [Value.ownBlock]using λe=>hp e.symm))
theorem acW(x:Nat)(h:x<256)(h2:x≠255):((((UInt8.ofNat x+1:UInt8)).toNat:Int)==0)=false:=by rw[gQ,UInt8.toNat_add,fN];simp;omega
def Did(P:World->Prop)(e:Ending)(w':Lo):Prop:=e= .returned (.tuple #[])/\P w'
theorem Pb(g o cap:Nat)(s:Rc.St)(n:Nat)(w:Lo)(hE:ib w g o cap s)(hn:n<4294967296)(hk:1+s.k<=9223372036854775807):
  Calls prog 296 #[.pointer (some ⟨g,0,none⟩),.int .u32 n] w (Did λw'=>ib w' g o cap ⟨s.k,s.v+n,s.r⟩/\aM [g,o] w w'):=by
 have c0:w.cell? ⟨g,0,none⟩=some (.int .u32 ((s.v%4294967296:Nat):Int)):=by rw[aC _ _ _ _ _ _ hE.aE];rfl
 have f0:w.frozen? ⟨g,0,none⟩=false:=aS _ _ _ _ _ hE.aE;have tB:g<w.heap.size:=block_lt_of_cell c0;generalize Ue:s.v%4294967296=low at*;have xa:low<4294967296:=aa;have LZ:=ae Ue;clear Ue;by_cases aoB:low+n<4294967296
 ·have hq:((low:Int)+(n:Int))/4294967296=0:=by omega
  have hr:((low:Int)+(n:Int))%4294967296=(((low+n:Nat)):Int):=aa;go_enter func296,ntmps296;go_wp2_with fail;refine bA (results_none rfl _ _ _) rfl ⟨rfl,?_,?_⟩
  ·refine⟨?_,?_,hE.ne⟩;·rw[ee _ _ _ (by simpa using tB),Bg hE.aE];have e1:(s.v+n)%4294967296=low+n:=av LZ.out;show some (Obj.cells #[.int .u32 ((low:Int)+(n:Int)),_,_] _ _)=some (Obj.cells #[.int .u32 (((s.v+n)%4294967296:Nat):Int),_,_] _ _);rw[e1];rfl
   ·have e2:(s.v+n)/4294967296=s.v/4294967296:=av LZ.out;show World.ownsRow _ 0 _ 1 _ _ ((Rc.be (1+s.k) ((s.v+n)/4294967296)).map B8);rw[e2];exact World.ownsRow.alloc (dL hE.own hE.ne _) _
  ·exact((aM.refl _ _).setCell ah _).alloc _
 ·obtain⟨lo,yr⟩: ∃lo,low+n=lo+4294967296:=⟨low+n-4294967296,aa⟩
  have hq:((low:Int)+(n:Int))/4294967296=1:=aa;have hr:((low:Int)+(n:Int))%4294967296=(lo:Int):=aa;have c2:w.cell? ⟨g,2,none⟩=some (.slice (some ⟨o,0,none⟩) (1+s.k) cap):=by rw[aC _ _ _ _ _ _ hE.aE];rfl
  have hol:o<w.heap.size:=by have:=jO hE.own o rfl;exact this.2
  have fj:=hE.ne;have c2':(w.setCell ⟨g,0,none⟩ (.int .u32 lo)).cell? ⟨g,2,none⟩=some (.slice (some ⟨o,0,none⟩) (1+s.k) cap):=(World.cell?_setCell_other _ _ _ _ ah).trans c2;have ln:(1:Int)<=((1+s.k:Nat):Int):=aa;have aL:=hE.own;generalize Iz:1+s.k=m at*;have HM:=ae Iz;have HLO:=ae yr;clear Iz yr;go_enter func296,ntmps296;go_wp2_with fail;rw[hr];have Bh:((w.setCell ⟨g,0,none⟩ (.int .u32 lo)).alloc (.cells #[.pointer (some ⟨g,0,none⟩)] 217)).heap[g]? =some (.cells #[.int .u32 lo,.int .u32 (s.r:Int),.slice (some ⟨o,0,none⟩) m cap] 265 (0,0)):=by rw[ee _ _ _ (by simpa using tB)];have hb:=hE.aE;rw[HM.out]at hb;exact Bg hb _
  have Bi:((w.setCell ⟨g,0,none⟩ (.int .u32 lo)).alloc (.cells #[.pointer (some ⟨g,0,none⟩)] 217)).heap[w.heap.size]? =some (.cells #[.pointer (some ⟨g,0,none⟩)] 217 (0,0)):=by have:=heap_alloc_new (w.setCell ⟨g,0,none⟩ (.int .u32 lo)) (.cells #[.pointer (some ⟨g,0,none⟩)] 217);simpa using this
  have eh:((w.setCell ⟨g,0,none⟩ (.int .u32 lo)).alloc (.cells #[.pointer (some ⟨g,0,none⟩)] 217)).ownsRow 0 5 1 (.slice (some ⟨o,0,none⟩) m cap) m ((Rc.jS m 0 (s.v/4294967296)).map B8):=by rw[Rc.Iu];exact World.ownsRow.alloc (dL aL fj _) _
  have gW:aM [g,o] w ((w.setCell ⟨g,0,none⟩ (.int .u32 lo)).alloc (.cells #[.pointer (some ⟨g,0,none⟩)] 217)):=((aM.refl _ _).setCell ah _).alloc _;generalize(w.setCell ⟨g,0,none⟩ (.int .u32 lo)).alloc (.cells #[.pointer (some ⟨g,0,none⟩)] 217)=w1 at*;generalize hQ:w.heap.size=q at*;have hqg:g<q:=tB;have hqo:o<q:=hol;have HQ:=ae hQ;have tC: ∀w',w'.heap[g]? =some (.cells #[.int .u32 lo,.int .u32 (s.r:Int),.slice (some ⟨o,0,none⟩) m cap] 265 (0,0))->w'.ownsRow 0 5 1 (.slice (some ⟨o,0,none⟩) m cap) m ((Rc.be m (s.v/4294967296+1)).map B8)->ib w' g o cap ⟨s.k,s.v+n,s.r⟩:=by
   intro w' h1 h2;have e1:(s.v+n)%4294967296=lo:=(by have:=LZ.out;have:=HLO.out;omega);have e2:(s.v+n)/4294967296=s.v/4294967296+1:=(by have:=LZ.out;have:=HLO.out;omega);refine⟨?_,?_,fj⟩;·show w'.heap[g]? =some (.cells #[.int .u32 (((s.v+n)%4294967296:Nat):Int),.int .u32 (s.r:Int),.slice (some ⟨o,0,none⟩) (1+s.k) cap] _ (0,0));rw[e1,HM.out];exact h1
   ·show w'.ownsRow 0 _ 1 (.slice (some ⟨o,0,none⟩) (1+s.k) cap) (1+s.k) ((Rc.be (1+s.k) ((s.v+n)/4294967296)).map B8);rw[e2,HM.out];exact h2
  have abv:=ae tC;clear tC hr hq c0 c2 c2' f0 hE aL aoB hQ tB hol;generalize s.v/4294967296=V at*;go_loopw [6] (λi wr=> ∃t:Nat,t<=m/\i= .int .i64 ((m:Int)-1-(t:Int))/\Hid (V%256^t=256^t-1)/\wr.heap[g]? =some (.cells #[.int .u32 lo,.int .u32 (s.r:Int),.slice (some ⟨o,0,none⟩) m cap] 265 (0,0))/\wr.heap[q]? =some (.cells #[.pointer (some ⟨g,0,none⟩)] 217 (0,0))/\wr.ownsRow 0 5 1 (.slice (some ⟨o,0,none⟩) m cap) m ((Rc.jS m t V).map B8)/\aM [g,o] w wr) (λi _=>(intOf i+1).toNat);·exact⟨0,aa,aA,by simp[Hid,Nat.mod_one],Bh,Bi,eh,gW⟩
  ·
   clear Bh Bi eh gW;obtain⟨t,ht,rfl,dZ,nN,hqb,aL,dm⟩:=hrel;by_cases aV:t<m
   ·obtain⟨j,hj⟩: ∃j:Nat,j=m-1-t:=⟨_,rfl⟩
    have zo:(m:Int)-1-(t:Int)=j:=aa;have hjm:j<m:=aa;have cq:wr.cell? ⟨q,0,none⟩=some (.pointer (some ⟨g,0,none⟩)):=(by rw[aC _ _ _ _ _ _ hqb];rfl);have cg:wr.cell? ⟨g,2,none⟩=some (.slice (some ⟨o,0,none⟩) m cap):=(by rw[aC _ _ _ _ _ _ nN];rfl);have co:=aL.cellAt j aa;have fo:=aL.frozenAt j;rw[List.getElem?_map,hj,Rc.LX m t V aV,<-hj]at co;simp only[Option.map]at co;obtain⟨kQ,qx⟩:=aL.stored j (B8 (UInt8.ofNat (V/256^t%256)+1));rw[<-List.map_set]at kQ;have xD:aM [g,o] w (wr.setCell ⟨o,j,none⟩ (B8 (UInt8.ofNat (V/256^t%256)+1))):=dm.setCell ah _;have Uf:(wr.setCell ⟨o,j,none⟩ (B8 (UInt8.ofNat (V/256^t%256)+1))).heap[g]? =some (.cells #[.int .u32 lo,.int .u32 (s.r:Int),.slice (some ⟨o,0,none⟩) m cap] 265 (0,0)):=(heap_setCell_other _ _ _ _ fj).trans nN;have ahM:(wr.setCell ⟨o,j,none⟩ (B8 (UInt8.ofNat (V/256^t%256)+1))).heap[q]? =some (.cells #[.pointer (some ⟨g,0,none⟩)] 217 (0,0)):=(heap_setCell_other _ _ _ _ aH).trans hqb;have Pc:=ae (Iy j q g o m cap (UInt8.ofNat (V/256^t%256)) wr hjm hk aa fj cq cg co fo);have sY:0<=(j:Int):=aa;by_cases Qw:V/256^t%256=255
    ·have hz:UInt8.ofNat (V/256^t%256)+1=0:=(by rw[Qw];decide);rw[hz,hj,Rc.Iv m t V aV]at kQ;rw[hz]at Pc xD Uf ahM;have HN:=ae (Rc.Uc t V dZ.out Qw);have HJ:=ae hj;rw[<-hj]at kQ;clear hz qx co cq cg fo hj Qw;rw[zo];go_wp2_with fail;refine Pc.mono ?_;rintro e w' ⟨rfl,rfl⟩;go_wp2_with fail;go_roundw;case rel=>exact⟨t+1,aa,aR (Value.int .i64) aa,HN,Uf,ahM,kQ,xD⟩
     case measure=>simp[intOf]<;>omega
    ·have hx:=acW (V/256^t%256) (Nat.mod_lt _ aa) Qw;rw[hj,Rc.Iw m t V aV dZ.out Qw,<-hj]at kQ;rw[hx]at Pc;generalize UInt8.ofNat (V/256^t%256)+1=x at*;clear qx co cq cg fo hj Qw hx;rw[zo];go_wp2_with fail;refine Pc.mono ?_;rintro e w' ⟨rfl,rfl⟩;go_wp2_with fail;go_end0;exact⟨rfl,abv.out _ Uf kQ,xD⟩
   ·obtain rfl:t=m:=(by omega);rw[Rc.LY t V dZ.out]at aL;have acX:(t:Int)-1-(t:Int)= -1:=aa;rw[acX];go_wp2_with fail;go_end0;exact⟨rfl,abv.out _ nN aL,dm⟩
def FV(w:Lo)(g o:Nat)(t:Rc.St)(w':Lo):Prop:= ∃o' bW,ib w' g o' bW t/\aM [g,o] w w'/\(o'=o\/w.heap.size<=o')
theorem Ug(v lw:Nat)(h:v%4294967296=lw):IntKind.u8.wrap ((lw:Int)/16777216)=((UInt8.ofNat (v/16777216%256)).toNat:Int):=by rw[IntKind.wrap_u8',fN];omega
theorem acY(v lw:Nat)(h:v%4294967296=lw):((lw:Int)*256)%4294967296=((v*256%4294967296:Nat):Int):=aa
theorem Uh(k v:Nat):Rc.be (1+k) (v/4294967296)++[UInt8.ofNat (v/16777216%256)]=Rc.be (1+(k+1)) (v*256/4294967296):=by rw[<-m6,Rc.be,show v*256/4294967296=v/16777216 by omega,kW]
theorem Bj(h:w.heap[g]? =some (.cells #[a,b,c] t fr)):w.cell? ⟨g,0,none⟩=some a:=oW
theorem vo(h:w.heap[g]? =some (.cells #[a,b,c] t fr)):w.cell? ⟨g,1,none⟩=some b:=oW
theorem IA(h:w.heap[g]? =some (.cells #[a,b,c] t fr)):w.cell? ⟨g,2,none⟩=some c:=oW
theorem sy(N g o cap:Nat)(s:Rc.St)(w:Lo)(hE:ib w g o cap s)(hf:s.fits)(hk:1+s.k+N<=140737488355328)(hr:16777216<=s.r*256^N):
  Calls prog 293 #[.pointer (some ⟨g,0,none⟩)] w (Did (FV w g o (Rc.St.scale N s))):=by
 obtain⟨i,hi,qw,kC,me⟩:=info_parts tz;go_enter func293,ntmps293;go_wp2_with fail;go_loopg [6] N (λgk s6 wr=> ∃(o' bW:Nat) (t:Rc.St),ib wr g o' bW t/\t.fits/\1+t.k+gk<=140737488355328/\Hid (16777216<=t.r*256^gk)/\Rc.St.scale N s=Rc.St.scale gk t/\aM [g,o] w wr/\(o'=o\/w.heap.size<=o'));·exact⟨o,cap,s,hE,hf,hk,hr,rfl,aM.refl _ _,.inl rfl⟩
 ·
  obtain⟨o',bW,t,hT,qR,hkt,hrt,hsc,dm,Fw⟩:=hrel;have TD:=ae hsc;have c0:wr.cell? ⟨g,0,none⟩=some (.int .u32 ((t.v%4294967296:Nat):Int)):=Lx;have c1:wr.cell? ⟨g,1,none⟩=some (.int .u32 (t.r:Int)):=Lx;have c2:wr.cell? ⟨g,2,none⟩=some (.slice (some ⟨o',0,none⟩) (1+t.k) bW):=Lx;have f0:wr.frozen? ⟨g,0,none⟩=false:=aS _ _ _ _ _ hT.aE;have f1:wr.frozen? ⟨g,1,none⟩=false:=aS _ _ _ _ _ hT.aE;have f2:wr.frozen? ⟨g,2,none⟩=false:=aS _ _ _ _ _ hT.aE;clear hsc hE;by_cases aV:t.r<16777216
  ·have Ui:(t.r:Int)<16777216:=(by omega);cases gk with
   | zero=>have:=hrt.out;simp at this;omega
   | succ gk=>
    generalize hlw:t.v%4294967296=lw at*;have ahO:=Ug t.v lw hlw;have hup:=ae (acY t.v lw hlw);have xa:lw<4294967296:=aa;have ZK:=ae hlw;clear hlw;have hub:=ae (Uh t.k t.v);generalize hx:UInt8.ofNat (t.v/16777216%256)=x at*;have tB:g<wr.heap.size:=block_lt_of_cell c0;have Dx:=World.ownsRow.alloc hT.own (.cells #[.int .u8 x.toNat] 5);have yo:=cell_one_new wr (B8 x) 5;have yp:1+t.k+1<=maxLen:=iJ;have hby:(1+t.k+1)*1<=140737488355328:=aa;have qT:0<=(wr.alloc (.cells #[.int .u8 x.toNat] 5)).drew.heap.size:=cI _;have hHH:(wr.alloc (.cells #[.int .u8 x.toNat] 5)).drew.heap.size=wr.heap.size+1:=(by show(wr.alloc _).heap.size=_;simp);have HH:=ae hHH;clear hHH;have Uj:=hT.aE;rw[ZK.out]at Uj;have fj:=hT.ne;have nk: ∀w2:Lo,(wr.alloc (.cells #[.int .u8 x.toNat] 5)).drew.grownBy w2 (Value.ownBlock (.slice (some ⟨o',0,none⟩) (1+t.k) bW))->w2.heap[g]? =some (.cells #[.int .u32 (lw:Int),.int .u32 (t.r:Int),.slice (some ⟨o',0,none⟩) (1+t.k) bW] 265 (0,0)):=by
     intro w2 h;refine(h.block g ?_ ?_).trans ((ee wr _ g tB).trans Uj);·show g<(wr.alloc _).heap.size;simp;omega
     ·simpa [Value.ownBlock]using fj
    have sA:=ae nk;clear nk Uj;go_wp2_with fail;go_region_law (refine step_append_lies (P:=prog) _ rfl (.tmp 11) (.tmp 18) 22 rfl 0 5 i (.int .u8 0) 1 1 underlying22 hi qw kC me rfl ar (.slice (some ⟨o',0,none⟩) (1+t.k) bW) (1+t.k) _ rfl Dx.drew ⟨wr.heap.size,0,none⟩ 1 1 [B8 x] rfl rfl yo (nM [x]) ar yp hby qT (wr.heap.size+1) HH.out ?_;intro g2 nQ w2 cG gB acZ mr;have ZL:=sA.out w2 gB;have c22:=IA ZL;have f22:=aS w2 g 2 _ _ ZL)
    all_goals
     have bm:=Ud ZL (.slice (some ⟨g2,0,none⟩) (1+t.k+1) nQ);have Y8:g≠g2:=by
      rcases acZ with h|h;·have e:o'=g2:=(by simpa [Value.ownBlock]using h);rw[<-e];exact fj
      ·omega
     have bJ:=dL (p:=⟨g,2,none⟩) cG Y8 (.slice (some ⟨g2,0,none⟩) (1+t.k+1) nQ);have dv:aM [g,o] w w2:=by
      refine(dm.alloc (.cells #[.int .u8 x.toNat] 5)).drew.grown gB ?_;rcases Fw with h|h;·exact .inl fO
      ·exact .inr h
     have dB:=dv.setCell (p:=⟨g,2,none⟩) (.inl ah) (.slice (some ⟨g2,0,none⟩) (1+t.k+1) nQ);have dz:g2=o\/w.heap.size<=g2:=by
      rcases acZ with h|h;·have e:o'=g2:=(by simpa [Value.ownBlock]using h);rw[<-e];exact Fw
      ·have:=dm.size;exact .inr aa
     generalize w2.setCell ⟨g,2,none⟩ (.slice (some ⟨g2,0,none⟩) (1+t.k+1) nQ)=w3 at*;have d0:=Bj bm;have d1:=vo bm;have e0:=aS w3 g 0 _ _ bm;have e1:=aS w3 g 1 _ _ bm;have jC:=qQ (Bg bm (.int .u32 ((t.v*256%4294967296:Nat):Int))) (.int .u32 ((t.r*256:Nat):Int));have jD:=dL (p:=⟨g,1,none⟩) (dL (p:=⟨g,0,none⟩) bJ Y8 (.int .u32 ((t.v*256%4294967296:Nat):Int))) Y8 (.int .u32 ((t.r*256:Nat):Int));have lq:=(dB.setCell (p:=⟨g,0,none⟩) (.inl ah) (.int .u32 ((t.v*256%4294967296:Nat):Int))).setCell (p:=⟨g,1,none⟩) (.inl ah) (.int .u32 ((t.r*256:Nat):Int));have HL:=ae jC;clear jC ZL gB acZ cG dv c22 f22 bJ dB c0 c1 c2 f0 f1 f2 ahO Dx yo;go_wp2_with fail;rw[hup.out,show((t.r:Int)*256)=((t.r*256:Nat):Int)from aa];go_roundg gk;case measure=>omega
     case rel=>
      refine⟨g2,nQ,t.up,⟨?_,?_,Y8⟩,t.FU qR aV,by show 1+(t.k+1)+gk<=_;omega,?_,?_,lq,dz⟩;·show _=some (Obj.cells #[_,_,.slice (some ⟨g2,0,none⟩) (1+(t.k+1)) nQ] _ _);rw[<-m6];exact HL.out
      ·show World.ownsRow _ 0 _ 1 (.slice (some ⟨g2,0,none⟩) (1+(t.k+1)) nQ) (1+(t.k+1)) ((Rc.be (1+(t.k+1)) (t.v*256/4294967296)).map B8);rw[<-hub.out,iI,<-m6];exact jD
      ·show 16777216<=t.r*256*256^gk;have:=hrt.out;rw[cS,dR (256^gk),<-qG]at this;exact this
      ·rw[TD.out,Rc.St.scale,ax aV]
  ·have Dk: ¬(t.r:Int)<16777216:=(by omega);go_wp2_with fail;go_end0;refine⟨rfl,o',bW,?_,dm,Fw⟩;have da:Rc.St.scale gk t=t:=by
    cases gk with
    | zero=>rfl
    | succ gk=>rw[Rc.St.scale,au aV]
   rw[TD.out,da];exact hT
def Pd(w:Lo)(g o:Nat)(bit:Int)(p:Nat)(t:Rc.St)(e:Ending)(w':Lo):Prop:=
 e= .returned (.tuple #[.int .i64 bit,.int .u16 p])/\FV w g o t w'
theorem Qx(r p:Nat)(hr:r<4294967296)(hp:p<=2047):(((r:Int)/2048)*(p:Int))%4294967296=((r/2048*p:Nat):Int):=by have h:r/2048*p<=r/2048*2047:=AH _ hp;have e:((r:Int)/2048)*(p:Int)=((r/2048*p:Nat):Int):=ah;rw[e];omega
theorem ZM(g o cap:Nat)(s:Rc.St)(c:BitVec 16)(bit:Int)(w:Lo)(hE:ib w g o cap s)(hs:s.ok)(hk:1+s.k+2<=140737488355328):
  Calls prog 291 #[.pointer (some ⟨g,0,none⟩),.int .u16 c.toNat,.int .i64 bit] w
   (Pd w g o (et (bit !=0)) (Rc.next (Rc.fair c.toNat) (bit !=0)) (Rc.St.scale 2 (s.pick (Rc.fair c.toNat) (bit !=0)))):=by
 obtain⟨Ld,t8⟩:=Rc.yq c.toNat;have hv:=ae (λw=>Qv c w);generalize Rc.fair c.toNat=p at*;have hsr:=hs.1.2;have ZN:=Qx s.r p hsr t8;have aoE:s.r/2048*p<=s.r/2048*2047:=AH _ t8;generalize Qy:s.r/2048*p=oe at*;have IB:oe<4294967296:=aa;have Dy:oe<=s.r:=aa;have Uk:=ae Qy;clear Qy;have c1:=vo hE.aE;have f1:=aS w g 1 _ _ hE.aE;by_cases hb:bit=0
 ·subst hb;obtain⟨Ul,Ho⟩:=s.od p false hs Ld t8;have Le:=ae (λw=>Eb p false w Ld t8);have e0:et ((0:Int) !=0)=0:=rfl;rw[e0,show((0:Int) !=0)=false from rfl];have L3:s.pick p false=⟨s.k,s.v,oe⟩:=by rw[<-Uk.out];rfl
  rw[L3]at Ul Ho ⊢;have vq:ib (w.setCell ⟨g,1,none⟩ (.int .u32 (oe:Int))) g o cap ⟨s.k,s.v,oe⟩:=⟨qQ hE.aE _,dL hE.own hE.ne _,hE.ne⟩
  have Hp:=ae (sy 2 g o cap ⟨s.k,s.v,oe⟩ _ vq Ul (by show 1+s.k+2<=_;exact hk) (by show 16777216<=oe*256^2;have:8192<=oe:=Ho;omega));go_enter func291,ntmps291;go_wp2_with fail;refine(hv _).mono ?_;rintro e w' ⟨rfl,rfl⟩;go_wp2_with fail;refine(Le _).mono ?_;rintro e w' ⟨rfl,rfl⟩;go_wp2_with fail;refine Hp.mono ?_;rintro e w1 ⟨rfl,o',bW,IC,dm,ho⟩;go_wp2;go_ret2;exact⟨rfl,o',bW,IC,((aM.refl _ _).setCell (p:=⟨g,1,none⟩) (.inl ah) _).trans dm ah,by rcases ho with h|h;exact .inl h;exact .inr qH⟩
 ·have hbt:(bit !=0)=true:=by rw[bne_iff_ne];exact hb
  obtain⟨Ul,Ho⟩:=s.od p true hs Ld t8;have Le:=ae (λw=>Eb p true w Ld t8);rw[hbt,show et true=1 from rfl];have L3:s.pick p true=⟨s.k,s.v+oe,s.r-oe⟩:=by rw[<-Uk.out];rfl
  rw[L3]at Ul Ho ⊢;have vr:=ae (Pb g o cap s oe w hE IB aa);have axv:(bit==0)=false:=beq_eq_false_iff_ne.2 hb;have aoF:(s.r:Int)-(oe:Int)=((s.r-oe:Nat):Int):=aa;go_enter func291,ntmps291;go_wp2_with fail;refine(hv _).mono ?_;rintro e w' ⟨rfl,rfl⟩;go_wp2_with fail;refine(Le _).mono ?_;rintro e w' ⟨rfl,rfl⟩;go_wp2_with fail;refine vr.mono ?_;rintro e w1 ⟨rfl,Qz,ID⟩;have d1:=vo Qz.aE;have e1:=aS w1 g 1 _ _ Qz.aE;have vq:ib (w1.setCell ⟨g,1,none⟩ (.int .u32 ((s.r-oe:Nat):Int))) g o cap ⟨s.k,s.v+oe,s.r-oe⟩:=⟨qQ Qz.aE _,dL Qz.own Qz.ne _,Qz.ne⟩
  have Hp:=ae (sy 2 g o cap ⟨s.k,s.v+oe,s.r-oe⟩ _ vq Ul (by show 1+s.k+2<=_;exact hk) (by show 16777216<=(s.r-oe)*256^2;have:8192<=s.r-oe:=Ho;omega));simp only at d1;go_wp2_with fail;refine Hp.mono ?_;rintro e w2 ⟨rfl,o',bW,IC,dm,ho⟩;go_wp2;go_ret2;have dF:=ID.size;exact⟨rfl,o',bW,IC,(ID.setCell (p:=⟨g,1,none⟩) (.inl ah) _).trans dm ah,by rcases ho with h|h;exact .inl h;exact .inr (by simp at h;omega)⟩
theorem IE:Rc.be (1+0) (0/4294967296)=[0]:=ar
def Ec:Rc.St:=⟨0,0,4294967295⟩
theorem Um:Ec.ok:=⟨⟨ar,ar⟩,ar⟩
def ZO(w:Lo)(e:Ending)(w':Lo):Prop:= ∃g o cap,e= .returned (.pointer (some ⟨g,0,none⟩))/\ib w' g o cap Ec/\Below w.heap.size w w'/\w.heap.size<=g/\w.heap.size<=o
theorem ZP(w:Lo):Calls prog 151 #[] w (ZO w):=by
 go_enter func151,ntmps151;go_wp2;go_ret;refine⟨w.heap.size+1,w.heap.size,1,rfl,⟨?_,?_,aa⟩,(az).alloc ah _,aa,aF _⟩;·have h:=heap_alloc_new (w.alloc (.cells #[.int .u8 0] 5)) (.cells #[.int .u32 0,.int .u32 4294967295,.slice (some ⟨w.heap.size,0,none⟩) 1 1] 265);have dF:(w.alloc (.cells #[.int .u8 0] 5)).heap.size=w.heap.size+1:=ah;rw[dF]at h;exact h
 ·refine World.ownsRow.alloc ?_ _;show World.ownsRow _ 0 _ 1 (.slice (some ⟨w.heap.size,0,none⟩) (1+0) 1) (1+0) ((Rc.be (1+0) (0/4294967296)).map B8);rw[IE];exact World.ownsRow_lit (base:=0) (e:=5) (size:=1) w #[.int .u8 0] 1 (cI _) iJ ar
namespace Rc
theorem St.IG(N:Nat)(s:St)(hf:s.fits)(hr:16777216<=s.r*256^N):(St.scale N s).ok:=by
 induction N generalizing s with
 | zero=>exact⟨hf,by show 16777216<=s.r;simpa using hr⟩
 | succ N ih=>
  rw[St.scale];by_cases h:s.r<16777216;·rw[ax h];refine ih _ (s.FU hf h) ?_;show 16777216<=s.r*256*256^N;rw[cS,dR (256^N),<-qG]at hr;exact hr
  ·rw[au h];exact⟨hf,aa⟩
theorem St.Pe(N:Nat)(s:St):(St.scale N s).k<=s.k+N:=by
 induction N generalizing s with
 | zero=>exact aF _
 | succ N ih=>
  rw[St.scale];by_cases h:s.r<16777216;·rw[ax h];have:=ih s.up;have e:s.up.k=s.k+1:=rfl;omega
  ·rw[au h];omega
theorem St.ac0(s:St)(p:Nat)(one:Bool):(s.pick p one).k=s.k:=by unfold St.pick;cases one<;>rfl
def St.half(s:St)(one:Bool):St:=if one then⟨s.k,s.v+s.r/2,s.r/2⟩else⟨s.k,s.v,s.r/2⟩
theorem St.xE(s:St)(one:Bool)(h:s.ok):(s.half one).fits/\8388608<=(s.half one).r:=by
 obtain⟨⟨ZJ,hf2⟩,hr⟩:=h;unfold St.half St.fits;cases one;·simp only[Bool.false_eq_true,if_false];omega
 ·simp only[if_true];omega
def St.plain(s:St):Nat->Nat->St
 | _,0=>s
 | x,n+1=>St.scale 1 ((St.plain s (x/2) n).half (x%2==1))
theorem St.ac1(s:St)(one:Bool):(s.half one).k=s.k:=by unfold St.half;cases one<;>rfl
theorem St.Bk(s:St)(h:s.ok)(n x:Nat):(s.plain x n).ok/\(s.plain x n).k<=s.k+n:=by
 induction n generalizing x with
 | zero=>exact⟨h,aF _⟩
 | succ n ih=>
  obtain⟨h1,h2⟩:=ih (x/2);obtain⟨hf,hr⟩:=(s.plain (x/2) n).xE (x%2==1) h1;refine⟨St.IG 1 _ hf aa,?_⟩;have:=St.Pe 1 ((s.plain (x/2) n).half (x%2==1));rw[St.ac1]at this;show(St.scale 1 _).k<=_;omega
end Rc
def QA(w:Lo)(g o:Nat)(x:Nat)(t:Rc.St)(e:Ending)(w':Lo):Prop:=e= .returned (.int .u32 x)/\FV w g o t w'
def many(n:Int):Nat:=(min (max n 0) 32).toNat
theorem Pf(x m j:Nat)(h:j<m):x%2^m/2^j%2=x/2^j%2:=by
 have e:2^m=2^j*2^(m-j):=by rw[<-Nat.pow_add,show j+(m-j)=m by omega]
 rw[e,Nat.mod_mul_right_div_self];obtain⟨d,hd⟩: ∃d,m-j=d+1:=⟨m-j-1,aa⟩
 rw[hd,cS,Nat.mod_mul_left_mod]
theorem Un(x j:Nat)(hx:x<2^32):(bits .and .u32 ((x:Int)/2^j) 1==1)=(x/2^j%2==1):=by have hle:x/2^j<=x:=Nat.div_le_self _ _;have e:(x:Int)/2^j=((x/2^j:Nat):Int):=ah;rw[e,show(1:Int)=((1:Nat):Int)from rfl,u32_and_nat _ _ aa aa,nat_mask1,Bool.eq_iff_iff];simp;omega
theorem masked(x t:Nat)(hx:x<2^32)(ht:t<=32):bits .and .u64 (x:Int) (IntKind.u64.wrap (IntKind.u64.wrap (2^t)-1))%4294967296=((x%2^t:Nat):Int):=by
 have h1:1<=2^t:=ko;have h2:2^t<=2^32:=fk aa ht;have e:IntKind.u64.wrap (IntKind.u64.wrap (2^t)-1)=((2^t-1:Nat):Int):=by rw[show(2:Int)^t=((2^t:Nat):Int) by simp,IntKind.wrap_u64,IntKind.wrap_u64];omega
 have hle:x%2^t<=x:=Nat.mod_le _ _;rw[e,u64_and_nat _ _ aa aa,Nat.and_two_pow_sub_one_eq_mod];omega
theorem QB(g o cap:Nat)(s:Rc.St)(x:BitVec 32)(n:Int)(w:Lo)(hE:ib w g o cap s)(hs:s.ok)(hk:1+s.k+40<=140737488355328):
  Calls prog 292 #[.pointer (some ⟨g,0,none⟩),.int .u32 x.toNat,.int .i64 n] w
   (QA w g o (x.toNat%2^many n) (s.plain (x.toNat%2^many n) (many n))):=by
 go_enter func292,ntmps292;go_upto_region 3 with(fail)
 go_cut [2] (λs2 wx=>w=wx/\s2= .int .i64 ((many n:Nat):Int));case first=>
  go_wp2_with fail
  all_goals
   go_meet;refine⟨rfl,aR (Value.int .i64) ?_⟩;unfold many;omega
 case rest=>
  obtain⟨rfl,rfl⟩:=hcut;have hm:many n<=32:=by unfold many;omega
  generalize many n=m at*;go_wp2_with fail;generalize hX:x.toNat%2^m=X at*;have HX:=ae hX;clear hX;go_loopw [7] (λi wr=> ∃(t o' bW:Nat),t<=m/\i= .int .i64 ((m:Int)-1-(t:Int))/\ib wr g o' bW (s.plain (X/2^(m-t)) t)/\aM [g,o] w wr/\(o'=o\/w.heap.size<=o')) (λi _=>(intOf i+1).toNat);·exact⟨0,o,cap,aa,aA,hE,aM.refl _ _,.inl rfl⟩
  ·
   obtain⟨t,o',bW,ht,rfl,hT,dm,Fw⟩:=hrel;obtain⟨Uo,L3⟩:=s.Bk hs t (X/2^(m-t));by_cases aV:t<m
   ·obtain⟨j,hj⟩: ∃j:Nat,j=m-1-t:=⟨_,rfl⟩
    have zo:(m:Int)-1-(t:Int)=j:=aa;have Bl:s.plain (X/2^(m-(t+1))) (t+1)=Rc.St.scale 1 ((s.plain (X/2^(m-t)) t).half (x.toNat/2^j%2==1)):=(by have e1:m-(t+1)=j:=aa;have e2:X/2^j/2=X/2^(m-t):=(by rw[kW,<-cS,show m-t=j.succ by omega]);have e3:X/2^j%2=x.toNat/2^j%2:=(by rw[<-HX.out];exact Pf _ _ _ aa);rw[e1,Rc.St.plain,e2,e3]);have HN:=ae Bl;generalize s.plain (X/2^(m-t)) t=p at*;have c1:=vo hT.aE;have f1:=aS wr g 1 _ _ hT.aE;have II:=Un x.toNat j x.isLt;have axw:j<32:=aa;generalize(x.toNat/2^j%2==1)=b at*;obtain⟨ZQ,hhr⟩:=p.xE b Uo;clear Bl hE;rw[zo];have HJ:=ae hj;have HJI:=ae zo;clear hj zo;have nR:(p.r:Int)/2=((p.r/2:Nat):Int):=aa;have Ho:=Uo.1.2;have ac2:p.r/2<4294967296:=aa;generalize hrh:p.r/2=rh at*;have HRH:=ae hrh;clear hrh;have at6:=dm.size;cases b with
    | false=>
     have hph:p.half false=⟨p.k,p.v,rh⟩:=(by rw[<-HRH.out];rfl);rw[hph]at ZQ hhr HN;have vq:ib (wr.setCell ⟨g,1,none⟩ (.int .u32 (rh:Int))) g o' bW ⟨p.k,p.v,rh⟩:=⟨qQ hT.aE _,dL hT.own hT.ne _,hT.ne⟩
     have Hp:=ae (sy 1 g o' bW ⟨p.k,p.v,rh⟩ _ vq ZQ (by show 1+p.k+1<=_;omega) Fv);go_wp2_with fail;refine Hp.mono ?_;rintro e w2 ⟨rfl,o2,nQ,IC,dv,dz⟩;go_wp2_with fail;go_roundw;case rel=>
      have hj:=HJ.out;refine⟨t+1,o2,nQ,aa,aR (Value.int .i64) aa,by rw[HN.out];exact IC,(dm.setCell (p:=⟨g,1,none⟩) (.inl ah) _).trans dv ?_,?_⟩
      ·intro i hi;simp at hi;rcases hi with rfl|rfl
       ·exact .inl ah
       ·rcases Fw with h|h;·exact .inl fO
        ·exact .inr h
      ·rcases dz with h|h;·rw[h];exact Fw
       ·exact .inr (by simp at h;omega)
     case measure=>have hj:=HJ.out;simp[intOf]<;>omega
    | true=>
     have hph:p.half true=⟨p.k,p.v+rh,rh⟩:=(by rw[<-HRH.out];rfl);rw[hph]at ZQ hhr HN;have hE0:ib (wr.setCell ⟨g,1,none⟩ (.int .u32 (rh:Int))) g o' bW ⟨p.k,p.v,rh⟩:=⟨qQ hT.aE _,dL hT.own hT.ne _,hT.ne⟩
     have vr:=ae (Pb g o' bW ⟨p.k,p.v,rh⟩ rh _ hE0 ac2 (by show 1+p.k<=_;omega));go_wp2_with fail;refine vr.mono ?_;rintro e w1 ⟨rfl,vq,ID⟩;have Hp:=ae (sy 1 g o' bW ⟨p.k,p.v+rh,rh⟩ _ vq ZQ (by show 1+p.k+1<=_;omega) Fv);go_wp2_with fail;refine Hp.mono ?_;rintro e w2 ⟨rfl,o2,nQ,IC,dv,dz⟩;go_wp2_with fail;have hsa:=ID.size;have TE: ∀i∈[g,o'],i∈[g,o]\/w.heap.size<=i:=by
      intro i hi;simp at hi;rcases hi with rfl|rfl
      ·exact .inl ah
      ·rcases Fw with h|h;·exact .inl fO
       ·exact .inr h
     go_roundw;case rel=>
      have hj:=HJ.out;refine⟨t+1,o2,nQ,aa,aR (Value.int .i64) aa,by rw[HN.out];exact IC,((dm.setCell (p:=⟨g,1,none⟩) (.inl ah) _).trans ID TE).trans dv TE,?_⟩;rcases dz with h|h;·rw[h];exact Fw
      ·exact .inr (by simp at hsa;omega)
     case measure=>have hj:=HJ.out;simp[intOf]<;>omega
   ·have htm:t=m:=(by omega);subst htm;have hp0:X/2^(t-t)=X:=ah;rw[hp0]at hT;go_wp2;go_ret;exact⟨by rw[masked _ _ x.isLt hm,HX.out];rfl,o',bW,hT,dm,Fw⟩
theorem IJ(h:w.ownsRow 0 e 1 (.slice (some ⟨o,0,none⟩) n cap) n xs)(ho:w'.heap[o]? =w.heap[o]?):w'.ownsRow 0 e 1 (.slice (some ⟨o,0,none⟩) n cap) n xs:=by
 rcases h with⟨h1,h2|⟨g,bW,cur,h2,h3,h4,h5⟩⟩
 ·exact⟨h1,.inl h2⟩
 ·injection h2 with e1 e2 e3;injection e1 with e1;injection e1 with e1;subst e1 e3;exact⟨h1,.inr ⟨o,cap,cur,rfl,h3,ho.trans h4,h5⟩⟩
theorem ib.aU{s:Rc.St}(h:ib w g o cap s)(hg:w'.heap[g]? =w.heap[g]?)(ho:w'.heap[o]? =w.heap[o]?):ib w' g o cap s:=
 ⟨hg.trans h.aE,IJ h.own ho,h.ne⟩
theorem ib.lt{w:Lo}{g o cap:Nat}{s:Rc.St}(h:ib w g o cap s):g<w.heap.size/\o<w.heap.size:=
 ⟨block_lt_of_cell (Bj h.aE),(h.own.lt o rfl).2⟩
namespace Rd
structure St where
 pos:Nat
 c:Nat
 r:Nat
 out:Bool
end Rd
theorem s53{e:Value}(h:w.heap[g]? =some (.cells #[a,b,c,d,e] t (0,0)))(u:Value):(w.setCell ⟨g,3,none⟩ u).heap[g]? =some (.cells #[a,b,c,u,e] t (0,0)):=by rw[heap_setCell_same w g 3 _ t u h];rfl
theorem s54{e:Value}(h:w.heap[g]? =some (.cells #[a,b,c,d,e] t (0,0)))(u:Value):(w.setCell ⟨g,4,none⟩ u).heap[g]? =some (.cells #[a,b,c,d,u] t (0,0)):=by rw[heap_setCell_same w g 4 _ t u h];rfl
theorem cT(w:Lo):Below w.heap.size w w.drew:=(aP _ _).drew



theorem aZ.apart{t':TypeId}(h:aZ t base w v l){cs:Array Value}{x:Nat×Nat}(hC:w.heap[C]? =some (.cells cs t' x))(fj:t≠t'):v.ownBlock≠some C:=by
 intro e;rcases h with⟨_,⟨rfl,_⟩|⟨g,cap,cur,rfl,_,hg,_⟩⟩
 ·cases e
 ·injection e with e;subst e;rw[hC]at hg;injection hg with hg;injection hg with _ hg _;exact fj hg.symm
abbrev Zh(r:R4):List Value:=[.int .i64 r.1,.int .i64 r.2.1,.int .i64 r.2.2.1,.int .i64 r.2.2.2]
def QR(r:R4)(q:Int):Int:=r4 r.1 r.2.1 r.2.2.1 r.2.2.2 q.toNat
structure dj(w:Lo)(C base:Nat)(lc lp pb st:Int)(r:R4)(P:List Nat)(vR vP:Value):Prop where
 box:w.heap[C]? =some (.cells [.int .i64 lc,.int .i64 lp,.int .i64 pb,.int .i64 st,vR,vP].toArray 175 (0,0))
 gX:aZ 3 base w vR (Zh r)
 ps:aZ 153 base w vP (P.map λx=> .int .u16 (x:Nat))
theorem dj.below{r:R4}(h:dj w C base lc lp pb st r P vR vP)(hb:Below w.heap.size w w'):dj w' C base lc lp pb st r P vR vP:=
 ⟨(hb.block _ (bU h.box)).trans h.box,h.gX.below hb,h.ps.below hb⟩
theorem dj.cells{r:R4}(h:dj w C base lc lp pb st r P vR vP):
  w.cell? ⟨C,3,none⟩=some (.int .i64 st)/\w.cell? ⟨C,4,none⟩=some vR/\w.cell? ⟨C,5,none⟩=some vP/\(∀i,w.frozen? ⟨C,i,none⟩=false)/\
  ∃g cap,vR= .slice (some ⟨g,0,none⟩) 4 cap/\4<=cap/\cap<=9223372036854775807/\w.cell? ⟨g,0,none⟩=some (.int .i64 r.1)/\w.cell? ⟨g,1,none⟩=some (.int .i64 r.2.1)/\w.cell? ⟨g,2,none⟩=some (.int .i64 r.2.2.1)/\w.cell? ⟨g,3,none⟩=some (.int .i64 r.2.2.2)/\base<=g/\g<w.heap.size:=by
 obtain⟨g,cap,e,hg,tB,hc,hm,cZ⟩:=h.gX.bT (show 0<4 by decide);refine⟨?_,?_,?_,λi=>aS _ _ _ _ _ h.box,g,cap,e,hc,hm,cZ 0 (show 0<4 by decide),cZ 1 (show 1<4 by decide),cZ 2 (show 2<4 by decide),cZ 3 (show 3<4 by decide),hg,tB⟩;·rw[aC w _ _ _ _ _ h.box];rfl
 ·rw[aC w _ _ _ _ _ h.box];rfl
 ·rw[aC w _ _ _ _ _ h.box];rfl
def kt(r:R4)(n k l d q:Int):Bool:=
 if k=1 then decide (2<=l/\l<=273/\1<=d/\d<=n/\d<=4294967295)
 else if k=2 then decide (0<=q/\q<=3/\QR r q<=n/\((2<=l/\l<=273)\/(l=1/\q=0)))
 else decide (k=0)
def nu(r:R4)(k d q:Int):Int:=if k=1 then d else if k=2 then QR r q else 0
theorem xN{W1:Lo}{v0 v1 v2 v3 v4:Value}(ek:w.alloc (.cells #[v0,v1,v2,v3,v4] 183)=W1):W1.cell? ⟨w.heap.size,0,none⟩=some v0/\W1.cell? ⟨w.heap.size,1,none⟩=some v1/\W1.cell? ⟨w.heap.size,2,none⟩=some v2/\W1.cell? ⟨w.heap.size,3,none⟩=some v3/\W1.cell? ⟨w.heap.size,4,none⟩=some v4/\Below w.heap.size w W1:=by have hr:W1.heap[w.heap.size]? =some (.cells [v0,v1,v2,v3,v4].toArray 183 (0,0)):=LC;refine⟨?_,?_,?_,?_,?_,AV⟩<;>(rw[aC W1 _ _ _ _ _ hr];rfl)
def Gg(k:Int)(b:UInt8)(l d q:Int):Value:=if k=0 then mq 0 b 0 0 0 else if k=1 then mq 1 0 l d 0 else mq 2 0 l 0 q
section
theorem iC(n:Nat)(hn:n<=30)(w:Lo):Calls prog 122 #[.int .i64 n] w λe w'=>e= .returned (.int .i64 (2^n:Nat))/\w=w':=by
 have qV:(n:Int)<=30:=aa;go_enter func122,ntmps122;go_wp2_with fail;go_loopw [3,4] (λp i wr=> ∃(k:Nat),k<=n/\i= .int .i64 k/\p= .int .i64 (2^k:Nat)/\wr=w) (λ_ i _=>n-(intOf i).toNat);·exact⟨0,aa,rfl,rfl,rfl⟩
 ·
  obtain⟨k,hk,rfl,rfl,rfl⟩:=hrel;have HP:Hid (2^(k+1)=2*2^k):=ae (by rw[cS];omega);have ZN:2^k<=2^30:=fk ar aa;have e30:(2:Nat)^30=1073741824:=ar;rw[e30]at ZN;have⟨p,hp⟩:=ex (2^k);rw[hp]at HP ZN ⊢;have sH:(p:Int)<=1073741824:=aa;by_cases hkn:k<n;·have xO:(k:Int)<n:=(by omega);clear hp e30;go_wp2_with fail;exact⟨⟨k+1,aa,aA,by rw[HP.out];congr 1,trivial⟩,fP⟩
  ·obtain rfl:k=n:=(by omega);have My:=ae hp;clear hp e30;go_wp2;go_ret;exact⟨by rw[My.out];rfl,rfl⟩
theorem adI:Elem 173 153 (.int .u16 0) 2:=⟨underlying173,ak,rfl⟩
theorem aiU:Elem 172 3 (.int .i64 0) 8:=⟨underlying172,ak,rfl⟩
section
variable{w w':Lo}{C base:Nat}{lc lp pb st:Int}{r:R4}{P P':List Nat}{vR vP vP':Value}
theorem dj.lt(h:dj w C base lc lp pb st r P vR vP):C<w.heap.size:=(bU h.box)
theorem dj.Vj(h:dj w C base lc lp pb st r P vR vP):vR.ownBlock≠some C:=h.gX.apart h.box ar
theorem dj.Gh(h:dj w C base lc lp pb st r P vR vP):vP.ownBlock≠some C:=h.ps.apart h.box ar
theorem dj.h_(h:dj w C base lc lp pb st r P vR vP)(g:Nat)(hg:vR.ownBlock=some g):vP.ownBlock≠some g:=by
 rcases h.gX with⟨_,⟨rfl,_⟩|⟨g',cap,cur,rfl,_,hh,_⟩⟩
 ·cases hg
 ·injection hg with hg;subst hg;exact h.ps.apart hh ar
theorem aZ.setOther{t:TypeId}{base:Nat}{w:Lo}{v:Value}{l:List Value}(h:aZ t base w v l){p:Addr}(hp:v.ownBlock≠some p.block)(u:Value):aZ t base (w.setCell p u) v l:=
 h.aU λg hg=>af _ _ _ _ (λe=>hp (by rw[hg,e]))
theorem dj.aiV(h:dj w C base lc lp pb st r P vR vP)(hg:w.grownBy w' vP.ownBlock)(ho:aZ 153 base w' vP' (P'.map λx=> .int .u16 (x:Nat)))(hC:vP'.ownBlock≠some C):dj (w'.setCell ⟨C,5,none⟩ vP') C base lc lp pb st r P' vR vP':=by have hb:w'.heap[C]? =_:=(hg.block C h.lt (λe=>h.Gh e.symm)).trans h.box;refine⟨heap_set hb 5 vP',?_,ho.setOther hC _⟩;exact(h.gX.grown hg (λg e=>h.h_ g e)).setOther h.Vj _
end
theorem Px(k:Nat):((List.replicate k 1024).map (λx:Nat=>Value.int .u16 (x:Nat))).length=k:=ah
theorem Vk(k:Nat):(List.replicate (k+1) 1024).map (λx:Nat=>Value.int .u16 (x:Nat))=(List.replicate k 1024).map (λx:Nat=>Value.int .u16 (x:Nat))++[.int .u16 1024]:=by rw[List.replicate_succ',iI];rfl
def aiW(lc lp pb:Nat)(w:Lo)(e:Ending)(w':Lo):Prop:= ∃C vR vP,e= .returned (PF C)/\dj w' C w.heap.size lc lp pb 0 (1,1,1,1) (List.replicate (2180+768*2^(lc+lp)) 1024) vR vP/\Below w.heap.size w w'/\w.heap.size<=C
theorem Vm(lc lp pb:Nat)(hl:lc+lp<=8)(w:Lo):Calls prog 83 #[.int .i64 lc,.int .i64 lp,.int .i64 pb] w (aiW lc lp pb w):=by
 have⟨s,hs⟩:=ex (lc+lp);have Jb:(lc:Int)+(lp:Int)=s:=aa;have HT:=ae (λw=>iC s aa w);have h2:2^s<=256:=a8 (fk ar (show s<=8 by omega)) ar;have⟨T,hT⟩:=ex (2^s);rw[hT]at HT h2;have⟨N,hN⟩:=ex (2180+768*T);have HNC:Hid (2180+768*2^(lc+lp)=N):=ae (by rw[hs,hT,hN]);have hNi:(2180:Int)+768*(T:Int)=N:=aa;have hNb:(N:Int)<=200000:=aa;have hTi:(T:Int)<=256:=aa;have aiX:(lc:Int)<=8:=aa;have aiY:(lp:Int)<=8:=aa;unfold aiW;rw[HNC.out];clear hs hT h2 hN hl;go_enter func83,ntmps83;go_wp2_with fail;have⟨W1,ek⟩:=ex (w.alloc (.cells #[.int .i64 1,.int .i64 1,.int .i64 1,.int .i64 1] 3));rw[ek];have qj:aZ 3 w.heap.size W1 (.slice (some ⟨w.heap.size,0,none⟩) 4 4) (Zh (1,1,1,1)):=by rw[<-ek];exact aZ.lit 3 w (Zh (1,1,1,1)) (aF _) (by show 4<=_;decide)
 have aI:Below w.heap.size w W1:=AV;have⟨W,hW⟩:=ex (W1.alloc (.cells #[.int .i64 lc,.int .i64 lp,.int .i64 pb,.int .i64 0,.slice (some ⟨w.heap.size,0,none⟩) 4 4,.slice none 0 0] 175));rw[hW];have hb:Below w.heap.size w W:=by rw[<-hW];exact aI.alloc aI.size _
 have⟨C,hC0⟩:=ex (w.heap.size+1);have hC:W1.heap.size=C:=by rw[<-hC0,<-ek];simp
 have aiZ:w.heap.size<=C:=by rw[<-hC];exact aI.size
 have ai0:dj W C w.heap.size lc lp pb 0 (1,1,1,1) (List.replicate 0 1024) (.slice (some ⟨w.heap.size,0,none⟩) 4 4) (.slice none 0 0):=
  ⟨by rw[<-hW,<-hC];exact bz _ _,by rw[<-hW];exact qj.alloc _,aZ.nil _ _ _⟩
 rw[hC0];have app:=ae ai0;have HB:=ae hb;have Vn:=ae aiZ;clear ek qj aI hW hb hC hC0 aiZ ai0;go_loopw [8] (λi wr=> ∃(k:Nat) (vP:Value),k<=N/\i= .int .i64 k/\Hid (dj wr C w.heap.size lc lp pb 0 (1,1,1,1) (List.replicate k 1024) (.slice (some ⟨w.heap.size,0,none⟩) 4 4) vP)/\Hid (Below w.heap.size w wr)) (λi _=>N-(intOf i).toNat);·exact⟨0,_,aa,rfl,app,HB⟩
 ·
  obtain⟨k,vP,hk,rfl,HCR,gY⟩:=hrel;by_cases hkN:k<N
  ·have xO:(k:Int)<N:=(by omega);go_wp2_with fail;refine(HT _).mono ?_;rintro e w1 ⟨rfl,rfl⟩;obtain⟨_,_,c5,fz,_⟩:=HCR.cells;have fz5:=fz 5;have Er:=HCR.ps;have qT:=gY.size;have⟨W3,jE⟩:=ex (wr.alloc (.cells #[.int .u16 1024] 153));have bJ:aZ 153 w.heap.size W3 vP ((List.replicate k 1024).map λx=> .int .u16 (x:Nat)):=(by rw[<-jE];exact Er.alloc _);have vC: ∀i (h:i<[Value.int .u16 1024].length),W3.cell? ⟨wr.heap.size,i,none⟩=some [Value.int .u16 1024][i]:=(by rw[<-jE];exact gJ wr _ _);have bm:Below wr.heap.size wr W3:=(by rw[<-jE];exact az);have ju:=HCR.below bm;have hlen:((List.replicate k 1024).map λx=>Value.int .u16 (x:Nat)).length<=200000:=aH;have zz:=ae jE;have DM:=ae bJ;have F5:=ae vC;have gC:=ae hlen;have Jc:=ae ju;have ft:=ae (gY.trans (bm.mono qT));clear fz Er qT jE bJ vC bm ju hlen;go_wp2_with (at_builtin;rw[zz.out];refine bB adI rfl (.tmp 29) (.tmp 30) rfl w.heap.size W3 vP _ rfl DM.out wr.heap.size 1 1 [.int .u16 1024] rfl rfl F5.out oY (av gC.out) (av gC.out) ft.size ?_;intro v' w4 jD dq xP;clear xP;have ja:=am ft.out dq ft.size (λg e=>(DM.lt g e).1);have hC4:w4.heap[C]? =_:=(dq.block C Jc.lt (λe=>Jc.Gh e.symm)).trans Jc.box;have BG:aZ 153 w.heap.size w4 v' ((List.replicate (k+1) 1024).map λx=> .int .u16 (x:Nat)):=(by rw[Vk];exact jD);obtain⟨g',bW,e',_⟩:=BG.bT (by rw[Px];omega);rw[Px]at e';subst e';have Mz:=ae (Jc.aiV dq BG (BG.apart hC4 ar));have pX:Hid (Below w.heap.size w (w4.setCell ⟨C,5,none⟩ (.slice (some ⟨g',0,none⟩) (k+1:Nat) bW))):=ae (ja.setCell Vn.out _);have fz5:w4.frozen? ⟨C,5,none⟩=false:=aS _ _ _ _ _ hC4;have c55:w4.cell? ⟨C,5,none⟩=some vP:=(by rw[aC w4 _ _ _ _ _ hC4];rfl);clear jD dq ja hC4 BG)
   exact⟨⟨k+1,_,aa,aA,Mz,pX⟩,fP⟩
  ·obtain rfl:k=N:=(by omega);go_wp2_with fail;refine(HT _).mono ?_;rintro e w1 ⟨rfl,rfl⟩;go_wp2;go_ret;exact⟨C,_,_,rfl,HCR.out,gY.out,Vn.out⟩
end
def nU(w:Lo)(l:An)(e:Ending)(w':Lo):Prop:= ∃v,e= .returned v/\Own w.heap.size w' v l/\Below w.heap.size w w'
def QS(lw:Nat):List Value:=[.int .u8 (IntKind.u8.wrap ((lw:Int)/16777216)),.int .u8 (IntKind.u8.wrap ((lw:Int)/65536)),.int .u8 (IntKind.u8.wrap ((lw:Int)/256)),.int .u8 (IntKind.u8.wrap (lw:Int))]
theorem Vp{lw:Nat}: ∀u∈QS lw,u.oneCell'=true:=by intro u hu;simp[QS]at hu;rcases hu with rfl|rfl|rfl|rfl<;>rfl
theorem MD(v lw:Nat)(h:v%4294967296=lw):QS lw=(Rc.be 4 v).map B8:=by have e:Rc.be 4 v=[UInt8.ofNat (v/256/256/256%256),UInt8.ofNat (v/256/256%256),UInt8.ofNat (v/256%256),UInt8.ofNat (v%256)]:=rfl;rw[e];simp only[QS,List.map,B8,IntKind.wrap_u8',fN];congr 2<;>(try congr 2)<;>(try congr 2)<;>(try congr 2)<;>omega
theorem m_(k v:Nat):Rc.be (1+k) (v/4294967296)++Rc.be 4 v=Rc.be (5+k) v:=by rw[show 5+k=(1+k)+4 by omega,Rc.FS (1+k) 4]
theorem sI{l:An}(h:w.ownsRow base 5 1 (.slice (some ⟨g,0,none⟩) n cap) n (l.map B8)):n=l.length/\Bytes w (some ⟨g,0,none⟩) l:=by
 have hn:n=l.length:=by have:=h.1;simp at this;omega
 subst hn;obtain⟨A,c,e,_,_,h3⟩:=Own.read (base:=base) (l:=l) h;injection e with e1 e2 e3;subst e1;exact⟨rfl,h3⟩
theorem QT(g o cap:Nat)(s:Rc.St)(w:Lo)(hE:ib w g o cap s)(hk:1+s.k+4<=140737488355328):
  Calls prog 153 #[.pointer (some ⟨g,0,none⟩)] w (nU w (Rc.be (5+s.k) s.v)):=by
 obtain⟨i,hi,qw,kC,me⟩:=info_parts tz;have c0:=Bj hE.aE;have c2:=IA hE.aE;have tB:g<w.heap.size:=block_lt_of_cell c0;have Zd:i.bytes*(1+s.k+4)<=281474976710656:=qL;have vu:1+s.k+4<=maxLen:=iJ;have fc:1<=1+s.k:=aa;obtain⟨hlen,hrB⟩:=sI hE.own;have abT:=m_ s.k s.v;have Ik:=MD s.v (s.v%4294967296) rfl;generalize UK:Rc.be (1+s.k) (s.v/4294967296)=lb at*;generalize Rc.be (5+s.k) s.v=res at*;generalize Rc.be 4 s.v=l4 at*;generalize s.v%4294967296=lw at*;generalize 1+s.k=m at*;have iO:Value.slice (some ⟨o,0,none⟩) m cap= .slice (some ⟨o,0,none⟩) lb.length cap:=by rw[hlen]
 have gC:=ae hlen;have HJ:=ae abT;have HL4:=ae Ik;have ME:=ae iO;clear hlen abT Ik UK iO hE;have bY:([]:An).length+lb.length<=140737488355328:=by rw[<-gC.out];simp;omega
 go_enter func153,ntmps153
 go_wp2_with (first
  | (refine wpList_make_own _ rfl _ _ 22 rfl w.heap.size 5 i (.int .u8 0) 1 underlying22 hi qw kC _ _ _ (m+4) rfl rfl rfl Zd vu (aF _) ?_;intro w1 eh lN;have aI:Below w.heap.size w w1:=am (aP _ _) lN (aF _) ah;have c01:=(aI.cell (p:=⟨g,0,none⟩) tB).trans c0;have c21:=(aI.cell (p:=⟨g,2,none⟩) tB).trans c2)
  | (at_builtin;refine aj rfl (.tmp 13) (.tmp 17) rfl w.heap.size _ _ [] rfl eh (some ⟨o,0,none⟩) lb cap ME.out (hrB.below aI) bY aI.size ?_;intro v2 w4 bM dq;have bc:Below w.heap.size w w4:=am aI dq aI.size (λg' BI=>(Own.ay (l:=[]) eh g' BI).1)))
 rw[fL]at bM;generalize hn:lb.length=n at*;unfold Own at bM;rw[hn]at bM;have hnm:m=n:=gC.out;obtain⟨gb,th,rfl,BJ,abU⟩:=World.ownsRow.form bM aa;have c04:=(bc.cell (p:=⟨g,0,none⟩) tB).trans c0;have jM:w4.drew.cell? ⟨g,0,none⟩=some (.int .u32 (lw:Int)):=c04;have apt:g<w4.heap.size:=db tB bc.size;have ai2: ∀o:Obj,(w4.alloc o).drew.cell? ⟨g,0,none⟩=some (.int .u32 (lw:Int)):=λo=>(World.cell?_alloc_lt w4 o ⟨g,0,none⟩ apt).trans c04;have Dx:=World.ownsRow.alloc bM (.cells #[.int .u8 (IntKind.u8.wrap ((lw:Int)/16777216)),.int .u8 (IntKind.u8.wrap ((lw:Int)/65536)),.int .u8 (IntKind.u8.wrap ((lw:Int)/256)),.int .u8 (IntKind.u8.wrap (lw:Int))] 5);have yo:=World.news_of_block (heap_alloc_new w4 (.cells #[.int .u8 (IntKind.u8.wrap ((lw:Int)/16777216)),.int .u8 (IntKind.u8.wrap ((lw:Int)/65536)),.int .u8 (IntKind.u8.wrap ((lw:Int)/256)),.int .u8 (IntKind.u8.wrap (lw:Int))] 5));have yp:n+4<=maxLen:=iJ;have hby:(n+4)*1<=140737488355328:=aa;have qT:w.heap.size<=(w4.alloc (.cells #[.int .u8 (IntKind.u8.wrap ((lw:Int)/16777216)),.int .u8 (IntKind.u8.wrap ((lw:Int)/65536)),.int .u8 (IntKind.u8.wrap ((lw:Int)/256)),.int .u8 (IntKind.u8.wrap (lw:Int))] 5)).drew.heap.size:=by have:=bc.size;show w.heap.size<=(w4.alloc _).heap.size;simp;omega
 have hHH:(w4.alloc (.cells #[.int .u8 (IntKind.u8.wrap ((lw:Int)/16777216)),.int .u8 (IntKind.u8.wrap ((lw:Int)/65536)),.int .u8 (IntKind.u8.wrap ((lw:Int)/256)),.int .u8 (IntKind.u8.wrap (lw:Int))] 5)).drew.heap.size=w4.heap.size+1:=by show(w4.alloc _).heap.size=_;simp
 have HH:=ae hHH;have hK: ∀w6:Lo,(w4.alloc (.cells #[.int .u8 (IntKind.u8.wrap ((lw:Int)/16777216)),.int .u8 (IntKind.u8.wrap ((lw:Int)/65536)),.int .u8 (IntKind.u8.wrap ((lw:Int)/256)),.int .u8 (IntKind.u8.wrap (lw:Int))] 5)).drew.grownBy w6 (Value.ownBlock (.slice (some ⟨gb,0,none⟩) n th))->w6.cell? ⟨g,0,none⟩=some (.int .u32 (lw:Int)):=by
  intro w6 h;refine(h.cell_far ⟨g,0,none⟩ ?_ ?_).trans (ai2 _);·show g<(w4.alloc _).heap.size;simp;omega
  ·simp[Value.ownBlock];omega
 have HK:=ae hK;have HNM:=ae hnm;have HN:=ae hn;clear hHH hK hn hnm eh lN dq c01 c21 c0 c2;refine wp_region_held_drew (S:=λw'=>w'.cell? ⟨g,0,none⟩=some (.int .u32 (lw:Int))) ak jM (λhS=> ?_);refine jL 0 (v:= ?vb0) ?yb0 hS ?_;case yb0=>intro w hSw;go_simp;all_goals(with_reducible rfl)
 refine en ?_;refine jL 1 (v:= ?vb1) ?yb1 hS ?_;case yb1=>intro w hSw;go_simp;all_goals(with_reducible rfl)
 refine en ?_;refine jL 2 (v:= ?vb2) ?yb2 hS ?_;case yb2=>intro w hSw;go_simp;all_goals(with_reducible rfl)
 refine en ?_;refine jL 3 (v:= ?vb3) ?yb3 hS ?_;case yb3=>intro w hSw;go_simp;all_goals(with_reducible rfl)
 refine en ?_;refine jL 4 (v:= ?vb4) ?yb4 hS ?_;case yb4=>intro w hSw;go_simp;all_goals(with_reducible rfl)
 refine en ?_;refine jL 5 (v:= ?vb5) ?yb5 hS ?_;case yb5=>intro w hSw;go_simp;all_goals(with_reducible rfl)
 refine en ?_;refine jL 6 (v:= ?vb6) ?yb6 hS ?_;case yb6=>intro w hSw;go_simp;all_goals(with_reducible rfl)
 refine en ?_;refine jL 7 (v:= ?vb7) ?yb7 hS ?_;case yb7=>intro w hSw;go_simp;all_goals(with_reducible rfl)
 refine en ?_;refine jL 8 (v:= ?vb8) ?yb8 hS ?_;case yb8=>intro w hSw;go_simp;all_goals(with_reducible rfl)
 refine en ?_;refine jL 9 (v:= ?vb9) ?yb9 hS ?_;case yb9=>intro w hSw;go_simp;all_goals(with_reducible rfl)
 refine en ?_;refine jL 10 (v:= ?aye) ?apu hS ?_;case apu=>intro w hSw;go_simp;all_goals(with_reducible rfl)
 refine en ?_;refine jL 11 (v:= ?ayf) ?apv hS ?_;case apv=>intro w hSw;go_simp;all_goals(with_reducible rfl)
 refine en ?_;refine jL 12 (v:= ?ayg) ?apw hS ?_;case apw=>intro w hSw;go_simp;all_goals(with_reducible rfl)
 refine en ?_;refine jL 13 (v:= ?ayh) ?apx hS ?_;case apx=>intro w hSw;go_simp;all_goals(with_reducible rfl)
 refine en ?_;refine jL 14 (v:= ?ayi) ?apy hS ?_;case apy=>intro w hSw;go_simp;all_goals(with_reducible rfl)
 refine en ?_;refine jL 15 (v:= ?ayj) ?apz hS ?_;case apz=>intro w hSw;go_simp;all_goals(with_reducible rfl)
 refine en ?_;refine jL 16 (v:= ?ayk) ?apA hS ?_;case apA=>intro w hSw;go_simp;all_goals(with_reducible rfl)
 refine en ?_;refine jL 17 (v:= ?ayl) ?apB hS ?_;case apB=>intro w hSw;go_simp;all_goals(with_reducible rfl)
 refine en ?_;refine jL 18 (v:= ?aym) ?apC hS ?_;case apC=>intro w hSw;go_simp;all_goals(with_reducible rfl)
 refine en ?_;refine jL 19 (v:= ?ayn) ?apD hS ?_;case apD=>intro w hSw;go_simp;all_goals(with_reducible rfl)
 refine en ?_;refine jL 20 (v:= ?ayo) ?apE hS ?_;case apE=>intro w hSw;go_simp;all_goals(with_reducible rfl)
 refine en ?_;refine jL 21 (v:= ?ayp) ?apF hS ?_;case apF=>intro w hSw;go_simp;all_goals(with_reducible rfl)
 refine en ?_;refine jL 22 (v:= ?ayq) ?apG hS ?_;case apG=>intro w hSw;go_simp;all_goals(with_reducible rfl)
 refine en ?_;refine jL 23 (v:= ?ayr) ?apH hS ?_;case apH=>intro w hSw;go_simp;all_goals(with_reducible rfl)
 refine en ?_;refine wpAnyH_ready (rs:=[24]) ak ah ?_;refine AllReadyH.cons rfl (λK hK=> ?_) AllReadyH.nil;go_simp;skip;refine hK _ _ (ai2 _) (λauE=> ?_);clear hK K;refine wpAnyH_ready (rs:=[25]) ak ah ?_;refine AllReadyH.cons rfl (λK hK=> ?_) AllReadyH.nil;refine step_append_lies (P:=prog) _ rfl (.tmp 19) (.tmp 43) 22 rfl w.heap.size 5 i (.int .u8 0) 1 1 underlying22 hi qw kC me rfl ar (.slice (some ⟨gb,0,none⟩) n th) n _ rfl Dx.drew ⟨w4.heap.size,0,none⟩ 4 4 (QS lw) rfl rfl yo Vp ar yp hby qT (w4.heap.size+1) HH.out ?_;intro g2 nQ w6 Vq ot _ _;have apI:=HK.out w6 ot;refine hK _ _ apI (λai3=> ?_);clear hK K;refine jL 26 (v:= ?ays) ?apJ ai3 ?_;case apJ=>intro w hSw;go_simp;all_goals(with_reducible rfl)
 refine en ?_;refine wpAnyH_done ak ?_ _;go_wp2;go_ret;refine⟨_,rfl,?_,?_⟩
 ·unfold Own;have Zi:res.length=n+4:=by have h4:=aR List.length HL4.out;rw[<-HJ.out,aG,HN.out];simp[QS]at h4;omega
  rw[Zi,<-HJ.out,iI,<-HL4.out];exact Vq
 ·exact am ((bc.alloc bc.size _).drew) ot qT (λg' BI=>by
   have:gb=g':=(by simpa [Value.ownBlock]using BI);omega)
section
def aT(st k l:Int):Int:=
 if k=0 then(if st<4 then 0 else if st<10 then st-3 else st-6)
 else if k=1 then(if 7<=st then 10 else 7)
 else if 7<=st then 11 else if l=1 then 9 else 8
def dM(r:R4)(k d q:Int):R4:=
 if k=0 then r
 else if k=1 then(d,r.1,r.2.1,r.2.2.1)
 else if q=0 then r
 else if q=1 then(r.2.1,r.1,r.2.2.1,r.2.2.2)
 else if q=2 then(r.2.2.1,r.1,r.2.1,r.2.2.2)
 else(r.2.2.2,r.1,r.2.1,r.2.2.1)
section
variable{w w':Lo}{C base:Nat}{lc lp pb st:Int}{r:R4}{P P':List Nat}{vR vP vP':Value}
theorem dj.setState(h:dj w C base lc lp pb st r P vR vP)(st':Int):dj (w.setCell ⟨C,3,none⟩ (.int .i64 st')) C base lc lp pb st' r P vR vP:=
 ⟨heap_set h.box 3 _,h.gX.setOther h.Vj _,h.ps.setOther h.Gh _⟩
theorem dj.PC(h:dj w C base lc lp pb st r P vR vP){xh:Value}{r':R4}(ho:aZ 3 base w xh (Zh r')):dj (w.setCell ⟨C,4,none⟩ xh) C base lc lp pb st r' P xh vP:=
 ⟨heap_set h.box 4 _,ho.setOther (ho.apart h.box ar) _,h.ps.setOther h.Gh _⟩
end
theorem jc{w w':Lo}{C:Nat}(h:Below w.heap.size w w'):w.grownBy w' (some C):=⟨h.os,h.tape,h.output,h.size,λk hk _=>h.block k hk⟩
theorem BM{w a b:Lo}{C:Nat}(h:w.grownBy a (some C))(k:a.grownBy b (some C)):w.grownBy b (some C):=
 ⟨k.os.trans h.os,k.tape.trans h.tape,k.output.trans h.output,a8 h.size k.size,λi hi fj=>(k.block i (db hi h.size) fj).trans (h.block i hi fj)⟩
theorem eH{w a:Lo}{C:Nat}(h:w.grownBy a (some C))(i:Nat)(v:Value):w.grownBy (a.setCell ⟨C,i,none⟩ v) (some C):=
 ⟨h.os,h.tape,h.output,by have:=h.size;simpa [World.setCell]using this,λk hk fj=>(af _ _ _ _ (λe=>fj (by rw[e]))).trans (h.block k hk fj)⟩
def vJ(C base:Nat)(lc lp pb st:Int)(r:R4)(P:List Nat)(vP:Value)(w:Lo)(e:Ending)(w':Lo):Prop:= ∃xh,e= .returned (.tuple #[])/\dj w' C base lc lp pb st r P xh vP/\w.grownBy w' (some C)
def ou(C base:Nat)(lc lp pb st:Int)(r:R4)(P:List Nat)(vR vP:Value)(w:Lo)(e:Ending)(w':Lo):Prop:= ∃xh,e= .returned (.tuple #[])/\dj w' C base lc lp pb st r P xh vP/\w.grownBy w' (some C)/\(xh=vR\/ ∀g,xh.ownBlock=some g->w.heap.size<=g)
theorem ou.done{C base:Nat}{lc lp pb st:Int}{r:R4}{P:List Nat}{vR vP:Value}{w:Lo}{e:Ending}{w':Lo}(h:ou C base lc lp pb st r P vR vP w e w'):vJ C base lc lp pb st r P vP w e w':=by obtain⟨v,h1,h2,h3,_⟩:=h;exact⟨v,h1,h2,h3⟩
theorem vK(C base:Nat)(lc lp pb st:Int)(r:R4)(P:List Nat)(vR vP:Value)(b:UInt8)(l d q:Int)(w:Lo)(hC:dj w C base lc lp pb st r P vR vP)(h0:0<=st)(h1:st<=11):
  Calls prog 161 #[PF C,mq 0 b l d q] w (ou C base lc lp pb (aT st 0 l) r P vR vP w):=by
 have⟨S,hS⟩:=ex (aT st 0 l);rw[hS];have HS:=ae hS;have HC:=ae hC;clear hS hC;go_enter func161,ntmps161;go_upto_region 1 with fail;have⟨W1,ek⟩:=ex (w.alloc (.cells #[.int .i64 0,.int .u8 b.toNat,.int .i64 l,.int .i64 d,.int .i64 q] 183));rw[ek];obtain⟨y0,y1,y2,y3,y4,fE⟩:=xN ek;have Hx:=HC.below (fE.mono (aF _));obtain⟨c3,c4,c5,fz,_⟩:=Hx.cells;have fz3:=fz 3;have zv:=ae Hx;have vH:Hid (w.grownBy W1 (some C)):=ae (jc fE);clear ek Hx fz fE;by_cases s4:st<4
 ·have iy:Hid (S=0):=ae (by rw[<-HS.out];unfold aT;rw[ax rfl,ax s4]);go_wp2_with fail;refine bA (v:= .tuple #[]) o0 rfl ⟨vR,rfl,?_,?_,.inl rfl⟩;·rw[iy.out];exact zv.setState _
  ·exact eH vH.out 3 _
 ·by_cases Po:st<10
  ·have iy:Hid (S=st-3):=ae (by rw[<-HS.out];unfold aT;rw[ax rfl,au s4,ax Po]);go_wp2_with fail;refine bA (v:= .tuple #[]) o0 rfl ⟨vR,rfl,?_,?_,.inl rfl⟩;·rw[iy.out];exact zv.setState _
   ·exact eH vH.out 3 _
  ·have iy:Hid (S=st-6):=ae (by rw[<-HS.out];unfold aT;rw[ax rfl,au s4,au Po]);go_wp2_with fail;refine bA (v:= .tuple #[]) o0 rfl ⟨vR,rfl,?_,?_,.inl rfl⟩;·rw[iy.out];exact zv.setState _
   ·exact eH vH.out 3 _
theorem Jj(C base:Nat)(lc lp pb st:Int)(r:R4)(P:List Nat)(vR vP:Value)(b:UInt8)(l d q:Int)(w:Lo)(hC:dj w C base lc lp pb st r P vR vP)(h0:0<=st)(h1:st<=11):
  Calls prog 161 #[PF C,mq 0 b l d q] w (vJ C base lc lp pb (aT st 0 l) r P vP w):=
 (vK C base lc lp pb st r P vR vP b l d q w hC h0 h1).mono λ_ _ h=>h.done
theorem rr(C base:Nat)(lc lp pb st:Int)(r:R4)(P:List Nat)(vR vP:Value)(b:UInt8)(l d q:Int)(w:Lo)(hC:dj w C base lc lp pb st r P vR vP)(aX:base<=w.heap.size):
  Calls prog 161 #[PF C,mq 1 b l d q] w (ou C base lc lp pb (aT st 1 l) (d,r.1,r.2.1,r.2.2.1) P vR vP w):=by
 have⟨S,hS⟩:=ex (aT st 1 l);rw[hS];have HS:=ae hS;have HC:=ae hC;have DK:=ae aX;clear hS hC aX;go_enter func161,ntmps161;go_upto_region 1 with fail;have⟨W1,ek⟩:=ex (w.alloc (.cells #[.int .i64 1,.int .u8 b.toNat,.int .i64 l,.int .i64 d,.int .i64 q] 183));rw[ek];obtain⟨y0,y1,y2,y3,y4,fE⟩:=xN ek;have Hx:=HC.below (fE.mono (aF _));obtain⟨c3,c4,c5,fz,g,cap,rfl,IU,oT,x0,x1,x2,x3,BJ,tB⟩:=Hx.cells;have apM:4<=(cap:Int):=aa;have fz3:=fz 3;have fz4:=fz 4;have zv:=ae Hx;have vH:Hid (w.grownBy W1 (some C)):=ae (jc fE);have sD:Hid (w.heap.size<=W1.heap.size):=ae fE.size;clear ek Hx fz fE;have⟨W2,gH⟩:=ex (W1.alloc (.cells #[.int .i64 d,.int .i64 r.1,.int .i64 r.2.1,.int .i64 r.2.2.1] 3));have aK:aq W1 W2:=tZ;have aL:aZ 3 base W2 (.slice (some ⟨W1.heap.size,0,none⟩) 4 4) (Zh (d,r.1,r.2.1,r.2.2.1)):=by rw[<-gH];exact aZ.lit 3 W1 (Zh (d,r.1,r.2.1,r.2.2.1)) (a8 DK.out (av sD.out)) (by show 4<=_;decide)
 have hC2:=zv.below aK;obtain⟨_,k4,_,kz,_⟩:=hC2.cells;have kz4:=kz 4;rw[<-gH]at k4 kz4;have Vv:=ae hC2;have DM:=ae aL;have dG:Hid (w.grownBy W2 (some C)):=ae (BM vH.out (jc aK));have rf:=ae gH;clear kz hC2 aL aK gH;go_wp2_with fail;go_region;rw[rf.out];have⟨W3,jE⟩:=ex ((W2.setCell ⟨C,4,none⟩ (.slice (some ⟨W1.heap.size,0,none⟩) 4 4)).drew);rw[jE];have zA:dj W3 C base lc lp pb st (d,r.1,r.2.1,r.2.2.1) P (.slice (some ⟨W1.heap.size,0,none⟩) 4 4) vP:=by have h:=Vv.PC DM.out;rw[<-jE];exact⟨h.box,h.gX,h.ps⟩
 have iP:w.grownBy W3 (some C):=by have h:=eH dG.out 4 (.slice (some ⟨W1.heap.size,0,none⟩) 4 4);rw[<-jE];exact⟨h.os,h.tape,h.output,h.size,h.block⟩
 obtain⟨j3,_,_,jz,_⟩:=zA.cells;have jz3:=jz 3;have Jc:=ae zA;have ft:=ae iP;clear jz zA iP jE;by_cases s7:7<=st
 ·have iy:Hid (S=10):=ae (by rw[<-HS.out];unfold aT;rw[au ar,ax rfl,ax s7]);go_wp2_with fail;refine bA (v:= .tuple #[]) o0 rfl ⟨.slice (some ⟨W1.heap.size,0,none⟩) 4 4,rfl,?_,?_,.inr (λg e=>by injection e with e;subst e;exact sD.out)⟩;·rw[iy.out];exact(Jc.setState 7).setState 10
  ·exact eH (eH ft.out 3 _) 3 _
 ·have iy:Hid (S=7):=ae (by rw[<-HS.out];unfold aT;rw[au ar,ax rfl,au s7]);go_wp2_with fail;refine bA (v:= .tuple #[]) o0 rfl ⟨.slice (some ⟨W1.heap.size,0,none⟩) 4 4,rfl,?_,?_,.inr (λg e=>by injection e with e;subst e;exact sD.out)⟩;·rw[iy.out];exact Jc.setState 7
  ·exact eH ft.out 3 _
theorem DR(C base:Nat)(lc lp pb st:Int)(r:R4)(P:List Nat)(vR vP:Value)(b:UInt8)(l d q:Int)(w:Lo)(hC:dj w C base lc lp pb st r P vR vP)(aX:base<=w.heap.size):
  Calls prog 161 #[PF C,mq 1 b l d q] w (vJ C base lc lp pb (aT st 1 l) (d,r.1,r.2.1,r.2.2.1) P vP w):=
 (rr C base lc lp pb st r P vR vP b l d q w hC aX).mono λ_ _ h=>h.done
end
abbrev R4.at(r:R4):Nat->Int:=r4 r.1 r.2.1 r.2.2.1 r.2.2.2
def ti(r:R4)(q i:Nat):List Value:= .int .i64 (r.at q)::((List.range i).filter λj=>j !=q).map λj=> .int .i64 (r.at j)
theorem Eu(r:R4)(q i:Nat):ti r q (i+1)=ti r q i++(if i=q then []else [.int .i64 (r.at i)]):=by
 unfold ti;rw[List.range_succ,List.filter_append,iI,List.cons_append];congr 2;by_cases h:i=q;·simp[h]
 ·simp[h]
theorem Vw(r:R4)(q i:Nat):0<(ti r q i).length/\(ti r q i).length<=i+1:=by unfold ti;have:=List.length_filter_le (λj=>j !=q) (List.range i);simp at this ⊢;exact this
theorem Vx(r:R4)(q:Nat)(hq:q<=3)(d:Int):ti r q 4=Zh (dM r 2 d (q:Nat)):=by rcases(by omega:q=0\/q=1\/q=2\/q=3)with rfl|rfl|rfl|rfl<;>rfl
theorem dj.atR{r:R4}(h:dj w C base lc lp pb st r P vR vP):
  ∃g cap,vR= .slice (some ⟨g,0,none⟩) 4 cap/\4<=cap/\cap<=9223372036854775807/\(∀i,i<4->w.cell? ⟨g,i,none⟩=some (.int .i64 (r.at i))):=by
 obtain⟨_,_,_,_,g,cap,e,h1,h2,x0,x1,x2,x3,_⟩:=h.cells;refine⟨g,cap,e,h1,h2,λi hi=> ?_⟩;match i,hi with
 | 0,_=>exact x0
 | 1,_=>exact x1
 | 2,_=>exact x2
 | 3,_=>exact x3
theorem aZ.weaken(h:aZ t base w v l)(hb:gz<=base):aZ t gz w v l:=by
 rcases h with⟨h1,h2|⟨g,cap,cur,h2,h3,h4⟩⟩
 ·exact⟨h1,.inl h2⟩
 ·exact⟨h1,.inr ⟨g,cap,cur,h2,a8 hb h3,h4⟩⟩
theorem jY(C base:Nat)(lc lp pb st:Int)(r:R4)(P:List Nat)(vR vP:Value)(b:UInt8)(l d:Int)(q:Nat)(w:Lo)(hC:dj w C base lc lp pb st r P vR vP)(aX:base<=w.heap.size)(hq:q<=3):
  Calls prog 161 #[PF C,mq 2 b l d (q:Nat)] w (ou C base lc lp pb (aT st 2 l) (dM r 2 d (q:Nat)) P vR vP w):=by
 have⟨S,hS⟩:=ex (aT st 2 l);rw[hS];have HE:=ae (Vx r q hq d);obtain⟨RA,hRA⟩: ∃R,dM r 2 d (q:Nat)=R:=⟨_,rfl⟩
 rw[hRA]at HE ⊢;have HS:=ae hS;have HC:=ae hC;have DK:=ae aX;have hqi:(q:Int)<=3:=aa;have hq4:(q:Int)<4:=aa;obtain⟨g,cap,rfl,IU,oT,_⟩:=hC.atR;have apM:4<=(cap:Int):=aa;have HX:=ae (fun(W:Lo) (v:Value) (h:dj W C base lc lp pb st r P (.slice (some ⟨g,0,none⟩) 4 cap) v)=>(show ∀i,i<4->W.cell? ⟨g,i,none⟩=some (.int .i64 (r.at i))from by
  obtain⟨g',bW,e,_,_,hx⟩:=h.atR;injection e with e _ _;injection e with e;injection e with e;subst e;exact hx))
 clear hS hC aX hRA;go_enter func161,ntmps161;go_upto_region 1 with fail;have⟨W1,ek⟩:=ex (w.alloc (.cells #[.int .i64 2,.int .u8 b.toNat,.int .i64 l,.int .i64 d,.int .i64 q] 183));rw[ek];obtain⟨y0,y1,y2,y3,y4,fE⟩:=xN ek;have Hx:=HC.below (fE.mono (aF _));obtain⟨c3,c4,c5,fz,_⟩:=Hx.cells;have xq:=HX.out W1 _ Hx q aa;have zv:=ae Hx;have vH:Hid (w.grownBy W1 (some C)):=ae (jc fE);have sD:Hid (w.heap.size<W1.heap.size):=ae xt;have Y9:Hid (∃t,W1.heap[w.heap.size]? =some (.cells [.int .i64 2,.int .u8 b.toNat,.int .i64 l,.int .i64 d,.int .i64 q].toArray t (0,0))):=ae ⟨_,LC⟩;clear ek Hx fz fE;obtain⟨rq,hrq⟩: ∃x,r.at q=x:=⟨_,rfl⟩
 rw[hrq]at xq;have HRQ:=ae hrq;clear hrq;go_upto_region 3 with fail;go_region;have⟨W2,gH⟩:=ex ((W1.alloc (.cells #[.int .i64 rq] 3)).drew);rw[gH];have aK:aq W1 W2:=by rw[<-gH];have h:=(aP W1.heap.size W1).alloc (aF _) (.cells #[.int .i64 rq] 3);exact⟨h.os,h.tape,h.output,h.size,h.block⟩
 have aL:aZ 3 W1.heap.size W2 (.slice (some ⟨W1.heap.size,0,none⟩) 1 1) (ti r q 0):=by
  rw[<-gH];have e:ti r q 0=[.int .i64 rq]:=by rw[<-HRQ.out];rfl
  rw[e];exact(aZ.lit 3 W1 [.int .i64 rq] (aF _) (by show 1<=_;decide)).drew
 have dG:=ae aK;have uU:=ae aL;clear gH aK aL y0 y1 y2 y3 y4 c3 c4 c5 xq;have HQI:Hid (∀i:Nat,i≠q->((i:Int) !=(q:Int))=true/\((i:Int)==(q:Int))=false):=ae (λi h=>by
  refine⟨bne_iff_ne.2 (λe=>h aa),beq_eq_false_iff_ne.2 (λe=>h aa)⟩)
 have apP:=ae (fun(W:Lo) (hb:aq W1 W)=>(show W.cell? ⟨w.heap.size,4,none⟩=some (.int .i64 q)/\W.cell? ⟨w.heap.size,2,none⟩=some (.int .i64 l)from by
  obtain⟨t,h⟩:=Y9.out;have e:=(hb.block _ sD.out).trans h;exact⟨by rw[aC W _ _ _ _ _ e];rfl,by rw[aC W _ _ _ _ _ e];rfl⟩))
 go_wp2_with fail;go_loopw [5,6] (λv i wr=> ∃(n:Nat) (vv:Value),n<=4/\vv=v/\i= .int .i64 n/\Hid (aZ 3 W1.heap.size wr vv (ti r q n))/\Hid (aq W1 wr)) (λ_ i _=>4-(intOf i).toNat);·exact⟨0,_,aa,rfl,rfl,uU,dG⟩
 ·
  obtain⟨n,v,hn,rfl,rfl,HO,cW⟩:=hrel;obtain⟨y4,y2⟩:=apP.out wr cW.out;have hCW:=zv.below cW.out;obtain⟨c3,c4,c5,fz,_⟩:=hCW.cells;by_cases hn4:n<4
  ·have qV:(n:Int)<4:=(by omega);have xn:=HX.out wr _ hCW n hn4;by_cases r_:n=q;·have e1:((n:Int) !=(q:Int))=false:=(by rw[r_];simp);have e2:((n:Int)==(q:Int))=true:=(by rw[r_];simp);have apQ:Hid (aZ 3 W1.heap.size wr v (ti r q (n+1))):=ae (by rw[Eu,ax r_,iV];exact HO.out);clear r_;go_wp2_with fail;exact⟨⟨n+1,_,aa,rfl,aA,apQ,cW⟩,fP⟩
   ·obtain⟨e1,e2⟩:=HQI.out n r_;obtain⟨rn,PE⟩: ∃x,r.at n=x:=⟨_,rfl⟩
    rw[PE]at xn;have⟨W3,jE⟩:=ex (wr.alloc (.cells #[.int .i64 rn] 3));have bJ:aZ 3 W1.heap.size W3 v (ti r q n):=(by rw[<-jE];exact HO.alloc _);have vC: ∀i (h:i<[Value.int .i64 rn].length),W3.cell? ⟨wr.heap.size,i,none⟩=some [Value.int .i64 rn][i]:=(by rw[<-jE];exact gJ wr _ _);have bm:aq W1 W3:=(by rw[<-jE];exact cW.alloc cW.size _);have hlen:=(Vw r q n).2;have zz:=ae jE;have DM:=ae bJ;have F5:=ae vC;have ft:=ae bm;have gC:Hid ((ti r q n).length<=5):=ae aa;have apR:Hid (ti r q (n+1)=ti r q n++[.int .i64 rn]):=ae (by rw[Eu,au r_,PE]);clear jE bJ vC bm hlen PE r_ fz hCW;go_wp2_with (at_builtin;rw[zz.out];refine bB aiU rfl (.tmp 31) (.tmp 39) rfl W1.heap.size W3 v _ rfl DM.out wr.heap.size 1 1 [.int .i64 rn] rfl rfl F5.out oY (av gC.out) (av gC.out) ft.size ?_;intro v' w4 jD dq xP;clear xP;have vA:Hid (aZ 3 W1.heap.size w4 v' (ti r q (n+1))):=ae (by rw[apR.out];exact jD);have fJ:Hid (aq W1 w4):=ae (am ft.out dq ft.size (λg e=>(DM.lt g e).1));clear jD dq)
    exact⟨⟨n+1,_,aa,rfl,aA,vA,fJ⟩,fP⟩
  ·obtain rfl:n=4:=(by omega);rw[HE.out]at HO;have fz3:=fz 3;have fz4:=fz 4;obtain⟨g',bW,e',_⟩:=HO.bT (show 0<4 by decide);rw[show(Zh RA).length=4 from rfl]at e';subst e';have HGN:Hid (w.heap.size<=g'):=ae (a8 (Nat.le_of_lt sD.out) (HO.lt g' rfl).1);have apS:C<w.heap.size:=HC.lt;have ne1:C≠w.heap.size:=aa;have TG:w.heap.size≠C:=aa;have Jk:=ae (hCW.PC (HO.weaken (a8 DK.out (Nat.le_of_lt sD.out))));have Vy:Hid (w.grownBy (wr.setCell ⟨C,4,none⟩ (.slice (some ⟨g',0,none⟩) 4 bW)) (some C)):=ae (eH (BM vH.out (jc cW.out)) 4 _);clear fz hCW apS;by_cases s7:7<=st
   ·by_cases l1:l=1
    ·have iy:Hid (S=11):=ae (by rw[<-HS.out];unfold aT;rw[au ar,au ar,ax s7]);have l1b:(l==1)=true:=(by rw[l1];rfl);have j3:=((Jk.setState 8).setState 9).cells.1;have j4:=((Jk.setState 8).setState 9).cells.2.2.2.1 3;clear l1;go_wp2_with fail;refine bA (v:= .tuple #[]) o0 rfl ⟨.slice (some ⟨g',0,none⟩) 4 bW,rfl,?_,?_,.inr (λg e=>FC)⟩;·rw[iy.out];exact(((Jk.setState 8).setState 9).setState 11)
     ·exact(eH (eH (eH Vy.out 3 _) 3 _) 3 _)
    ·have iy:Hid (S=11):=ae (by rw[<-HS.out];unfold aT;rw[au ar,au ar,ax s7]);have l1b:(l==1)=false:=(by rw[gQ];exact l1);clear l1;go_wp2_with fail;refine bA (v:= .tuple #[]) o0 rfl ⟨.slice (some ⟨g',0,none⟩) 4 bW,rfl,?_,?_,.inr (λg e=>FC)⟩;·rw[iy.out];exact((Jk.setState 8).setState 11)
     ·exact(eH (eH Vy.out 3 _) 3 _)
   ·by_cases l1:l=1
    ·have iy:Hid (S=9):=ae (by rw[<-HS.out];unfold aT;rw[au ar,au ar,au s7,ax l1]);have l1b:(l==1)=true:=(by rw[l1];rfl);have j3:=((Jk.setState 8).setState 9).cells.1;have j4:=((Jk.setState 8).setState 9).cells.2.2.2.1 3;clear l1;go_wp2_with fail;refine bA (v:= .tuple #[]) o0 rfl ⟨.slice (some ⟨g',0,none⟩) 4 bW,rfl,?_,?_,.inr (λg e=>FC)⟩;·rw[iy.out];exact((Jk.setState 8).setState 9)
     ·exact(eH (eH Vy.out 3 _) 3 _)
    ·have iy:Hid (S=8):=ae (by rw[<-HS.out];unfold aT;rw[au ar,au ar,au s7,au l1]);have l1b:(l==1)=false:=(by rw[gQ];exact l1);clear l1;go_wp2_with fail;refine bA (v:= .tuple #[]) o0 rfl ⟨.slice (some ⟨g',0,none⟩) 4 bW,rfl,?_,?_,.inr (λg e=>FC)⟩;·rw[iy.out];exact(Jk.setState 8)
     ·exact(eH Vy.out 3 _)
theorem Jl(C base:Nat)(lc lp pb st:Int)(r:R4)(P:List Nat)(vR vP:Value)(b:UInt8)(l d:Int)(q:Nat)(w:Lo)(hC:dj w C base lc lp pb st r P vR vP)(aX:base<=w.heap.size)(hq:q<=3):
  Calls prog 161 #[PF C,mq 2 b l d (q:Nat)] w (vJ C base lc lp pb (aT st 2 l) (dM r 2 d (q:Nat)) P vP w):=
 (jY C base lc lp pb st r P vR vP b l d q w hC aX hq).mono λ_ _ h=>h.done
theorem Own.weaken{l:An}(h:Own base w v l)(hb:gz<=base):Own gz w v l:=by
 rcases h with⟨h1,h2|⟨g,cap,cur,h2,h3,h4⟩⟩
 ·exact⟨h1,.inl h2⟩
 ·exact⟨h1,.inr ⟨g,cap,cur,h2,a8 hb h3,h4⟩⟩
def Ev(h:An)(back:Nat):Nat->List UInt8
 | 0=>h
 | n+1=>Ev h back n++[(Ev h back n).getD ((Ev h back n).length-back) 0]
def pY(h:An)(k:Int)(b:UInt8)(l:Nat)(back:Nat):List UInt8:=if k=0 then h++[b]else Ev h back l

namespace Rc
end Rc
def ab9(S:Rc.St)(L:An):Prop:= ∀i (h:i<L.length),i<5+S.k->(L[i]).toNat=S.v/256^(4+S.k-i)%256
structure jd(w:Lo)(h o cap:Nat)(s:Rc.St):Prop where
 aE:w.heap[h]? =some (.cells #[.slice (some ⟨o,0,none⟩) (4+s.k) cap,.int .u64 (s.r:Int)] 227 (0,0))
 own:w.ownsRow 0 5 1 (.slice (some ⟨o,0,none⟩) (4+s.k) cap) (4+s.k) ((Rc.be (4+s.k) s.v).map B8)
 ne:h≠o
theorem V7(c:BitVec 16)(w:Lo):Calls prog 242 #[.int .u16 c.toNat] w λe w'=>e= .returned (.int .u64 (Rc.fair c.toNat:Nat))/\w=w':=by
 have hc:=c.isLt;by_cases h1:c.toNat=0
 ·have hf:Rc.fair c.toNat=1024:=by unfold Rc.fair;rw[ax (.inl aa)]
  rw[hf,h1];go_enter func242,ntmps242;go_wp2;go_ret;exact⟨rfl,rfl⟩
 ·have h1':((c.toNat:Int)==0)=false:=beq_eq_false_iff_ne.2 aa;by_cases h2:2048<=c.toNat;·have hf:Rc.fair c.toNat=1024:=(by unfold Rc.fair;rw[ax (.inr h2)]);rw[hf];have h2':(2047:Int)<c.toNat:=aa;go_enter func242,ntmps242;go_wp2;go_ret;exact⟨rfl,rfl⟩
  ·have hf:Rc.fair c.toNat=c.toNat:=(by unfold Rc.fair;rw[au aa]);rw[hf];have h2': ¬(2047:Int)<c.toNat:=aa;go_enter func242,ntmps242;go_wp2;go_ret;exact⟨rfl,rfl⟩
theorem EE(p:Nat)(one:Bool)(w:Lo)(h1:1<=p)(h2:p<=2047):Calls prog 245 #[.int .u64 p,.int .i64 (et one)] w λe w'=>e= .returned (.int .u16 (Rc.next p one:Nat))/\w=w':=by
 cases one
 ·have hn:((Rc.next p false:Nat):Int)=(p:Int)+(2048-(p:Int))/32:=by simp only[Rc.next,Bool.false_eq_true,if_false];omega
  have HN:=ae hn;clear hn;unfold et;simp only[Bool.false_eq_true,if_false];go_enter func245,ntmps245;go_wp2;go_ret;exact⟨aR (λn:Int=>Ending.returned (Value.int .u16 n)) HN.symm,rfl⟩
 ·have hn:((Rc.next p true:Nat):Int)=(p:Int)-(p:Int)/32:=by simp only[Rc.next,if_true];omega
  have HN:=ae hn;clear hn;unfold et;simp only[if_true];go_enter func245,ntmps245;go_wp2;go_ret;exact⟨aR (λn:Int=>Ending.returned (Value.int .u16 n)) HN.symm,rfl⟩
theorem EF(h:w.heap[g]? =some (.cells #[a,b] t (0,0)))(u:Value):(w.setCell ⟨g,0,none⟩ u).heap[g]? =some (.cells #[u,b] t (0,0)):=by rw[heap_setCell_same w g 0 _ t u h];rfl
theorem oy(h:w.heap[g]? =some (.cells #[a,b] t (0,0)))(u:Value):(w.setCell ⟨g,1,none⟩ u).heap[g]? =some (.cells #[a,u] t (0,0)):=by rw[heap_setCell_same w g 1 _ t u h];rfl
theorem mh(h:w.heap[g]? =some (.cells #[a,b] t fr)):w.cell? ⟨g,0,none⟩=some a:=oW
theorem oz(h:w.heap[g]? =some (.cells #[a,b] t fr)):w.cell? ⟨g,1,none⟩=some b:=oW
def vS(w:Lo)(h o:Nat)(t:Rc.St)(w':Lo):Prop:= ∃o' bW,jd w' h o' bW t/\aM [h] w w'/\(o'=o\/w.heap.size<=o')
def carry(v n t:Nat):Nat:=(v+n)/256^t-v/256^t
theorem carry_zero(v n:Nat):carry v n 0=n:=by simp[carry]
theorem V8(v n t:Nat):carry v n t<=n:=by
 unfold carry;have hp:0<256^t:=Nat.pos_of_ne_zero ah;have h:(v+n)/256^t<=v/256^t+n:=by rw[Nat.div_le_iff_le_mul hp];have:=Nat.div_add_mod v (256^t);have h2:=Nat.mod_lt v hp;have h3:n*1<=n*256^t:=AH _ hp;rw[Nat.add_mul,dR (v/256^t)];omega
 omega
theorem yK(v n t:Nat):v/256^t+carry v n t=(v+n)/256^t:=by unfold carry;have:v/256^t<=(v+n)/256^t:=Nat.div_le_div_right aa;omega
theorem MY(v n t:Nat):(carry v n t+v/256^t%256)%256=(v+n)/256^t%256:=by rw[<-yK v n t];omega
theorem MZ(v n t:Nat):(carry v n t+v/256^t%256)/256=carry v n (t+1):=by
 have h1:=yK v n t;have h2:(v+n)/256^(t+1)=(v+n)/256^t/256:=by rw[cS,<-kW]
 have h3:v/256^(t+1)=v/256^t/256:=by rw[cS,<-kW]
 unfold carry at*;rw[h2,h3];omega
def summed(m t v n:Nat):List UInt8:=Rc.be (m-t) (v/256^t)++Rc.be t (v+n)
theorem JI(m v n:Nat):summed m 0 v n=Rc.be m v:=by simp[summed,Rc.be]
theorem M0(m v n:Nat):summed m m v n=Rc.be m (v+n):=by simp[summed,Rc.be]
theorem M3(m t v n:Nat)(h:t<m):(summed m t v n)[m-1-t]? =some (UInt8.ofNat (v/256^t%256)):=by
 unfold summed;obtain⟨j,hj⟩: ∃j,m-t=j+1:=⟨m-t-1,aa⟩
 rw[hj,Rc.be,eY,lH FJ,Rc.gI,show m-1-t-j=0 by omega];rfl
theorem M4(m t v n:Nat)(h:t<m):(summed m t v n).set (m-1-t) (UInt8.ofNat ((v+n)/256^t%256))=summed m (t+1) v n:=by
 unfold summed;obtain⟨j,hj⟩: ∃j,m-t=j+1:=⟨m-t-1,aa⟩
 rw[hj,Rc.be,eY,List.set_append_right _ _ FJ,Rc.gI,show m-1-t-j=0 by omega,show m-(t+1)=j by omega,kW,<-cS];congr 1;have e:Rc.be (t+1) (v+n)=Rc.be (1+t) (v+n):=by rw[Nat.add_comm]
 rw[e,Rc.FS];rfl
theorem mj(h:w.ownsRow base e 1 v n xs)(hb:gz<=base):w.ownsRow gz e 1 v n xs:=by
 rcases h with⟨h1,h2|⟨g,cap,cur,h2,h3,h4⟩⟩
 ·exact⟨h1,.inl h2⟩
 ·exact⟨h1,.inr ⟨g,cap,cur,h2,aa,h4⟩⟩
theorem JJ(h o cap:Nat)(s:Rc.St)(n:Nat)(w:Lo)(hE:jd w h o cap s)(hn:n<4294967296)(hk:4+s.k<=140737488355328):
  Calls prog 243 #[.pointer (some ⟨h,0,none⟩),.int .u64 n] w (Did (vS w h o ⟨s.k,s.v+n,s.r⟩)):=by
 have c0:=mh hE.aE;have hhl:h<w.heap.size:=block_lt_of_cell c0;have aca:=hE.aE;obtain⟨hlen,hrB⟩:=sI hE.own;have Gp:0<4+s.k:=aa;generalize UK:Rc.be (4+s.k) s.v=lb at*;have HLB:=ae UK;generalize hmd:4+s.k=m at*;have HM:=ae hmd;have iO:Value.slice (some ⟨o,0,none⟩) m cap= .slice (some ⟨o,0,none⟩) lb.length cap:=by rw[hlen]
 have ME:=ae iO;have gC:=ae hlen;have bY:([]:An).length+lb.length<=140737488355328:=by rw[<-hlen];simp;omega
 have ho:Own w.heap.size (w.alloc (.cells #[] 5)) (.slice (some ⟨w.heap.size,0,none⟩) 0 0) []:=Own.lit w [] (aF _) ah;have fV:aq w (w.alloc (.cells #[] 5)):=az;have Ey:w.heap.size<=(w.alloc (.cells #[] 5)).heap.size:=fV.size;clear hE UK hmd iO hlen;go_enter func243,ntmps243;go_wp2_with (at_builtin;refine aj rfl (.tmp 6) (.tmp 10) rfl w.heap.size _ _ [] rfl ho (some ⟨o,0,none⟩) lb cap ME.out (hrB.below fV) bY Ey ?_;intro v2 w4 bM dq;have bc:aq w w4:=am fV dq Ey (λg' BI=>(ho.ay g' BI).1);rw[fL]at bM;unfold Own at bM;rw[<-gC.out]at bM;obtain⟨gb,th,rfl,BJ,abU⟩:=World.ownsRow.form bM Gp)
 have acb:=(bc.block h hhl).trans aca;have Gw:h≠gb:=aa;have jD:w4.ownsRow 0 5 1 (.slice (some ⟨gb,0,none⟩) m th) m ((summed m 0 s.v n).map B8):=by rw[JI,HLB.out];exact mj bM (cI _)
 have lq:aM [h] w w4:=⟨bc.os,bc.tape,bc.output,bc.size,λi hi _=>bc.block i hi⟩
 have xz:carry s.v n 0=n:=carry_zero _ _;have HC0:=ae xz;have aqu:=ae acb;clear ho bM dq fV Ey bY c0 aca hrB xz acb;rw[<-HC0.out];go_loopw [1,5] (λa i wr=> ∃t:Nat,t<=m/\i= .int .i64 ((m:Int)-1-(t:Int))/\a= .int .u64 (carry s.v n t:Nat)/\Hid (wr.heap[h]? =w4.heap[h]?)/\wr.ownsRow 0 5 1 (.slice (some ⟨gb,0,none⟩) m th) m ((summed m t s.v n).map B8)/\aM [h] w wr) (λ_ i _=>(intOf i+1).toNat);·exact⟨0,aa,aA,rfl,rfl,jD,lq⟩
 ·
  clear jD lq;obtain⟨t,ht,rfl,rfl,IL,aL,dm⟩:=hrel;by_cases aV:t<m
  ·obtain⟨j,hj⟩: ∃j:Nat,j=m-1-t:=⟨_,rfl⟩
   have zo:(m:Int)-1-(t:Int)=j:=aa;have hjm:j<m:=aa;have co:=aL.cellAt j aa;have fo:=aL.frozenAt j;rw[List.getElem?_map,hj,M3 m t s.v n aV,<-hj]at co;simp only[Option.map]at co;obtain⟨kQ,qx⟩:=aL.stored j (B8 (UInt8.ofNat ((s.v+n)/256^t%256)));rw[<-List.map_set,hj,M4 m t s.v n aV,<-hj]at kQ;have gZ:=V8 s.v n t;have Ib:=MY s.v n t;have TR:=MZ s.v n t;have hby:(UInt8.ofNat (s.v/256^t%256)).toNat=s.v/256^t%256:=nL;have ajK:(UInt8.ofNat ((s.v+n)/256^t%256)).toNat=(s.v+n)/256^t%256:=nL;have eX:s.v/256^t%256<256:=Nat.mod_lt _ aa;have co':wr.cell? ⟨gb,j,none⟩=some (.int .u8 ((s.v/256^t%256:Nat):Int)):=(by rw[co];show some (Value.int .u8 _)=_;rw[hby]);have aqv:(wr.setCell ⟨gb,j,none⟩ (.int .u8 (((s.v+n)/256^t%256:Nat):Int))).ownsRow 0 5 1 (.slice (some ⟨gb,0,none⟩) m th) m ((summed m (t+1) s.v n).map B8):=(by have e:B8 (UInt8.ofNat ((s.v+n)/256^t%256))= .int .u8 (((s.v+n)/256^t%256:Nat):Int):=(by show Value.int .u8 _=_;rw[ajK]);rw[e]at kQ;exact kQ);generalize carry s.v n t=ct at*;generalize ajL:carry s.v n (t+1)=ct1 at*;have HCT:=ae ajL;generalize s.v/256^t%256=bb at*;generalize(s.v+n)/256^t%256=sb at*;have azc:((ct:Int)+(bb:Int))%256=(sb:Int):=aa;have aqw:((ct:Int)+(bb:Int))/256=(ct1:Int):=aa;have hsb:sb<256:=aa;have V9:(wr.setCell ⟨gb,j,none⟩ (.int .u8 (sb:Int))).heap[h]? =w4.heap[h]? :=(heap_setCell_other _ _ _ _ Gw).trans IL.out;have HS:=ae V9;have xD:aM [h] w (wr.setCell ⟨gb,j,none⟩ (.int .u8 (sb:Int))):=dm.setCell (.inr BJ) _;clear co kQ qx Ib TR hby ajK hj ajL V9;rw[zo];go_wp2_with fail;go_roundw;case rel=>exact⟨t+1,aa,aR (Value.int .i64) aa,aR (Value.int .u64) (by rw[HCT.out];exact aqw),HS,aqv,xD⟩
   case measure=>simp[intOf]<;>omega
  ·obtain rfl:t=m:=(by omega);rw[M0]at aL;have nN:=IL.trans aqu.out;have d0:=mh nN;have e0:=aS wr h 0 _ _ nN;have acX:(t:Int)-1-(t:Int)= -1:=aa;rw[acX];generalize carry s.v n t=ct at*;go_wp2_with fail;go_end0;refine⟨rfl,gb,th,⟨?_,?_,Gw⟩,dm.setCell (.inl ah) _,.inr BJ⟩;·show _=some (Obj.cells #[.slice (some ⟨gb,0,none⟩) (4+s.k) th,_] _ _);rw[HM.out];exact EF nN _
   ·show World.ownsRow _ 0 _ 1 (.slice (some ⟨gb,0,none⟩) (4+s.k) th) (4+s.k) ((Rc.be (4+s.k) (s.v+n)).map B8);rw[HM.out];exact dL aL Gw _
theorem ajN(k v:Nat):Rc.be (4+k) v++[0]=Rc.be (4+(k+1)) (v*256):=by rw[<-m6,Rc.be,Nat.mul_div_cancel _ aa,Nat.mul_mod_left];rfl
theorem px(N h o cap:Nat)(s:Rc.St)(w:Lo)(hE:jd w h o cap s)(hf:s.fits)(hk:4+s.k+N<=140737488355328)(hr:16777216<=s.r*256^N):
  Calls prog 244 #[.pointer (some ⟨h,0,none⟩)] w (Did (vS w h o (Rc.St.scale N s))):=by
 go_enter func244,ntmps244;go_wp2_with fail;go_loopg [6] N (λgk s6 wr=> ∃(o' bW:Nat) (t:Rc.St),jd wr h o' bW t/\t.fits/\4+t.k+gk<=140737488355328/\Hid (16777216<=t.r*256^gk)/\Rc.St.scale N s=Rc.St.scale gk t/\aM [h] w wr/\(o'=o\/w.heap.size<=o'));·exact⟨o,cap,s,hE,hf,hk,hr,rfl,aM.refl _ _,.inl rfl⟩
 ·
  obtain⟨o',bW,t,hT,qR,hkt,hrt,hsc,dm,Fw⟩:=hrel;have TD:=ae hsc;have c0:=mh hT.aE;have c1:=oz hT.aE;have f0:=aS wr h 0 _ _ hT.aE;have f1:=aS wr h 1 _ _ hT.aE;clear hsc hE;by_cases aV:t.r<16777216
  ·have Ui:(t.r:Int)<16777216:=(by omega);cases gk with
   | zero=>have:=hrt.out;simp at this;omega
   | succ gk=>
    have hhl:h<wr.heap.size:=block_lt_of_cell c0;have Bh:=oy hT.aE (.int .u64 ((t.r:Int)*256));have eh:=dL (p:=⟨h,1,none⟩) hT.own hT.ne (.int .u64 ((t.r:Int)*256));have gW:=dm.setCell (p:=⟨h,1,none⟩) (.inl ah) (.int .u64 ((t.r:Int)*256));have Gq:(wr.setCell ⟨h,1,none⟩ (.int .u64 ((t.r:Int)*256))).heap.size=wr.heap.size:=ah;generalize JK:wr.setCell ⟨h,1,none⟩ (.int .u64 ((t.r:Int)*256))=w1 at*;have xd:=ae JK;have c01:=mh Bh;have f01:=aS w1 h 0 _ _ Bh;obtain⟨hlen,hrB⟩:=sI eh;have hub:=ae (ajN t.k t.v);generalize UK:Rc.be (4+t.k) t.v=lb at*;have Gp:0<4+t.k:=aa;generalize hmd:4+t.k=m at*;have HM:=ae hmd;have iO:Value.slice (some ⟨o',0,none⟩) m bW= .slice (some ⟨o',0,none⟩) lb.length bW:=(by rw[hlen]);have ME:=ae iO;have gC:=ae hlen;have bY:([]:An).length+lb.length<=140737488355328:=(by rw[<-hlen];simp;omega);have ajO:([]++lb:An).length+[(0:UInt8)].length<=140737488355328:=(by simp;rw[<-hlen];omega);have hoe:Own w1.heap.size (w1.alloc (.cells #[] 5)) (.slice (some ⟨w1.heap.size,0,none⟩) 0 0) []:=Own.lit w1 [] (aF _) ah;have fV:Below w1.heap.size w1 (w1.alloc (.cells #[] 5)):=az;have Ey:w1.heap.size<=(w1.alloc (.cells #[] 5)).heap.size:=fV.size;have ajP:h<w1.heap.size:=aa;have bF:=ae Bh;clear UK hmd iO hlen JK Gq Bh;go_upto_region 2 with(fail)
    rw[xd.out];clear c0 c1 f0 f1
    go_wp2_with (first
     | (at_builtin;refine aj rfl (.tmp 16) (.tmp 20) rfl w1.heap.size _ _ [] rfl hoe (some ⟨o',0,none⟩) lb bW ME.out (hrB.below fV) bY Ey ?_;intro v2 w4 bM dq;have bc:Below w1.heap.size w1 w4:=am fV dq Ey (λg' BI=>(hoe.ay g' BI).1);have mS:Bytes (w4.alloc (.cells #[.int .u8 0] 5)) (some ⟨w4.heap.size,0,none⟩) [0]:=Bytes.one w4 0;have Dx:=bM.alloc (.cells #[.int .u8 0] 5);have p8:=bc.alloc bc.size (.cells #[.int .u8 0] 5);have c04:=(bc.cell (p:=⟨h,0,none⟩) ajP).trans c01)
     | (at_builtin;refine aj rfl (.tmp 21) (.tmp 22) rfl w1.heap.size _ _ _ rfl Dx (some ⟨w4.heap.size,0,none⟩) [0] 1 rfl mS ajO p8.size ?_;intro v3 w5 gU ig;have eS:Below w1.heap.size w1 w5:=am p8 ig p8.size (λg' BI=>(Dx.ay g' BI).1);have Wd:=(eS.block h ajP).trans bF.out;have c05:=mh Wd;have f05:=aS w5 h 0 _ _ Wd;rw[fL]at gU;unfold Own at gU;rw[aG,<-gC.out]at gU;obtain⟨gb,th,rfl,BJ,abU⟩:=World.ownsRow.form gU ah))
    have JG:h≠gb:=aa;have jC:=EF Wd (.slice (some ⟨gb,0,none⟩) (m+1) th);have Vq:=dL (p:=⟨h,0,none⟩) (mj gU (cI _)) JG (.slice (some ⟨gb,0,none⟩) (m+1) th);have ra:aM [h] w w5:=gW.trans (Y:=[]) ⟨eS.os,eS.tape,eS.output,eS.size,λi hi _=>eS.block i hi⟩ ah;have lY:=ra.setCell (p:=⟨h,0,none⟩) (.inl ah) (.slice (some ⟨gb,0,none⟩) (m+1) th);have dF:=gW.size;go_roundg gk;case measure=>omega
    case rel=>
     refine⟨gb,th,t.up,⟨?_,?_,JG⟩,t.FU qR aV,by show 4+(t.k+1)+gk<=_;have:=HM.out;omega,?_,?_,lY,.inr aa⟩;·show _=some (Obj.cells #[.slice (some ⟨gb,0,none⟩) (4+(t.k+1)) th,.int .u64 ((t.r*256:Nat):Int)] _ _);rw[<-m6,HM.out,show((t.r*256:Nat):Int)=(t.r:Int)*256 from aa];exact jC
     ·show World.ownsRow _ 0 _ 1 (.slice (some ⟨gb,0,none⟩) (4+(t.k+1)) th) (4+(t.k+1)) ((Rc.be (4+(t.k+1)) (t.v*256)).map B8);rw[<-hub.out,<-m6,HM.out];exact Vq
     ·show 16777216<=t.r*256*256^gk;have:=hrt.out;rw[cS,dR (256^gk),<-qG]at this;exact this
     ·rw[TD.out,Rc.St.scale,ax aV]
  ·have Dk: ¬(t.r:Int)<16777216:=(by omega);go_wp2_with fail;go_end0;refine⟨rfl,o',bW,?_,dm,Fw⟩;have da:Rc.St.scale gk t=t:=by
    cases gk with
    | zero=>rfl
    | succ gk=>rw[Rc.St.scale,au aV]
   rw[TD.out,da];exact hT
def We(w:Lo)(h o:Nat)(p:Nat)(t:Rc.St)(e:Ending)(w':Lo):Prop:=e= .returned (.int .u16 p)/\vS w h o t w'
theorem Rl(r p:Nat)(hr:r<4294967296)(hp:p<=2047):IntKind.u64.wrap (((r:Int)/2048)*(p:Int))=((r/2048*p:Nat):Int):=by have h:r/2048*p<=r/2048*2047:=AH _ hp;have e:((r:Int)/2048)*(p:Int)=((r/2048*p:Nat):Int):=ah;rw[e,OS _ ⟨aa,aa⟩]
theorem Wf(h o cap:Nat)(s:Rc.St)(c:BitVec 16)(one:Bool)(w:Lo)(hE:jd w h o cap s)(hs:s.ok)(hk:4+s.k+2<=140737488355328):
  Calls prog 204 #[.pointer (some ⟨h,0,none⟩),.int .u16 c.toNat,.int .i64 (et one)] w
   (We w h o (Rc.next (Rc.fair c.toNat) one) (Rc.St.scale 2 (s.pick (Rc.fair c.toNat) one))):=by
 obtain⟨Ld,t8⟩:=Rc.yq c.toNat;have hv:=ae (λw=>V7 c w);generalize Rc.fair c.toNat=p at*;have hsr:=hs.1.2;have ZN:=Rl s.r p hsr t8;have aoE:s.r/2048*p<=s.r/2048*2047:=AH _ t8;generalize Qy:s.r/2048*p=oe at*;have IB:oe<4294967296:=aa;have Dy:oe<=s.r:=aa;have Uk:=ae Qy;clear Qy;have c1:=oz hE.aE;have f1:=aS w h 1 _ _ hE.aE;cases one with
 | false=>
  obtain⟨Ul,Ho⟩:=s.od p false hs Ld t8;have Le:=ae (λw=>EE p false w Ld t8);rw[show et false=0 from rfl];have L3:s.pick p false=⟨s.k,s.v,oe⟩:=by rw[<-Uk.out];rfl
  rw[L3]at Ul Ho ⊢;have vq:jd (w.setCell ⟨h,1,none⟩ (.int .u64 (oe:Int))) h o cap ⟨s.k,s.v,oe⟩:=⟨oy hE.aE _,dL hE.own hE.ne _,hE.ne⟩
  have Hp:=ae (px 2 h o cap ⟨s.k,s.v,oe⟩ _ vq Ul (by show 4+s.k+2<=_;exact hk) (by show 16777216<=oe*256^2;have:8192<=oe:=Ho;omega));go_enter func204,ntmps204;go_wp2_with fail;refine(hv _).mono ?_;rintro e w' ⟨rfl,rfl⟩;go_wp2_with fail;refine Hp.mono ?_;rintro e w1 ⟨rfl,o',bW,IC,dm,ho⟩;go_wp2_with fail;refine(Le _).mono ?_;rintro e w' ⟨rfl,rfl⟩;go_wp2;go_ret;exact⟨rfl,o',bW,IC,((aM.refl _ _).setCell (p:=⟨h,1,none⟩) (.inl ah) _).trans dm ah,by rcases ho with h|h;exact .inl h;exact .inr qH⟩
 | true=>
  obtain⟨Ul,Ho⟩:=s.od p true hs Ld t8;have Le:=ae (λw=>EE p true w Ld t8);rw[show et true=1 from rfl];have L3:s.pick p true=⟨s.k,s.v+oe,s.r-oe⟩:=by rw[<-Uk.out];rfl
  rw[L3]at Ul Ho ⊢;have vr:=ae (JJ h o cap s oe w hE IB aa);have aoF:(s.r:Int)-(oe:Int)=((s.r-oe:Nat):Int):=aa;go_enter func204,ntmps204;go_wp2_with fail;refine(hv _).mono ?_;rintro e w' ⟨rfl,rfl⟩;go_wp2_with fail;refine vr.mono ?_;rintro e w1 ⟨rfl,o1,JM,Qz,ID,Dx⟩;have d1:=oz Qz.aE;have e1:=aS w1 h 1 _ _ Qz.aE;have vq:jd (w1.setCell ⟨h,1,none⟩ (.int .u64 ((s.r-oe:Nat):Int))) h o1 JM ⟨s.k,s.v+oe,s.r-oe⟩:=⟨oy Qz.aE _,dL Qz.own Qz.ne _,Qz.ne⟩
  have Hp:=ae (px 2 h o1 JM ⟨s.k,s.v+oe,s.r-oe⟩ _ vq Ul (by show 4+s.k+2<=_;exact hk) (by show 16777216<=(s.r-oe)*256^2;have:8192<=s.r-oe:=Ho;omega));simp only at d1;go_wp2_with fail;refine Hp.mono ?_;rintro e w2 ⟨rfl,o',bW,IC,dm,ho⟩;go_wp2_with fail;refine(Le _).mono ?_;rintro e w' ⟨rfl,rfl⟩;go_wp2;go_ret;have dF:=ID.size;refine⟨rfl,o',bW,IC,(ID.setCell (p:=⟨h,1,none⟩) (.inl ah) _).trans dm ah,?_⟩;rcases ho with h1|h1;·rw[h1];exact Dx
  ·exact .inr (by simp at h1;omega)
def Wg(w:Lo)(e:Ending)(w':Lo):Prop:= ∃h o cap,e= .returned (.pointer (some ⟨h,0,none⟩))/\jd w' h o cap Ec/\Below w.heap.size w w'/\w.heap.size<=h/\w.heap.size<=o
theorem Wh(w:Lo):Calls prog 124 #[] w (Wg w):=by
 obtain⟨i,hi,qw,kC,me⟩:=info_parts tz;go_enter func124,ntmps124;go_wp2_with (refine wpList_make_full _ rfl _ _ 22 rfl w.heap.size 5 i (.int .u8 0) 1 underlying22 hi qw kC _ _ _ _ 4 rfl rfl rfl rfl qL iJ (aF _) ?_;intro w1 eh lN)
 have aI:aq w w1:=am (aP _ _) lN (aF _) ah;have dF:=aI.size;have aV:=(jO eh w.heap.size rfl).2;go_ret;refine⟨w1.heap.size,w.heap.size,4,rfl,⟨heap_alloc_new w1 _,?_,aa⟩,aI.alloc dF _,dF,aF _⟩;refine World.ownsRow.alloc ?_ _;show World.ownsRow _ 0 _ 1 (.slice (some ⟨w.heap.size,0,none⟩) (4+0) 4) (4+0) ((Rc.be (4+0) 0).map B8);have e:(madeCells (Value.int .u8 0).cells (4*1)).toList=(Rc.be (4+0) 0).map B8:=by rw[Nat.mul_one,show(Value.int .u8 0).cells= #[Value.int .u8 0]from rfl,toList_madeCells_one];rfl
 rw[<-e];exact mj eh (cI _)
end Go.Proofs.YtfcaoggfnkhfiaaGreatDoor
