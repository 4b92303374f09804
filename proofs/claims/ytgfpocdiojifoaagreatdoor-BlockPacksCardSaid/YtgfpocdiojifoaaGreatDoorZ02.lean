import Derived.Test.YtgfpocdiojifoaaGreatDoorZ01
import Derived.BigRegion
import Derived.Deep.RegionLaw
import Derived.Deep.LoopGhost
import Derived.Deep.DeepCutAuto
import Derived.Deep.RegionHeld3
import Derived.Lib.MinMax
import Derived.Deep.CutBlock
namespace Go.Proofs.YtgfpocdiojifoaaGreatDoor
set_option maxRecDepth 100000
set_option maxHeartbeats 8000000
open Go.RowKit Go.Proofs.Tryz
variable{p:Addr}{lc lp pb st:Int}{P X:List Nat}{xs:List Value}{C base cap e g n o:Nat}{fr:Nat×Nat}{r:R4}{t:TypeId}{a b c d vP vR:Value}{w w':World}
namespace Rc
def be:Nat→Nat→List UInt8
 | 0,_=>[]
 | n+1,v=>be n (v/256)++[UInt8.ofNat (v%256)]
theorem fH(n v:Nat):(be n v).length=n:=by
 induction n generalizing v with
 | zero=>rfl
 | succ n ih=>simp[be,ih]
theorem Ox(n v:Nat):be n (v%256^n)=be n v:=by
 induction n generalizing v with
 | zero=>rfl
 | succ n ih=>
  simp only[be];have h1:v%256^(n+1)/256=v/256%256^n:=by rw[Nat.pow_succ,Nat.mul_comm,Nat.mod_mul_right_div_self]
  have h2:v%256^(n+1)%256=v%256:=by rw[Nat.pow_succ,Nat.mod_mul_left_mod]
  rw[h1,h2,ih]
theorem Bm(m n v:Nat):be (m+n) v=be m (v/256^n)++be n v:=by
 induction n generalizing v with
 | zero=>simp[be]
 | succ n ih=>
  rw[←Nat.add_assoc];simp only[be];rw[ih,←List.append_assoc];congr 2;rw[Nat.div_div_eq_div_mul,Nat.pow_succ,Nat.mul_comm]
theorem JN(n:Nat):be n 0=List.replicate n 0:=by
 induction n with
 | zero=>rfl
 | succ n ih=>simp only[be];rw[Nat.zero_div,ih,List.replicate_succ',Nat.zero_mod];rfl
theorem TX(n v:Nat)(h:v<256^n):be (1+n) v=0::be n v:=by rw[Bm,Nat.div_eq_of_lt h];rfl
structure St where
 k:Nat
 v:Nat
 r:Nat
def St.fits(s:St):Prop:=s.v+s.r≤256^(4+s.k)∧s.r<4294967296
def St.ok(s:St):Prop:=s.fits∧16777216≤s.r
def St.up(s:St):St:=⟨s.k+1,s.v*256,s.r*256⟩
def St.scale:Nat→St→St
 | 0,s=>s
 | n+1,s=>if s.r<16777216 then St.scale n s.up else s
theorem St.Bn(s:St)(h:s.fits)(hr:s.r<16777216):s.up.fits:=by
 refine⟨?_,?_⟩;·show s.v*256+s.r*256≤256^(4+(s.k+1));rw[←Nat.add_assoc 4,Nat.pow_succ,←Nat.add_mul];exact Nat.mul_le_mul_right _ h.1
 ·show s.r*256<4294967296;omega
def fair(c:Nat):Nat:=if c<1∨2048≤c then 1024 else c
theorem tU(c:Nat):1≤fair c∧fair c≤2047:=by unfold fair;split<;>omega
def next(p:Nat)(one:Bool):Nat:=if one then p-p/32 else p+(2048-p)/32
def St.pick(s:St)(p:Nat)(one:Bool):St:=if one then⟨s.k,s.v+s.r/2048*p,s.r-s.r/2048*p⟩else⟨s.k,s.v,s.r/2048*p⟩
theorem St.lC(s:St)(p:Nat)(one:Bool)(h:s.ok)(h1:1≤p)(h2:p≤2047):(s.pick p one).fits∧8192≤(s.pick p one).r:=by
 have hb:s.r/2048*p≤s.r/2048*2047:=Nat.mul_le_mul_left _ h2;have aC:s.r/2048*1≤s.r/2048*p:=Nat.mul_le_mul_left _ h1;obtain⟨⟨KT,hf2⟩,hr⟩:=h;unfold St.pick St.fits;cases one;·simp only[Bool.false_eq_true,if_false];omega
 ·simp only[if_true];omega
def ig(m t V:Nat):List UInt8:=be (m-t) (V/256^t)++List.replicate t 0
theorem Dt(m V:Nat):ig m 0 V=be m V:=by simp[ig]
theorem rm(m t V:Nat)(h:t<m):ig m t V=be (m-(t+1)) (V/256^(t+1))++(UInt8.ofNat (V/256^t%256)::List.replicate t 0):=by
 unfold ig;obtain⟨j,hj⟩: ∃j,m-t=j+1:=⟨m-t-1,aa⟩
 rw[hj,show m-(t+1)=j by omega,be,Nat.div_div_eq_div_mul,Nat.pow_succ,List.append_assoc];rfl
theorem Gr(m t V:Nat)(h:t<m):(ig m t V)[m-1-t]? =some (UInt8.ofNat (V/256^t%256)):=by rw[rm m t V h,List.getElem?_append_right (by rw[fH];omega),fH,show m-1-t-(m-(t+1))=0 by omega];rfl
theorem vY(m t V:Nat)(h:t<m)(x:UInt8):(ig m t V).set (m-1-t) x=be (m-(t+1)) (V/256^(t+1))++(x::List.replicate t 0):=by rw[rm m t V h,List.set_append_right _ _ (by rw[fH];omega),fH,show m-1-t-(m-(t+1))=0 by omega];rfl
theorem Du(m t V:Nat)(h:t<m):(ig m t V).set (m-1-t) 0=ig m (t+1) V:=by rw[vY m t V h];unfold ig;rw[List.replicate_succ]
theorem Oy(t V:Nat)(h:V%256^t=256^t-1)(h2:V/256^t%256=255):V%256^(t+1)=256^(t+1)-1:=by have hp:0<256^t:=Nat.pos_of_ne_zero ae;rw[Nat.pow_succ,Nat.mod_mul,h,h2];omega
theorem succ_div(t V:Nat)(h:V%256^t=256^t-1):V+1=(V/256^t+1)*256^t:=by have hp:0<256^t:=Nat.pos_of_ne_zero ae;have:=Nat.div_add_mod V (256^t);rw[Nat.add_mul,Nat.mul_comm (V/256^t)];omega
theorem Dv(m t V:Nat)(h:t<m)(hv:V%256^t=256^t-1)(h2:V/256^t%256≠255):
  (ig m t V).set (m-1-t) (UInt8.ofNat (V/256^t%256)+1)=be m (V+1):=by
 have hp:0<256^t:=Nat.pos_of_ne_zero ae;rw[vY m t V h];have e1:be m (V+1)=be (m-t) (V/256^t+1)++List.replicate t 0:=by
  conv=>lhs;rw[show m=(m-t)+t by omega]
  rw[Bm,succ_div t V hv,Nat.mul_div_cancel _ hp];congr 1;rw[←Ox,Nat.mul_mod_left,JN]
 rw[e1];obtain⟨j,hj⟩: ∃j,m-t=j+1:=⟨m-t-1,aa⟩
 rw[hj,show m-(t+1)=j by omega,be];have e2:(V/256^t+1)/256=V/256^(t+1):=by rw[Nat.pow_succ,←Nat.div_div_eq_div_mul];omega
 have e3:UInt8.ofNat ((V/256^t+1)%256)=UInt8.ofNat (V/256^t%256)+1:=by apply UInt8.toNat_inj.1;rw[UInt8.toNat_add,UInt8.toNat_ofNat',UInt8.toNat_ofNat'];simp
 rw[e2,e3,List.append_assoc];rfl
theorem Gs(m V:Nat)(hv:V%256^m=256^m-1):ig m m V=be m (V+1):=by unfold ig;rw[Nat.sub_self,be,List.nil_append,←Ox,succ_div m V hv,Nat.mul_mod_left,JN]
end Rc
structure az(X:List Nat)(w w':World):Prop where
 os:w'.os=w.os
 tape:w'.tape=w.tape
 output:w'.output=w.output
 size:w.heap.size≤w'.heap.size
 block: ∀i,i<w.heap.size→i ∉ X→w'.heap[i]? =w.heap[i]?
theorem az.refl(X:List Nat)(w:World):az X w w:=⟨rfl,rfl,rfl,Nat.le_refl _,fun _ _ _=>rfl⟩
theorem az.trans{Y:List Nat}{a b c:World}(h:az X a b)(k:az Y b c)(hY: ∀i∈Y,i∈X∨a.heap.size≤i):az X a c:=
 ⟨k.os.trans h.os,k.tape.trans h.tape,k.output.trans h.output,Nat.le_trans h.size k.size,fun i hi hX=>
  (k.block i (Nat.lt_of_lt_of_le hi h.size) (fun hm=>by rcases hY i hm with h1 | h1;exact hX h1;omega)).trans (h.block i hi hX)⟩
theorem az.alloc{a b:World}(h:az X a b)(o:Obj):az X a (b.alloc o):=
 h.trans (Y:=[]) ⟨rfl,rfl,rfl,ae,fun i hi _=>Below.heap_alloc b o i hi⟩ ae
theorem az.setCell{a b:World}(h:az X a b)(hp:p.block∈X∨a.heap.size≤p.block)(u:Value):az X a (b.setCell p u):=
 h.trans (Y:=[p.block]) ⟨rfl,rfl,rfl,ae,fun i _ hm=>Below.heap_setCell b p u i (by simpa using hm)⟩ (by simpa using hp)
theorem az.drew{a b:World}(h:az X a b):az X a b.drew:=⟨h.os,h.tape,h.output,h.size,h.block⟩
theorem az.grown{a b c:World}(h:az X a b)(hg:b.grownBy c (some o))(ho:o∈X∨a.heap.size≤o):az X a c:=
 h.trans (Y:=[o]) ⟨hg.os,hg.tape,hg.output,hg.size,fun i hi hm=>hg.block i hi (by simpa using hm)⟩ (by simpa using ho)
theorem az.below{a b:World}{B:Nat}(h:az X a b)(hB:B≤a.heap.size)(hX: ∀i∈X,B≤i):Below B a b:=
 ⟨h.os,h.tape,h.output,h.size,fun i hi=>h.block i aa (fun hm=>ar (hX i hm))⟩
structure fk(w:World)(g o cap:Nat)(s:Rc.St):Prop where
 ax:w.heap[g]? =some (.cells #[.int .u32 ((s.v%4294967296:Nat):Int),.int .u32 ((s.r:Nat):Int),.slice (some ⟨o,0,none⟩) (1+s.k) cap] 239 (0,0))
 own:w.ownsRow 0 5 1 (.slice (some ⟨o,0,none⟩) (1+s.k) cap) (1+s.k) ((Rc.be (1+s.k) (s.v/4294967296)).map B8)
 ne:g≠o
theorem KU(c:BitVec 16)(w:World):Calls prog 258 #[.int .u16 c.toNat] w fun e w'=>e= .returned (.int .u16 (Rc.fair c.toNat:Nat))∧w=w':=by
 have hc:=c.isLt;by_cases h1:c.toNat<1
 ·have hf:Rc.fair c.toNat=1024:=by unfold Rc.fair;rw[if_pos (.inl h1)]
  rw[hf];have h1':(c.toNat:Int)<1:=aa;go_enter func258,ntmps258;go_wp2_with fail;go_ret;exact⟨rfl,rfl⟩
 ·by_cases h2:2048≤c.toNat;·have hf:Rc.fair c.toNat=1024:=(by unfold Rc.fair;rw[if_pos (.inr h2)]);rw[hf];have h1': ¬(c.toNat:Int)<1:=aa;have h2':(2048:Int)≤c.toNat:=aa;go_enter func258,ntmps258;go_wp2_with fail;go_ret;exact⟨rfl,rfl⟩
  ·have hf:Rc.fair c.toNat=c.toNat:=(by unfold Rc.fair;rw[if_neg aa]);rw[hf];have h1': ¬(c.toNat:Int)<1:=aa;have h2': ¬(2048:Int)≤c.toNat:=aa;go_enter func258,ntmps258;go_wp2_with fail;go_ret;exact⟨rfl,rfl⟩
def dl(one:Bool):Int:=if one then 1 else 0
theorem zx(p:Nat)(one:Bool)(w:World)(h1:1≤p)(h2:p≤2047):Calls prog 259 #[.int .u16 p,.int .i64 (dl one)] w fun e w'=>e= .returned (.int .u16 (Rc.next p one:Nat))∧w=w':=by
 cases one
 ·have hn:((Rc.next p false:Nat):Int)=(p:Int)+(2048-(p:Int))/32:=by simp only[Rc.next,Bool.false_eq_true,if_false];omega
  have HN:=hdd hn;clear hn;unfold dl;simp only[Bool.false_eq_true,if_false];go_enter func259,ntmps259;go_wp2_with fail;go_ret;exact⟨congrArg (fun n:Int=>Ending.returned (Value.int .u16 n)) HN.out.symm,rfl⟩
 ·have hn:((Rc.next p true:Nat):Int)=(p:Int)-(p:Int)/32:=by simp only[Rc.next,if_true];omega
  have HN:=hdd hn;clear hn;unfold dl;simp only[if_true];go_enter func259,ntmps259;go_wp2_with fail;go_ret;exact⟨congrArg (fun n:Int=>Ending.returned (Value.int .u16 n)) HN.out.symm,rfl⟩
theorem YD(b:UInt8):((b.toNat:Int)+1)%256=((b+1).toNat:Int):=by rw[UInt8.toNat_add];simp
theorem Dw(i q g o n cap:Nat)(b:UInt8)(w:World)(hi:i<n)(_hn:n≤9223372036854775807)(hqo:q≠o)(JO:g≠o)
  (cq:w.cell? ⟨q,0,none⟩=some (.pointer (some ⟨g,0,none⟩))) (cg:w.cell? ⟨g,2,none⟩=some (.slice (some ⟨o,0,none⟩) n cap))
  (co:w.cell? ⟨o,i,none⟩=some (.int .u8 (b.toNat:Nat))) (fo:w.frozen? ⟨o,i,none⟩=false):
  Calls prog 261 #[.int .i64 i,.pointer (some ⟨q,0,none⟩)] w fun e w'=>e= .returned (.bool (((b+1).toNat:Int)==0))∧w'=w.setCell ⟨o,i,none⟩ (B8 (b+1)):=by
 have aqZ:=YD b;have hb:=b.toNat_lt;generalize hs:b+1=s at*;have HS:=hdd hs;clear hs;have e1:(⟨q,0,none⟩:Addr)≠⟨o,i,none⟩:=fun e=>hqo (congrArg Addr.block e);have e2:(⟨g,2,none⟩:Addr)≠⟨o,i,none⟩:=fun e=>JO (congrArg Addr.block e);have d1:(w.setCell ⟨o,i,none⟩ (B8 s)).cell? ⟨q,0,none⟩=some (.pointer (some ⟨g,0,none⟩)):=(World.cell?_setCell_other _ _ _ _ (fun e=>e1 e.symm)).trans cq;have d2:(w.setCell ⟨o,i,none⟩ (B8 s)).cell? ⟨g,2,none⟩=some (.slice (some ⟨o,0,none⟩) n cap):=(World.cell?_setCell_other _ _ _ _ (fun e=>e2 e.symm)).trans cg;go_enter func261,ntmps261;go_wp2_with fail;go_ret;exact⟨rfl,rfl⟩
theorem vZ(h:w.heap[g]? =some (.cells #[a,b,c] t (0,0)))(u:Value):(w.setCell ⟨g,0,none⟩ u).heap[g]? =some (.cells #[u,b,c] t (0,0)):=by rw[heap_setCell_same w g 0 _ t u h];rfl
theorem nF(h:w.heap[g]? =some (.cells #[a,b,c] t (0,0)))(u:Value):(w.setCell ⟨g,1,none⟩ u).heap[g]? =some (.cells #[a,u,c] t (0,0)):=by rw[heap_setCell_same w g 1 _ t u h];rfl
theorem Oz(h:w.heap[g]? =some (.cells #[a,b,c] t (0,0)))(u:Value):(w.setCell ⟨g,2,none⟩ u).heap[g]? =some (.cells #[a,b,u] t (0,0)):=by rw[heap_setCell_same w g 2 _ t u h];rfl
theorem cS(h:w.ownsRow 0 e 1 (.slice (some ⟨o,0,none⟩) n cap) n xs)(hp:p.block≠o)(u:Value):(w.setCell p u).ownsRow 0 e 1 (.slice (some ⟨o,0,none⟩) n cap) n xs:=
 World.ownsRow.kept (row:=some p.block) h ⟨rfl,rfl,rfl,ae,fun j _ hj=>heap_setCell_other _ _ j _ (fun e=>hj (by simp[e]))⟩ (.inr (by simpa [Value.ownBlock]using fun e=>hp e.symm))
theorem YE(x:Nat)(h:x<256)(h2:x≠255):((((UInt8.ofNat x+1:UInt8)).toNat:Int)==0)=false:=by rw[beq_eq_false_iff_ne,UInt8.toNat_add,UInt8.toNat_ofNat'];simp;omega
def Did(P:World→Prop)(e:Ending)(w':World):Prop:=e= .returned (.tuple #[])∧P w'
theorem JP(g o cap:Nat)(s:Rc.St)(n:Nat)(w:World)(hE:fk w g o cap s)(hn:n<4294967296)(hk:1+s.k≤9223372036854775807):
  Calls prog 260 #[.pointer (some ⟨g,0,none⟩),.int .u32 n] w (Did fun w'=>fk w' g o cap ⟨s.k,s.v+n,s.r⟩∧az [g,o] w w'):=by
 have c0:w.cell? ⟨g,0,none⟩=some (.int .u32 ((s.v%4294967296:Nat):Int)):=by rw[cell_of_row _ _ _ _ _ _ hE.ax];rfl
 have f0:w.frozen? ⟨g,0,none⟩=false:=frozen_of_row _ _ _ _ _ hE.ax;have qc:g<w.heap.size:=block_lt_of_cell c0;generalize OA:s.v%4294967296=low at*;have sN:low<4294967296:=aa;have Gt:=hdd OA;clear OA;by_cases air:low+n<4294967296
 ·have hq:((low:Int)+(n:Int))/4294967296=0:=by omega
  have hr:((low:Int)+(n:Int))%4294967296=(((low+n:Nat)):Int):=aa;go_enter func260,ntmps260;go_wp2_with fail;refine bodyPost_ret (results_none rfl _ _ _) rfl ⟨rfl,?_,?_⟩
  ·refine⟨?_,?_,hE.ne⟩;·rw[Below.heap_alloc _ _ _ (by simpa using qc),vZ hE.ax];have e1:(s.v+n)%4294967296=low+n:=ar Gt.out;show some (Obj.cells #[.int .u32 ((low:Int)+(n:Int)),_,_] _ _)=some (Obj.cells #[.int .u32 (((s.v+n)%4294967296:Nat):Int),_,_] _ _);rw[e1];rfl
   ·have e2:(s.v+n)/4294967296=s.v/4294967296:=ar Gt.out;show World.ownsRow _ 0 _ 1 _ _ ((Rc.be (1+s.k) ((s.v+n)/4294967296)).map B8);rw[e2];exact World.ownsRow.alloc (cS hE.own hE.ne _) _
  ·exact((az.refl _ _).setCell ae _).alloc _
 ·obtain⟨lo,we⟩: ∃lo,low+n=lo+4294967296:=⟨low+n-4294967296,aa⟩
  have hq:((low:Int)+(n:Int))/4294967296=1:=aa;have hr:((low:Int)+(n:Int))%4294967296=(lo:Int):=aa;have c2:w.cell? ⟨g,2,none⟩=some (.slice (some ⟨o,0,none⟩) (1+s.k) cap):=by rw[cell_of_row _ _ _ _ _ _ hE.ax];rfl
  have hol:o<w.heap.size:=by have:=World.ownsRow.lt hE.own o rfl;exact this.2
  have dr:=hE.ne;have c2':(w.setCell ⟨g,0,none⟩ (.int .u32 lo)).cell? ⟨g,2,none⟩=some (.slice (some ⟨o,0,none⟩) (1+s.k) cap):=(World.cell?_setCell_other _ _ _ _ ae).trans c2;have gh:(1:Int)≤((1+s.k:Nat):Int):=aa;have aD:=hE.own;generalize KV:1+s.k=m at*;have HM:=hdd KV;have HLO:=hdd we;clear KV we;go_enter func260,ntmps260;go_wp2_with fail;rw[hr];have wg:((w.setCell ⟨g,0,none⟩ (.int .u32 lo)).alloc (.cells #[.pointer (some ⟨g,0,none⟩)] 196)).heap[g]? =some (.cells #[.int .u32 lo,.int .u32 ((s.r:Nat):Int),.slice (some ⟨o,0,none⟩) m cap] 239 (0,0)):=by rw[Below.heap_alloc _ _ _ (by simpa using qc)];have hb:=hE.ax;rw[HM.out]at hb;exact vZ hb _
  have FS:((w.setCell ⟨g,0,none⟩ (.int .u32 lo)).alloc (.cells #[.pointer (some ⟨g,0,none⟩)] 196)).heap[w.heap.size]? =some (.cells #[.pointer (some ⟨g,0,none⟩)] 196 (0,0)):=by have:=heap_alloc_new (w.setCell ⟨g,0,none⟩ (.int .u32 lo)) (.cells #[.pointer (some ⟨g,0,none⟩)] 196);simpa using this
  have cE:((w.setCell ⟨g,0,none⟩ (.int .u32 lo)).alloc (.cells #[.pointer (some ⟨g,0,none⟩)] 196)).ownsRow 0 5 1 (.slice (some ⟨o,0,none⟩) m cap) m ((Rc.ig m 0 (s.v/4294967296)).map B8):=by rw[Rc.Dt];exact World.ownsRow.alloc (cS aD dr _) _
  have ff:az [g,o] w ((w.setCell ⟨g,0,none⟩ (.int .u32 lo)).alloc (.cells #[.pointer (some ⟨g,0,none⟩)] 196)):=((az.refl _ _).setCell ae _).alloc _;generalize(w.setCell ⟨g,0,none⟩ (.int .u32 lo)).alloc (.cells #[.pointer (some ⟨g,0,none⟩)] 196)=w1 at*;generalize hQ:w.heap.size=q at*;have hqg:g<q:=qc;have hqo:o<q:=hol;have HQ:=hdd hQ;have tV: ∀w',w'.heap[g]? =some (.cells #[.int .u32 lo,.int .u32 ((s.r:Nat):Int),.slice (some ⟨o,0,none⟩) m cap] 239 (0,0))→w'.ownsRow 0 5 1 (.slice (some ⟨o,0,none⟩) m cap) m ((Rc.be m (s.v/4294967296+1)).map B8)→fk w' g o cap ⟨s.k,s.v+n,s.r⟩:=by
   intro w' h1 h2;have e1:(s.v+n)%4294967296=lo:=(by have:=Gt.out;have:=HLO.out;omega);have e2:(s.v+n)/4294967296=s.v/4294967296+1:=(by have:=Gt.out;have:=HLO.out;omega);refine⟨?_,?_,dr⟩;·show w'.heap[g]? =some (.cells #[.int .u32 (((s.v+n)%4294967296:Nat):Int),.int .u32 ((s.r:Nat):Int),.slice (some ⟨o,0,none⟩) (1+s.k) cap] _ (0,0));rw[e1,HM.out];exact h1
   ·show w'.ownsRow 0 _ 1 (.slice (some ⟨o,0,none⟩) (1+s.k) cap) (1+s.k) ((Rc.be (1+s.k) ((s.v+n)/4294967296)).map B8);rw[e2,HM.out];exact h2
  have WV:=hdd tV;clear tV hr hq c0 c2 c2' f0 hE aD air hQ qc hol;generalize s.v/4294967296=V at*;go_loopw [6] (fun i wr=> ∃t:Nat,t≤m∧i= .int .i64 ((m:Int)-1-(t:Int))∧Hid (V%256^t=256^t-1)∧wr.heap[g]? =some (.cells #[.int .u32 lo,.int .u32 ((s.r:Nat):Int),.slice (some ⟨o,0,none⟩) m cap] 239 (0,0))∧wr.heap[q]? =some (.cells #[.pointer (some ⟨g,0,none⟩)] 196 (0,0))∧wr.ownsRow 0 5 1 (.slice (some ⟨o,0,none⟩) m cap) m ((Rc.ig m t V).map B8)∧az [g,o] w wr) (fun i _=>(intOf i+1).toNat);case atStart=>exact⟨0,aa,aq,by simp[Hid,Nat.mod_one],wg,FS,cE,ff⟩
  case round=>
   clear wg FS cE ff;obtain⟨t,ht,rfl,dv,nh,YF,aD,bU⟩:=hrel;by_cases aF:t<m
   ·obtain⟨j,hj⟩: ∃j:Nat,j=m-1-t:=⟨_,rfl⟩
    have yL:(m:Int)-1-(t:Int)=(j:Int):=aa;have hjm:j<m:=aa;have cq:wr.cell? ⟨q,0,none⟩=some (.pointer (some ⟨g,0,none⟩)):=(by rw[cell_of_row _ _ _ _ _ _ YF];rfl);have cg:wr.cell? ⟨g,2,none⟩=some (.slice (some ⟨o,0,none⟩) m cap):=(by rw[cell_of_row _ _ _ _ _ _ nh];rfl);have co:=aD.cellAt j aa;have fo:=aD.frozenAt j;rw[List.getElem?_map,hj,Rc.Gr m t V aF,←hj]at co;simp only[Option.map]at co;obtain⟨kG,ro⟩:=aD.stored j (B8 (UInt8.ofNat (V/256^t%256)+1));rw[←List.map_set]at kG;have td:az [g,o] w (wr.setCell ⟨o,j,none⟩ (B8 (UInt8.ofNat (V/256^t%256)+1))):=bU.setCell ae _;have OB:(wr.setCell ⟨o,j,none⟩ (B8 (UInt8.ofNat (V/256^t%256)+1))).heap[g]? =some (.cells #[.int .u32 lo,.int .u32 ((s.r:Nat):Int),.slice (some ⟨o,0,none⟩) m cap] 239 (0,0)):=(heap_setCell_other _ _ _ _ dr).trans nh;have ab6:(wr.setCell ⟨o,j,none⟩ (B8 (UInt8.ofNat (V/256^t%256)+1))).heap[q]? =some (.cells #[.pointer (some ⟨g,0,none⟩)] 196 (0,0)):=(heap_setCell_other _ _ _ _ av).trans YF;have JQ:=hdd (Dw j q g o m cap (UInt8.ofNat (V/256^t%256)) wr hjm hk aa dr cq cg co fo);have vU:(0:Int)≤(j:Int):=aa;by_cases KW:V/256^t%256=255
    ·have hz:UInt8.ofNat (V/256^t%256)+1=0:=(by rw[KW];decide);rw[hz,hj,Rc.Du m t V aF]at kG;rw[hz]at JQ td OB ab6;have HN:=hdd (Rc.Oy t V dv.out KW);have HJ:=hdd hj;rw[←hj]at kG;clear hz ro co cq cg fo hj KW;rw[yL];go_wp2_with fail;refine JQ.out.mono ?_;rintro e w' ⟨rfl,rfl⟩;go_wp2_with fail;go_roundw;case rel=>exact⟨t+1,aa,congrArg (Value.int .i64) aa,HN,OB,ab6,kG,td⟩
     case measure=>simp[intOf]<;>omega
    ·have hx:=YE (V/256^t%256) (Nat.mod_lt _ aa) KW;rw[hj,Rc.Dv m t V aF dv.out KW,←hj]at kG;rw[hx]at JQ;generalize UInt8.ofNat (V/256^t%256)+1=x at*;clear ro co cq cg fo hj KW hx;rw[yL];go_wp2_with fail;refine JQ.out.mono ?_;rintro e w' ⟨rfl,rfl⟩;go_wp2_with fail;go_end0;exact⟨rfl,WV.out _ OB kG,td⟩
   ·obtain rfl:t=m:=(by omega);rw[Rc.Gs t V dv.out]at aD;have YG:(t:Int)-1-(t:Int)= -1:=aa;rw[YG];go_wp2_with fail;go_end0;exact⟨rfl,WV.out _ nh aD,bU⟩
def Bo(w:World)(g o:Nat)(t:Rc.St)(w':World):Prop:= ∃o' bw,fk w' g o' bw t∧az [g,o] w w'∧(o'=o∨w.heap.size≤o')
theorem OC(v lw:Nat)(h:v%4294967296=lw):IntKind.u8.wrap ((lw:Int)/16777216)=((UInt8.ofNat (v/16777216%256)).toNat:Int):=by rw[IntKind.wrap_u8',UInt8.toNat_ofNat'];omega
theorem YH(v lw:Nat)(h:v%4294967296=lw):((lw:Int)*256)%4294967296=((v*256%4294967296:Nat):Int):=aa
theorem OD(k v:Nat):Rc.be (1+k) (v/4294967296)++[UInt8.ofNat (v/16777216%256)]=Rc.be (1+(k+1)) (v*256/4294967296):=by rw[←Nat.add_assoc,Rc.be,show v*256/4294967296=v/16777216 by omega,Nat.div_div_eq_div_mul]
theorem wi(h:w.heap[g]? =some (.cells #[a,b,c] t fr)):w.cell? ⟨g,0,none⟩=some a:=vE
theorem rr(h:w.heap[g]? =some (.cells #[a,b,c] t fr)):w.cell? ⟨g,1,none⟩=some b:=vE
theorem Dx(h:w.heap[g]? =some (.cells #[a,b,c] t fr)):w.cell? ⟨g,2,none⟩=some c:=vE
theorem oN(N g o cap:Nat)(s:Rc.St)(w:World)(hE:fk w g o cap s)(hf:s.fits)(hk:1+s.k+N≤140737488355328)(hr:16777216≤s.r*256^N):
  Calls prog 257 #[.pointer (some ⟨g,0,none⟩)] w (Did (Bo w g o (Rc.St.scale N s))):=by
 obtain⟨i,hi,nE,gU,qR⟩:=info_parts pE;go_enter func257,ntmps257;go_wp2_with fail;go_loopg [6] N (fun gk s6 wr=> ∃(o' bw:Nat) (t:Rc.St),fk wr g o' bw t∧t.fits∧1+t.k+gk≤140737488355328∧Hid (16777216≤t.r*256^gk)∧Rc.St.scale N s=Rc.St.scale gk t∧az [g,o] w wr∧(o'=o∨w.heap.size≤o'));case atStart=>exact⟨o,cap,s,hE,hf,hk,hr,rfl,az.refl _ _,.inl rfl⟩
 case round=>
  obtain⟨o',bw,t,hT,TY,hkt,hrt,YI,bU,AT⟩:=hrel;have NU:=hdd YI;have c0:wr.cell? ⟨g,0,none⟩=some (.int .u32 ((t.v%4294967296:Nat):Int)):=F8;have c1:wr.cell? ⟨g,1,none⟩=some (.int .u32 ((t.r:Nat):Int)):=F8;have c2:wr.cell? ⟨g,2,none⟩=some (.slice (some ⟨o',0,none⟩) (1+t.k) bw):=F8;have f0:wr.frozen? ⟨g,0,none⟩=false:=frozen_of_row _ _ _ _ _ hT.ax;have f1:wr.frozen? ⟨g,1,none⟩=false:=frozen_of_row _ _ _ _ _ hT.ax;have f2:wr.frozen? ⟨g,2,none⟩=false:=frozen_of_row _ _ _ _ _ hT.ax;clear YI hE;by_cases aF:t.r<16777216
  ·have OE:(t.r:Int)<16777216:=(by omega);cases gk with
   | zero=>have:=hrt.out;simp at this;omega
   | succ gk=>
    generalize hlw:t.v%4294967296=lw at*;have ab8:=OC t.v lw hlw;have hup:=hdd (YH t.v lw hlw);have sN:lw<4294967296:=aa;have HLW:=hdd hlw;clear hlw;have WW:=hdd (OD t.k t.v);generalize hx:UInt8.ofNat (t.v/16777216%256)=x at*;have qc:g<wr.heap.size:=block_lt_of_cell c0;have CP:=World.ownsRow.alloc hT.own (.cells #[.int .u8 (x.toNat:Nat)] 5);have tR:=cell_one_new wr (B8 x) 5;have NT:1+t.k+1≤maxLen:=gD;have OF:(1+t.k+1)*1≤140737488355328:=aa;have pq:0≤(wr.alloc (.cells #[.int .u8 (x.toNat:Nat)] 5)).drew.heap.size:=Nat.zero_le _;have hHH:(wr.alloc (.cells #[.int .u8 (x.toNat:Nat)] 5)).drew.heap.size=wr.heap.size+1:=(by show(wr.alloc _).heap.size=_;simp);have HH:=hdd hHH;clear hHH;have OG:=hT.ax;rw[HLW.out]at OG;have dr:=hT.ne;have ni: ∀w2:World,(wr.alloc (.cells #[.int .u8 (x.toNat:Nat)] 5)).drew.grownBy w2 (Value.ownBlock (.slice (some ⟨o',0,none⟩) (1+t.k) bw))→w2.heap[g]? =some (.cells #[.int .u32 (lw:Int),.int .u32 ((t.r:Nat):Int),.slice (some ⟨o',0,none⟩) (1+t.k) bw] 239 (0,0)):=by
     intro w2 h;refine(h.block g ?_ ?_).trans ((Below.heap_alloc wr _ g qc).trans OG);·show g<(wr.alloc _).heap.size;simp;omega
     ·simpa [Value.ownBlock]using dr
    have ve:=hdd ni;clear ni OG;go_wp2_with fail;go_region_law (refine step_append_lies (P:=prog) _ rfl (.tmp 11) (.tmp 18) 22 rfl 0 5 i (.int .u8 0) 1 1 underlying22 hi nE gU qR rfl an (.slice (some ⟨o',0,none⟩) (1+t.k) bw) (1+t.k) _ rfl CP.drew ⟨wr.heap.size,0,none⟩ 1 1 [B8 x] rfl rfl tR (la [x]) an NT OF pq (wr.heap.size+1) HH.out ?_;intro g2 ld w2 bM iV YJ j5;have TZ:=ve.out w2 iV;have c22:=Dx TZ;have f22:=frozen_of_row w2 g 2 _ _ TZ)
    all_goals
     have aW:=Oz TZ (.slice (some ⟨g2,0,none⟩) (1+t.k+1) ld);have WX:g≠g2:=by
      rcases YJ with h | h;·have e:o'=g2:=(by simpa [Value.ownBlock]using h);rw[←e];exact dr
      ·omega
     have bj:=cS (p:=⟨g,2,none⟩) bM WX (.slice (some ⟨g2,0,none⟩) (1+t.k+1) ld);have cC:az [g,o] w w2:=by
      refine(bU.alloc (.cells #[.int .u8 (x.toNat:Nat)] 5)).drew.grown iV ?_;rcases AT with h | h;·exact .inl dS
      ·exact .inr h
     have cK:=cC.setCell (p:=⟨g,2,none⟩) (.inl ae) (.slice (some ⟨g2,0,none⟩) (1+t.k+1) ld);have j6:g2=o∨w.heap.size≤g2:=by
      rcases YJ with h | h;·have e:o'=g2:=(by simpa [Value.ownBlock]using h);rw[←e];exact AT
      ·have:=bU.size;exact .inr aa
     generalize w2.setCell ⟨g,2,none⟩ (.slice (some ⟨g2,0,none⟩) (1+t.k+1) ld)=w3 at*;have d0:=wi aW;have d1:=rr aW;have e0:=frozen_of_row w3 g 0 _ _ aW;have e1:=frozen_of_row w3 g 1 _ _ aW;have gF:=nF (vZ aW (.int .u32 ((t.v*256%4294967296:Nat):Int))) (.int .u32 ((t.r*256:Nat):Int));have gG:=cS (p:=⟨g,1,none⟩) (cS (p:=⟨g,0,none⟩) bj WX (.int .u32 ((t.v*256%4294967296:Nat):Int))) WX (.int .u32 ((t.r*256:Nat):Int));have js:=(cK.setCell (p:=⟨g,0,none⟩) (.inl ae) (.int .u32 ((t.v*256%4294967296:Nat):Int))).setCell (p:=⟨g,1,none⟩) (.inl ae) (.int .u32 ((t.r*256:Nat):Int));have HL:=hdd gF;clear gF TZ iV YJ bM cC c22 f22 bj cK c0 c1 c2 f0 f1 f2 ab8 CP tR;go_wp2_with fail;rw[hup.out,show((t.r:Int)*256)=((t.r*256:Nat):Int)from aa];go_roundg gk;case measure=>omega
     case rel=>
      refine⟨g2,ld,t.up,⟨?_,?_,WX⟩,t.Bn TY aF,by show 1+(t.k+1)+gk≤_;omega,?_,?_,js,j6⟩;·show _=some (Obj.cells #[_,_,.slice (some ⟨g2,0,none⟩) (1+(t.k+1)) ld] _ _);rw[←Nat.add_assoc];exact HL.out
      ·show World.ownsRow _ 0 _ 1 (.slice (some ⟨g2,0,none⟩) (1+(t.k+1)) ld) (1+(t.k+1)) ((Rc.be (1+(t.k+1)) (t.v*256/4294967296)).map B8);rw[←WW.out,List.map_append,←Nat.add_assoc];exact gG
      ·show 16777216≤t.r*256*256^gk;have:=hrt.out;rw[Nat.pow_succ,Nat.mul_comm (256^gk),←Nat.mul_assoc]at this;exact this
      ·rw[NU.out,Rc.St.scale,if_pos aF]
  ·have Dy: ¬(t.r:Int)<16777216:=(by omega);go_wp2_with fail;go_end0;refine⟨rfl,o',bw,?_,bU,AT⟩;have bJ:Rc.St.scale gk t=t:=by
    cases gk with
    | zero=>rfl
    | succ gk=>rw[Rc.St.scale,if_neg aF]
   rw[NU.out,bJ];exact hT
def JR(w:World)(g o:Nat)(bit:Int)(p:Nat)(t:Rc.St)(e:Ending)(w':World):Prop:=
 e= .returned (.tuple #[.int .i64 bit,.int .u16 (p:Nat)])∧Bo w g o t w'
theorem KX(r p:Nat)(hr:r<4294967296)(hp:p≤2047):(((r:Int)/2048)*(p:Int))%4294967296=((r/2048*p:Nat):Int):=by have h:r/2048*p≤r/2048*2047:=Nat.mul_le_mul_left _ hp;have e:((r:Int)/2048)*(p:Int)=((r/2048*p:Nat):Int):=ae;rw[e];omega
theorem T0(g o cap:Nat)(s:Rc.St)(c:BitVec 16)(bit:Int)(w:World)(hE:fk w g o cap s)(hs:s.ok)(hk:1+s.k+2≤140737488355328):
  Calls prog 255 #[.pointer (some ⟨g,0,none⟩),.int .u16 c.toNat,.int .i64 bit] w
   (JR w g o (dl (bit !=0)) (Rc.next (Rc.fair c.toNat) (bit !=0)) (Rc.St.scale 2 (s.pick (Rc.fair c.toNat) (bit !=0)))):=by
 obtain⟨FT,oO⟩:=Rc.tU c.toNat;have hv:=hdd (fun w=>KU c w);generalize Rc.fair c.toNat=p at*;have hsr:=hs.1.2;have T3:=KX s.r p hsr oO;have aiu:s.r/2048*p≤s.r/2048*2047:=Nat.mul_le_mul_left _ oO;generalize JS:s.r/2048*p=lD at*;have Dz:lD<4294967296:=aa;have hbr:lD≤s.r:=aa;have HBN:=hdd JS;clear JS;have c1:=rr hE.ax;have f1:=frozen_of_row w g 1 _ _ hE.ax;by_cases hb:bit=0
 ·subst hb;obtain⟨OH,CQ⟩:=s.lC p false hs FT oO;have FU:=hdd (fun w=>zx p false w FT oO);have e0:dl ((0:Int) !=0)=0:=rfl;rw[e0,show((0:Int) !=0)=false from rfl];have Gu:s.pick p false=⟨s.k,s.v,lD⟩:=by rw[←HBN.out];rfl
  rw[Gu]at OH CQ ⊢;have rt:fk (w.setCell ⟨g,1,none⟩ (.int .u32 ((lD:Nat):Int))) g o cap ⟨s.k,s.v,lD⟩:=⟨nF hE.ax _,cS hE.own hE.ne _,hE.ne⟩
  have CR:=hdd (oN 2 g o cap ⟨s.k,s.v,lD⟩ _ rt OH (by show 1+s.k+2≤_;exact hk) (by show 16777216≤lD*256^2;have:8192≤lD:=CQ;omega));go_enter func255,ntmps255;go_wp2_with fail;refine(hv.out _).mono ?_;rintro e w' ⟨rfl,rfl⟩;go_wp2_with fail;refine(FU.out _).mono ?_;rintro e w' ⟨rfl,rfl⟩;go_wp2_with fail;refine CR.out.mono ?_;rintro e w1 ⟨rfl,o',bw,DB,bU,ho⟩;go_wp2_with fail;go_ret2;exact⟨rfl,o',bw,DB,((az.refl _ _).setCell (p:=⟨g,1,none⟩) (.inl ae) _).trans bU ae,by rcases ho with h | h;exact .inl h;exact .inr l7⟩
 ·have hbt:(bit !=0)=true:=by rw[bne_iff_ne];exact hb
  obtain⟨OH,CQ⟩:=s.lC p true hs FT oO;have FU:=hdd (fun w=>zx p true w FT oO);rw[hbt,show dl true=1 from rfl];have Gu:s.pick p true=⟨s.k,s.v+lD,s.r-lD⟩:=by rw[←HBN.out];rfl
  rw[Gu]at OH CQ ⊢;have Bp:=hdd (JP g o cap s lD w hE Dz aa);have aq4:(bit==0)=false:=beq_eq_false_iff_ne.2 hb;have aiv:(s.r:Int)-(lD:Int)=((s.r-lD:Nat):Int):=aa;go_enter func255,ntmps255;go_wp2_with fail;refine(hv.out _).mono ?_;rintro e w' ⟨rfl,rfl⟩;go_wp2_with fail;refine(FU.out _).mono ?_;rintro e w' ⟨rfl,rfl⟩;go_wp2_with fail;refine Bp.out.mono ?_;rintro e w1 ⟨rfl,KY,DC⟩;have d1:=rr KY.ax;have e1:=frozen_of_row w1 g 1 _ _ KY.ax;have rt:fk (w1.setCell ⟨g,1,none⟩ (.int .u32 ((s.r-lD:Nat):Int))) g o cap ⟨s.k,s.v+lD,s.r-lD⟩:=⟨nF KY.ax _,cS KY.own KY.ne _,KY.ne⟩
  have CR:=hdd (oN 2 g o cap ⟨s.k,s.v+lD,s.r-lD⟩ _ rt OH (by show 1+s.k+2≤_;exact hk) (by show 16777216≤(s.r-lD)*256^2;have:8192≤s.r-lD:=CQ;omega));simp only at d1;go_wp2_with fail;refine CR.out.mono ?_;rintro e w2 ⟨rfl,o',bw,DB,bU,ho⟩;go_wp2_with fail;go_ret2;have dJ:=DC.size;exact⟨rfl,o',bw,DB,(DC.setCell (p:=⟨g,1,none⟩) (.inl ae) _).trans bU ae,by rcases ho with h | h;exact .inl h;exact .inr (by simp at h;omega)⟩
theorem DE:Rc.be (1+0) (0/4294967296)=[0]:=an
def zy:Rc.St:=⟨0,0,4294967295⟩
theorem OI:zy.ok:=⟨⟨an,an⟩,an⟩
def T4(w:World)(e:Ending)(w':World):Prop:= ∃g o cap,e= .returned (.pointer (some ⟨g,0,none⟩))∧fk w' g o cap zy∧Below w.heap.size w w'∧w.heap.size≤g∧w.heap.size≤o
theorem T5(w:World):Calls prog 123 #[] w (T4 w):=by
 go_enter func123,ntmps123;go_wp2_with fail;go_ret;refine⟨w.heap.size+1,w.heap.size,1,rfl,⟨?_,?_,aa⟩,(ap).alloc ae _,aa,Nat.le_refl _⟩;·have h:=heap_alloc_new (w.alloc (.cells #[.int .u8 0] 5)) (.cells #[.int .u32 0,.int .u32 4294967295,.slice (some ⟨w.heap.size,0,none⟩) 1 1] 239);have dJ:(w.alloc (.cells #[.int .u8 0] 5)).heap.size=w.heap.size+1:=ae;rw[dJ]at h;exact h
 ·refine World.ownsRow.alloc ?_ _;show World.ownsRow _ 0 _ 1 (.slice (some ⟨w.heap.size,0,none⟩) (1+0) 1) (1+0) ((Rc.be (1+0) (0/4294967296)).map B8);rw[DE];exact World.ownsRow_lit (base:=0) (e:=5) (size:=1) w #[.int .u8 0] 1 (Nat.zero_le _) gD an
namespace Rc
theorem St.DF(N:Nat)(s:St)(hf:s.fits)(hr:16777216≤s.r*256^N):(St.scale N s).ok:=by
 induction N generalizing s with
 | zero=>exact⟨hf,by show 16777216≤s.r;simpa using hr⟩
 | succ N ih=>
  rw[St.scale];by_cases h:s.r<16777216;·rw[if_pos h];refine ih _ (s.Bn hf h) ?_;show 16777216≤s.r*256*256^N;rw[Nat.pow_succ,Nat.mul_comm (256^N),←Nat.mul_assoc]at hr;exact hr
  ·rw[if_neg h];exact⟨hf,aa⟩
theorem St.JT(N:Nat)(s:St):(St.scale N s).k≤s.k+N:=by
 induction N generalizing s with
 | zero=>exact Nat.le_refl _
 | succ N ih=>
  rw[St.scale];by_cases h:s.r<16777216;·rw[if_pos h];have:=ih s.up;have e:s.up.k=s.k+1:=rfl;omega
  ·rw[if_neg h];omega
theorem St.YK(s:St)(p:Nat)(one:Bool):(s.pick p one).k=s.k:=by unfold St.pick;cases one<;>rfl
def St.half(s:St)(one:Bool):St:=if one then⟨s.k,s.v+s.r/2,s.r/2⟩else⟨s.k,s.v,s.r/2⟩
theorem St.te(s:St)(one:Bool)(h:s.ok):(s.half one).fits∧8388608≤(s.half one).r:=by
 obtain⟨⟨KT,hf2⟩,hr⟩:=h;unfold St.half St.fits;cases one;·simp only[Bool.false_eq_true,if_false];omega
 ·simp only[if_true];omega
def St.plain(s:St):Nat→Nat→St
 | _,0=>s
 | x,n+1=>St.scale 1 ((St.plain s (x/2) n).half (x%2==1))
theorem St.YL(s:St)(one:Bool):(s.half one).k=s.k:=by unfold St.half;cases one<;>rfl
theorem St.wj(s:St)(h:s.ok)(n x:Nat):(s.plain x n).ok∧(s.plain x n).k≤s.k+n:=by
 induction n generalizing x with
 | zero=>exact⟨h,Nat.le_refl _⟩
 | succ n ih=>
  obtain⟨h1,h2⟩:=ih (x/2);obtain⟨hf,hr⟩:=(s.plain (x/2) n).te (x%2==1) h1;refine⟨St.DF 1 _ hf aa,?_⟩;have:=St.JT 1 ((s.plain (x/2) n).half (x%2==1));rw[St.YL]at this;show(St.scale 1 _).k≤_;omega
end Rc
def KZ(w:World)(g o:Nat)(x:Nat)(t:Rc.St)(e:Ending)(w':World):Prop:=e= .returned (.int .u32 (x:Nat))∧Bo w g o t w'
def many(n:Int):Nat:=(min (max n 0) 32).toNat
theorem JU(x m j:Nat)(h:j<m):x%2^m/2^j%2=x/2^j%2:=by
 have e:2^m=2^j*2^(m-j):=by rw[←Nat.pow_add,show j+(m-j)=m by omega]
 rw[e,Nat.mod_mul_right_div_self];obtain⟨d,hd⟩: ∃d,m-j=d+1:=⟨m-j-1,aa⟩
 rw[hd,Nat.pow_succ,Nat.mod_mul_left_mod]
theorem OJ(x j:Nat)(hx:x<2^32):(bits .and .u32 ((x:Int)/2^j) 1==1)=(x/2^j%2==1):=by have hle:x/2^j≤x:=Nat.div_le_self _ _;have e:(x:Int)/2^j=((x/2^j:Nat):Int):=ae;rw[e,show(1:Int)=((1:Nat):Int)from rfl,u32_and_nat _ _ aa aa,nat_mask1,Bool.eq_iff_iff];simp;omega
theorem masked(x t:Nat)(hx:x<2^32)(ht:t≤32):bits .and .u64 (x:Int) (IntKind.u64.wrap (IntKind.u64.wrap (2^t)-1))%4294967296=((x%2^t:Nat):Int):=by
 have h1:1≤2^t:=Nat.one_le_two_pow;have h2:2^t≤2^32:=Nat.pow_le_pow_right aa ht;have e:IntKind.u64.wrap (IntKind.u64.wrap (2^t)-1)=((2^t-1:Nat):Int):=by rw[show(2:Int)^t=((2^t:Nat):Int) by simp,IntKind.wrap_u64,IntKind.wrap_u64];omega
 have hle:x%2^t≤x:=Nat.mod_le _ _;rw[e,u64_and_nat _ _ aa aa,Nat.and_two_pow_sub_one_eq_mod];omega
theorem K0(g o cap:Nat)(s:Rc.St)(x:BitVec 32)(n:Int)(w:World)(hE:fk w g o cap s)(hs:s.ok)(hk:1+s.k+40≤140737488355328):
  Calls prog 256 #[.pointer (some ⟨g,0,none⟩),.int .u32 x.toNat,.int .i64 n] w
   (KZ w g o (x.toNat%2^many n) (s.plain (x.toNat%2^many n) (many n))):=by
 go_enter func256,ntmps256;go_upto_region 3 with(fail)
 go_cut [2] (fun s2 wx=>w=wx∧s2= .int .i64 ((many n:Nat):Int));case first=>
  go_wp2_with fail
  all_goals
   go_meet;refine⟨rfl,congrArg (Value.int .i64) ?_⟩;unfold many;omega
 case rest=>
  obtain⟨rfl,rfl⟩:=hcut;have hm:many n≤32:=by unfold many;omega
  generalize many n=m at*;go_wp2_with fail;generalize hX:x.toNat%2^m=X at*;have HX:=hdd hX;clear hX;go_loopw [7] (fun i wr=> ∃(t o' bw:Nat),t≤m∧i= .int .i64 ((m:Int)-1-(t:Int))∧fk wr g o' bw (s.plain (X/2^(m-t)) t)∧az [g,o] w wr∧(o'=o∨w.heap.size≤o')) (fun i _=>(intOf i+1).toNat);case atStart=>exact⟨0,o,cap,aa,aq,hE,az.refl _ _,.inl rfl⟩
  case round=>
   obtain⟨t,o',bw,ht,rfl,hT,bU,AT⟩:=hrel;obtain⟨OK,Gu⟩:=s.wj hs t (X/2^(m-t));by_cases aF:t<m
   ·obtain⟨j,hj⟩: ∃j:Nat,j=m-1-t:=⟨_,rfl⟩
    have yL:(m:Int)-1-(t:Int)=(j:Int):=aa;have ru:s.plain (X/2^(m-(t+1))) (t+1)=Rc.St.scale 1 ((s.plain (X/2^(m-t)) t).half (x.toNat/2^j%2==1)):=(by have e1:m-(t+1)=j:=aa;have e2:X/2^j/2=X/2^(m-t):=(by rw[Nat.div_div_eq_div_mul,←Nat.pow_succ,show m-t=j.succ by omega]);have e3:X/2^j%2=x.toNat/2^j%2:=(by rw[←HX.out];exact JU _ _ _ aa);rw[e1,Rc.St.plain,e2,e3]);have HN:=hdd ru;generalize s.plain (X/2^(m-t)) t=p at*;have c1:=rr hT.ax;have f1:=frozen_of_row wr g 1 _ _ hT.ax;have DG:=OJ x.toNat j x.isLt;have aq5:j<32:=aa;generalize(x.toNat/2^j%2==1)=b at*;obtain⟨T6,hhr⟩:=p.te b OK;clear ru hE;rw[yL];have HJ:=hdd hj;have HJI:=hdd yL;clear hj yL;have oP:(p.r:Int)/2=((p.r/2:Nat):Int):=aa;have CQ:=OK.1.2;have YM:p.r/2<4294967296:=aa;generalize hrh:p.r/2=rh at*;have HRH:=hdd hrh;clear hrh;have anX:=bU.size;cases b with
    | false=>
     have YN:p.half false=⟨p.k,p.v,rh⟩:=(by rw[←HRH.out];rfl);rw[YN]at T6 hhr HN;have rt:fk (wr.setCell ⟨g,1,none⟩ (.int .u32 ((rh:Nat):Int))) g o' bw ⟨p.k,p.v,rh⟩:=⟨nF hT.ax _,cS hT.own hT.ne _,hT.ne⟩
     have CR:=hdd (oN 1 g o' bw ⟨p.k,p.v,rh⟩ _ rt T6 (by show 1+p.k+1≤_;omega) AS);go_wp2_with fail;refine CR.out.mono ?_;rintro e w2 ⟨rfl,o2,ld,DB,cC,j6⟩;go_wp2_with fail;go_roundw;case rel=>
      have hj:=HJ.out;refine⟨t+1,o2,ld,aa,congrArg (Value.int .i64) aa,by rw[HN.out];exact DB,(bU.setCell (p:=⟨g,1,none⟩) (.inl ae) _).trans cC ?_,?_⟩
      ·intro i hi;simp at hi;rcases hi with rfl | rfl
       ·exact .inl ae
       ·rcases AT with h | h;·exact .inl dS
        ·exact .inr h
      ·rcases j6 with h | h;·rw[h];exact AT
       ·exact .inr (by simp at h;omega)
     case measure=>have hj:=HJ.out;simp[intOf]<;>omega
    | true=>
     have YN:p.half true=⟨p.k,p.v+rh,rh⟩:=(by rw[←HRH.out];rfl);rw[YN]at T6 hhr HN;have hE0:fk (wr.setCell ⟨g,1,none⟩ (.int .u32 ((rh:Nat):Int))) g o' bw ⟨p.k,p.v,rh⟩:=⟨nF hT.ax _,cS hT.own hT.ne _,hT.ne⟩
     have Bp:=hdd (JP g o' bw ⟨p.k,p.v,rh⟩ rh _ hE0 YM (by show 1+p.k≤_;omega));go_wp2_with fail;refine Bp.out.mono ?_;rintro e w1 ⟨rfl,rt,DC⟩;have CR:=hdd (oN 1 g o' bw ⟨p.k,p.v+rh,rh⟩ _ rt T6 (by show 1+p.k+1≤_;omega) AS);go_wp2_with fail;refine CR.out.mono ?_;rintro e w2 ⟨rfl,o2,ld,DB,cC,j6⟩;go_wp2_with fail;have hsa:=DC.size;have NV: ∀i∈[g,o'],i∈[g,o]∨w.heap.size≤i:=by
      intro i hi;simp at hi;rcases hi with rfl | rfl
      ·exact .inl ae
      ·rcases AT with h | h;·exact .inl dS
       ·exact .inr h
     go_roundw;case rel=>
      have hj:=HJ.out;refine⟨t+1,o2,ld,aa,congrArg (Value.int .i64) aa,by rw[HN.out];exact DB,((bU.setCell (p:=⟨g,1,none⟩) (.inl ae) _).trans DC NV).trans cC NV,?_⟩;rcases j6 with h | h;·rw[h];exact AT
      ·exact .inr (by simp at hsa;omega)
     case measure=>have hj:=HJ.out;simp[intOf]<;>omega
   ·have htm:t=m:=(by omega);subst htm;have hp0:X/2^(t-t)=X:=ae;rw[hp0]at hT;go_wp2_with fail;go_ret;exact⟨by rw[masked _ _ x.isLt hm,HX.out];rfl,o',bw,hT,bU,AT⟩
theorem DH(h:w.ownsRow 0 e 1 (.slice (some ⟨o,0,none⟩) n cap) n xs)(ho:w'.heap[o]? =w.heap[o]?):w'.ownsRow 0 e 1 (.slice (some ⟨o,0,none⟩) n cap) n xs:=by
 rcases h with⟨h1,h2 | ⟨g,bw,cur,h2,h3,h4,h5⟩⟩
 ·exact⟨h1,.inl h2⟩
 ·injection h2 with e1 e2 e3;injection e1 with e1;injection e1 with e1;subst e1 e3;exact⟨h1,.inr ⟨o,cap,cur,rfl,h3,ho.trans h4,h5⟩⟩
theorem fk.aI{s:Rc.St}(h:fk w g o cap s)(hg:w'.heap[g]? =w.heap[g]?)(ho:w'.heap[o]? =w.heap[o]?):fk w' g o cap s:=
 ⟨hg.trans h.ax,DH h.own ho,h.ne⟩
theorem fk.lt{s:Rc.St}(h:fk w g o cap s):g<w.heap.size∧o<w.heap.size:=
 ⟨block_lt_of_cell (wi h.ax),(h.own.lt o rfl).2⟩
namespace Rd
end Rd
theorem s53{e:Value}(h:w.heap[g]? =some (.cells #[a,b,c,d,e] t (0,0)))(u:Value):(w.setCell ⟨g,3,none⟩ u).heap[g]? =some (.cells #[a,b,c,u,e] t (0,0)):=by rw[heap_setCell_same w g 3 _ t u h];rfl
theorem s54{e:Value}(h:w.heap[g]? =some (.cells #[a,b,c,d,e] t (0,0)))(u:Value):(w.setCell ⟨g,4,none⟩ u).heap[g]? =some (.cells #[a,b,c,d,u] t (0,0)):=by rw[heap_setCell_same w g 4 _ t u h];rfl
theorem fl(w:World):Below w.heap.size w w.drew:=(Below.refl _ _).drew



theorem aP.apart{t':TypeId}{v:Value}{l:List Value}(h:aP t base w v l){cs:Array Value}{x:Nat×Nat}(hC:w.heap[C]? =some (.cells cs t' x))(dr:t≠t'):v.ownBlock≠some C:=by
 intro e;rcases h with⟨_,⟨rfl,_⟩ | ⟨g,cap,cur,rfl,_,hg,_⟩⟩
 ·cases e
 ·injection e with e;subst e;rw[hC]at hg;injection hg with hg;injection hg with _ hg _;exact dr hg.symm
abbrev Tv(r:R4):List Value:=[.int .i64 r.1,.int .i64 r.2.1,.int .i64 r.2.2.1,.int .i64 r.2.2.2]
def Li(r:R4)(q:Int):Int:=r4 r.1 r.2.1 r.2.2.1 r.2.2.2 q.toNat
structure bW(w:World)(C base:Nat)(lc lp pb st:Int)(r:R4)(P:List Nat)(vR vP:Value):Prop where
 box:w.heap[C]? =some (.cells [.int .i64 lc,.int .i64 lp,.int .i64 pb,.int .i64 st,vR,vP].toArray 150 (0,0))
 fh:aP 3 base w vR (Tv r)
 ps:aP 128 base w vP (P.map fun x=> .int .u16 (x:Nat))
theorem bW.below(h:bW w C base lc lp pb st r P vR vP)(hb:Below w.heap.size w w'):bW w' C base lc lp pb st r P vR vP:=
 ⟨(hb.block _ (cr h.box)).trans h.box,h.fh.below hb,h.ps.below hb⟩
theorem bW.cells(h:bW w C base lc lp pb st r P vR vP):
  w.cell? ⟨C,3,none⟩=some (.int .i64 st)∧w.cell? ⟨C,4,none⟩=some vR∧w.cell? ⟨C,5,none⟩=some vP∧(∀i,w.frozen? ⟨C,i,none⟩=false)∧
  ∃g cap,vR= .slice (some ⟨g,0,none⟩) 4 cap∧4≤cap∧cap≤9223372036854775807∧w.cell? ⟨g,0,none⟩=some (.int .i64 r.1)∧w.cell? ⟨g,1,none⟩=some (.int .i64 r.2.1)∧w.cell? ⟨g,2,none⟩=some (.int .i64 r.2.2.1)∧w.cell? ⟨g,3,none⟩=some (.int .i64 r.2.2.2)∧base≤g∧g<w.heap.size:=by
 obtain⟨g,cap,e,hg,qc,hc,hm,bx⟩:=h.fh.bK (show 0<4 by decide);refine⟨?_,?_,?_,fun i=>frozen_of_row _ _ _ _ _ h.box,g,cap,e,hc,hm,bx 0 (show 0<4 by decide),bx 1 (show 1<4 by decide),bx 2 (show 2<4 by decide),bx 3 (show 3<4 by decide),hg,qc⟩;·rw[cell_of_row w _ _ _ _ _ h.box];rfl
 ·rw[cell_of_row w _ _ _ _ _ h.box];rfl
 ·rw[cell_of_row w _ _ _ _ _ h.box];rfl
def iI(r:R4)(n k l d q:Int):Bool:=
 if k=1 then decide (2≤l∧l≤273∧1≤d∧d≤n∧d≤4294967295)
 else if k=2 then decide (0≤q∧q≤3∧Li r q≤n∧((2≤l∧l≤273)∨(l=1∧q=0)))
 else decide (k=0)
def kL(r:R4)(k d q:Int):Int:=if k=1 then d else if k=2 then Li r q else 0
theorem tm{W1:World}{v0 v1 v2 v3 v4:Value}(dE:w.alloc (.cells #[v0,v1,v2,v3,v4] 158)=W1):W1.cell? ⟨w.heap.size,0,none⟩=some v0∧W1.cell? ⟨w.heap.size,1,none⟩=some v1∧W1.cell? ⟨w.heap.size,2,none⟩=some v2∧W1.cell? ⟨w.heap.size,3,none⟩=some v3∧W1.cell? ⟨w.heap.size,4,none⟩=some v4∧Below w.heap.size w W1:=by have hr:W1.heap[w.heap.size]? =some (.cells [v0,v1,v2,v3,v4].toArray 158 (0,0)):=Gd;refine⟨?_,?_,?_,?_,?_,vI⟩<;>(rw[cell_of_row W1 _ _ _ _ _ hr];rfl)
def BG(k:Int)(b:UInt8)(l d q:Int):Value:=if k=0 then j2 0 b 0 0 0 else if k=1 then j2 1 0 l d 0 else j2 2 0 l 0 q
section
theorem fJ(n:Nat)(hn:n≤30)(w:World):Calls prog 92 #[.int .i64 (n:Nat)] w fun e w'=>e= .returned (.int .i64 (2^n:Nat))∧w=w':=by
 have sO:(n:Int)≤30:=aa;go_enter func92,ntmps92;go_wp2_with fail;go_loopw [3,4] (fun p i wr=> ∃(k:Nat),k≤n∧i= .int .i64 (k:Nat)∧p= .int .i64 (2^k:Nat)∧wr=w) (fun _ i _=>n-(intOf i).toNat);case atStart=>exact⟨0,aa,rfl,rfl,rfl⟩
 case round=>
  obtain⟨k,hk,rfl,rfl,rfl⟩:=hrel;have HP:Hid (2^(k+1)=2*2^k):=hdd (by rw[Nat.pow_succ];omega);have T3:2^k≤2^30:=Nat.pow_le_pow_right an aa;have e30:(2:Nat)^30=1073741824:=an;rw[e30]at T3;have⟨p,hp⟩:=ex (2^k);rw[hp]at HP T3 ⊢;have nw:(p:Int)≤1073741824:=aa;by_cases hkn:k<n;·have BI:(k:Int)<(n:Int):=(by omega);clear hp e30;go_wp2_with fail;exact⟨⟨k+1,aa,aq,by rw[HP.out];congr 1,trivial⟩,gt⟩
  ·obtain rfl:k=n:=(by omega);have Tw:=hdd hp;clear hp e30;go_wp2_with fail;go_ret;exact⟨by rw[Tw.out];rfl,rfl⟩
theorem Zx:Elem 148 128 (.int .u16 0) 2:=⟨underlying148,ak,rfl⟩
theorem adf:Elem 147 3 (.int .i64 0) 8:=⟨underlying147,ak,rfl⟩
section
variable{w w':World}{C base:Nat}{lc lp pb st:Int}{r:R4}{P P':List Nat}{vR vP vP':Value}
theorem bW.lt(h:bW w C base lc lp pb st r P vR vP):C<w.heap.size:=(cr h.box)
theorem bW.PN(h:bW w C base lc lp pb st r P vR vP):vR.ownBlock≠some C:=h.fh.apart h.box an
theorem bW.BJ(h:bW w C base lc lp pb st r P vR vP):vP.ownBlock≠some C:=h.ps.apart h.box an
theorem bW.UO(h:bW w C base lc lp pb st r P vR vP)(g:Nat)(hg:vR.ownBlock=some g):vP.ownBlock≠some g:=by
 rcases h.fh with⟨_,⟨rfl,_⟩ | ⟨g',cap,cur,rfl,_,hh,_⟩⟩
 ·cases hg
 ·injection hg with hg;subst hg;exact h.ps.apart hh an
theorem aP.setOther{t:TypeId}{base:Nat}{w:World}{v:Value}{l:List Value}(h:aP t base w v l){p:Addr}(hp:v.ownBlock≠some p.block)(u:Value):aP t base (w.setCell p u) v l:=
 h.aI fun g hg=>ag _ _ _ _ (fun e=>hp (by rw[hg,e]))
theorem bW.adg(h:bW w C base lc lp pb st r P vR vP)(hg:w.grownBy w' vP.ownBlock)(ho:aP 128 base w' vP' (P'.map fun x=> .int .u16 (x:Nat)))(hC:vP'.ownBlock≠some C):bW (w'.setCell ⟨C,5,none⟩ vP') C base lc lp pb st r P' vR vP':=by have hb:w'.heap[C]? =_:=(hg.block C h.lt (fun e=>h.BJ e.symm)).trans h.box;refine⟨heap_set hb 5 vP',?_,ho.setOther hC _⟩;exact(h.fh.grown hg (fun g e=>h.UO g e)).setOther h.PN _
end
theorem J7(k:Nat):((List.replicate k 1024).map (fun x:Nat=>Value.int .u16 (x:Nat))).length=k:=ae
theorem PO(k:Nat):(List.replicate (k+1) 1024).map (fun x:Nat=>Value.int .u16 (x:Nat))=(List.replicate k 1024).map (fun x:Nat=>Value.int .u16 (x:Nat))++[.int .u16 1024]:=by rw[List.replicate_succ',List.map_append];rfl
def adh(lc lp pb:Nat)(w:World)(e:Ending)(w':World):Prop:= ∃C vR vP,e= .returned (PF C)∧bW w' C w.heap.size lc lp pb 0 (1,1,1,1) (List.replicate (2180+768*2^(lc+lp)) 1024) vR vP∧Below w.heap.size w w'∧w.heap.size≤C
theorem PQ(lc lp pb:Nat)(hl:lc+lp≤8)(w:World):Calls prog 54 #[.int .i64 (lc:Nat),.int .i64 (lp:Nat),.int .i64 (pb:Nat)] w (adh lc lp pb w):=by
 have⟨s,hs⟩:=ex (lc+lp);have Zy:(lc:Int)+(lp:Int)=(s:Int):=aa;have HT:=hdd (fun w=>fJ s aa w);have h2:2^s≤256:=Nat.le_trans (Nat.pow_le_pow_right an (show s≤8 by omega)) an;have⟨T,hT⟩:=ex (2^s);rw[hT]at HT h2;have⟨N,hN⟩:=ex (2180+768*T);have HNC:Hid (2180+768*2^(lc+lp)=N):=hdd (by rw[hs,hT,hN]);have hNi:(2180:Int)+768*(T:Int)=(N:Int):=aa;have hNb:(N:Int)≤200000:=aa;have hTi:(T:Int)≤256:=aa;have adi:(lc:Int)≤8:=aa;have adj:(lp:Int)≤8:=aa;unfold adh;rw[HNC.out];clear hs hT h2 hN hl;go_enter func54,ntmps54;go_wp2_with fail;have⟨W1,dE⟩:=ex (w.alloc (.cells #[.int .i64 1,.int .i64 1,.int .i64 1,.int .i64 1] 3));rw[dE];have jZ:aP 3 w.heap.size W1 (.slice (some ⟨w.heap.size,0,none⟩) 4 4) (Tv (1,1,1,1)):=by rw[←dE];exact aP.lit 3 w (Tv (1,1,1,1)) (Nat.le_refl _) (by show 4≤_;decide)
 have aC:Below w.heap.size w W1:=vI;have⟨W,hW⟩:=ex (W1.alloc (.cells #[.int .i64 (lc:Nat),.int .i64 (lp:Nat),.int .i64 (pb:Nat),.int .i64 0,.slice (some ⟨w.heap.size,0,none⟩) 4 4,.slice none 0 0] 150));rw[hW];have hb:Below w.heap.size w W:=by rw[←hW];exact aC.alloc aC.size _
 have⟨C,hC0⟩:=ex (w.heap.size+1);have hC:W1.heap.size=C:=by rw[←hC0,←dE];simp
 have adk:w.heap.size≤C:=by rw[←hC];exact aC.size
 have Lj:bW W C w.heap.size lc lp pb 0 (1,1,1,1) (List.replicate 0 1024) (.slice (some ⟨w.heap.size,0,none⟩) 4 4) (.slice none 0 0):=
  ⟨by rw[←hW,←hC];exact heap_alloc_last _ _,by rw[←hW];exact jZ.alloc _,aP.nil _ _ _⟩
 rw[hC0];have aje:=hdd Lj;have HB:=hdd hb;have PR:=hdd adk;clear dE jZ aC hW hb hC hC0 adk Lj;go_loopw [8] (fun i wr=> ∃(k:Nat) (vP:Value),k≤N∧i= .int .i64 (k:Nat)∧Hid (bW wr C w.heap.size lc lp pb 0 (1,1,1,1) (List.replicate k 1024) (.slice (some ⟨w.heap.size,0,none⟩) 4 4) vP)∧Hid (Below w.heap.size w wr)) (fun i _=>N-(intOf i).toNat);case atStart=>exact⟨0,_,aa,rfl,aje,HB⟩
 case round=>
  obtain⟨k,vP,hk,rfl,HCR,F0⟩:=hrel;by_cases hkN:k<N
  ·have BI:(k:Int)<(N:Int):=(by omega);go_wp2_with fail;refine(HT.out _).mono ?_;rintro e w1 ⟨rfl,rfl⟩;obtain⟨_,_,c5,fz,_⟩:=HCR.out.cells;have fz5:=fz 5;have C6:=HCR.out.ps;have pq:=F0.out.size;have⟨W3,jD⟩:=ex (wr.alloc (.cells #[.int .u16 1024] 128));have bj:aP 128 w.heap.size W3 vP ((List.replicate k 1024).map fun x=> .int .u16 (x:Nat)):=(by rw[←jD];exact C6.alloc _);have rE: ∀i (h:i<[Value.int .u16 1024].length),W3.cell? ⟨wr.heap.size,i,none⟩=some [Value.int .u16 1024][i]:=(by rw[←jD];exact gE wr _ _);have aW:Below wr.heap.size wr W3:=(by rw[←jD];exact ap);have lu:=HCR.out.below aW;have hlen:((List.replicate k 1024).map fun x=>Value.int .u16 (x:Nat)).length≤200000:=av;have C7:=hdd jD;have y9:=hdd bj;have Bw:=hdd rE;have ee:=hdd hlen;have F1:=hdd lu;have fc:=hdd (F0.out.trans (aW.mono pq));clear fz C6 pq jD bj rE aW lu hlen;go_wp2_with (at_builtin;rw[C7.out];refine a8 Zx rfl (.tmp 29) (.tmp 30) rfl w.heap.size W3 vP _ rfl y9.out wr.heap.size 1 1 [.int .u16 1024] rfl rfl Bw.out sV (ar ee.out) (ar ee.out) fc.out.size ?_;intro v' w4 gG dK tn;clear tn;have kt:=am fc.out dK fc.out.size (fun g e=>(y9.out.lt g e).1);have hC4:w4.heap[C]? =_:=(dK.block C F1.out.lt (fun e=>F1.out.BJ e.symm)).trans F1.out.box;have J8:aP 128 w.heap.size w4 v' ((List.replicate (k+1) 1024).map fun x=> .int .u16 (x:Nat)):=(by rw[PO];exact gG);obtain⟨g',bw,e',_⟩:=J8.bK (by rw[J7];omega);rw[J7]at e';subst e';have PT:=hdd (F1.out.adg dK J8 (J8.apart hC4 an));have sP:Hid (Below w.heap.size w (w4.setCell ⟨C,5,none⟩ (.slice (some ⟨g',0,none⟩) (k+1:Nat) bw))):=hdd (kt.setCell PR.out _);have fz5:w4.frozen? ⟨C,5,none⟩=false:=frozen_of_row _ _ _ _ _ hC4;have c55:w4.cell? ⟨C,5,none⟩=some vP:=(by rw[cell_of_row w4 _ _ _ _ _ hC4];rfl);clear gG dK kt hC4 J8)
   exact⟨⟨k+1,_,aa,aq,PT,sP⟩,gt⟩
  ·obtain rfl:k=N:=(by omega);go_wp2_with fail;refine(HT.out _).mono ?_;rintro e w1 ⟨rfl,rfl⟩;go_wp2_with fail;go_ret;exact⟨C,_,_,rfl,HCR.out,F0.out,PR.out⟩
end
def li(w:World)(l:List UInt8)(e:Ending)(w':World):Prop:= ∃v,e= .returned v∧Own w.heap.size w' v l∧Below w.heap.size w w'
def Lk(lw:Nat):List Value:=[.int .u8 (IntKind.u8.wrap ((lw:Int)/16777216)),.int .u8 (IntKind.u8.wrap ((lw:Int)/65536)),.int .u8 (IntKind.u8.wrap ((lw:Int)/256)),.int .u8 (IntKind.u8.wrap (lw:Int))]
theorem PV{lw:Nat}: ∀u∈Lk lw,u.oneCell'=true:=by intro u hu;simp[Lk]at hu;rcases hu with rfl | rfl | rfl | rfl<;>rfl
theorem GX(v lw:Nat)(h:v%4294967296=lw):Lk lw=(Rc.be 4 v).map B8:=by have e:Rc.be 4 v=[UInt8.ofNat (v/256/256/256%256),UInt8.ofNat (v/256/256%256),UInt8.ofNat (v/256%256),UInt8.ofNat (v%256)]:=rfl;rw[e];simp only[Lk,List.map,B8,IntKind.wrap_u8',UInt8.toNat_ofNat'];congr 2<;>(try congr 2)<;>(try congr 2)<;>(try congr 2)<;>omega
theorem US(k v:Nat):Rc.be (1+k) (v/4294967296)++Rc.be 4 v=Rc.be (5+k) v:=by rw[show 5+k=(1+k)+4 by omega,Rc.Bm (1+k) 4]
theorem oW{l:List UInt8}(h:w.ownsRow base 5 1 (.slice (some ⟨g,0,none⟩) n cap) n (l.map B8)):n=l.length∧Bytes w (some ⟨g,0,none⟩) l:=by
 have hn:n=l.length:=by have:=h.1;simp at this;omega
 subst hn;obtain⟨A,c,e,_,_,h3⟩:=Own.read (base:=base) (l:=l) h;injection e with e1 e2 e3;subst e1;exact⟨rfl,h3⟩
theorem Ll(g o cap:Nat)(s:Rc.St)(w:World)(hE:fk w g o cap s)(hk:1+s.k+4≤140737488355328):
  Calls prog 125 #[.pointer (some ⟨g,0,none⟩)] w (li w (Rc.be (5+s.k) s.v)):=by
 obtain⟨i,hi,nE,gU,qR⟩:=info_parts pE;have c0:=wi hE.ax;have c2:=Dx hE.ax;have qc:g<w.heap.size:=block_lt_of_cell c0;have Ld:i.bytes*(1+s.k+4)≤281474976710656:=mc;have qS:1+s.k+4≤maxLen:=gD;have fX:1≤1+s.k:=aa;obtain⟨hlen,PX⟩:=oW hE.own;have Xs:=US s.k s.v;have yD:=GX s.v (s.v%4294967296) rfl;generalize Uw:Rc.be (1+s.k) (s.v/4294967296)=lb at*;generalize Rc.be (5+s.k) s.v=res at*;generalize Rc.be 4 s.v=l4 at*;generalize s.v%4294967296=lw at*;generalize 1+s.k=m at*;have fT:Value.slice (some ⟨o,0,none⟩) m cap= .slice (some ⟨o,0,none⟩) lb.length cap:=by rw[hlen]
 have ee:=hdd hlen;have HJ:=hdd Xs;have Tx:=hdd yD;have GY:=hdd fT;clear hlen Xs yD Uw fT hE;have bt:([]:List UInt8).length+lb.length≤140737488355328:=by rw[←ee.out];simp;omega
 go_enter func125,ntmps125
 go_wp2_with (first
  | (refine wpList_make_own _ rfl _ _ 22 rfl w.heap.size 5 i (.int .u8 0) 1 underlying22 hi nE gU _ _ _ (m+4) rfl rfl rfl Ld qS (Nat.le_refl _) ?_;intro w1 cE iY;have aC:Below w.heap.size w w1:=am (Below.refl _ _) iY (Nat.le_refl _) ae;have c01:=(aC.cell (p:=⟨g,0,none⟩) qc).trans c0;have c21:=(aC.cell (p:=⟨g,2,none⟩) qc).trans c2)
  | (at_builtin;refine aj rfl (.tmp 13) (.tmp 17) rfl w.heap.size _ _ [] rfl cE (some ⟨o,0,none⟩) lb cap GY.out (PX.below aC) bt aC.size ?_;intro v2 w4 cH dK;have bc:Below w.heap.size w w4:=am aC dK aC.size (fun g' wT=>(Own.aw (l:=[]) cE g' wT).1)))
 rw[List.nil_append]at cH;generalize hn:lb.length=n at*;unfold Own at cH;rw[hn]at cH;have hnm:m=n:=ee.out;obtain⟨gb,pw,rfl,Lm,Xt⟩:=World.ownsRow.form cH aa;have c04:=(bc.cell (p:=⟨g,0,none⟩) qc).trans c0;have kJ:w4.drew.cell? ⟨g,0,none⟩=some (.int .u32 (lw:Int)):=c04;have aji:g<w4.heap.size:=Nat.lt_of_lt_of_le qc bc.size;have adl: ∀o:Obj,(w4.alloc o).drew.cell? ⟨g,0,none⟩=some (.int .u32 (lw:Int)):=fun o=>(World.cell?_alloc_lt w4 o ⟨g,0,none⟩ aji).trans c04;have CP:=World.ownsRow.alloc cH (.cells #[.int .u8 (IntKind.u8.wrap ((lw:Int)/16777216)),.int .u8 (IntKind.u8.wrap ((lw:Int)/65536)),.int .u8 (IntKind.u8.wrap ((lw:Int)/256)),.int .u8 (IntKind.u8.wrap (lw:Int))] 5);have tR:=World.news_of_block (heap_alloc_new w4 (.cells #[.int .u8 (IntKind.u8.wrap ((lw:Int)/16777216)),.int .u8 (IntKind.u8.wrap ((lw:Int)/65536)),.int .u8 (IntKind.u8.wrap ((lw:Int)/256)),.int .u8 (IntKind.u8.wrap (lw:Int))] 5));have NT:n+4≤maxLen:=gD;have OF:(n+4)*1≤140737488355328:=aa;have pq:w.heap.size≤(w4.alloc (.cells #[.int .u8 (IntKind.u8.wrap ((lw:Int)/16777216)),.int .u8 (IntKind.u8.wrap ((lw:Int)/65536)),.int .u8 (IntKind.u8.wrap ((lw:Int)/256)),.int .u8 (IntKind.u8.wrap (lw:Int))] 5)).drew.heap.size:=by have:=bc.size;show w.heap.size≤(w4.alloc _).heap.size;simp;omega
 have hHH:(w4.alloc (.cells #[.int .u8 (IntKind.u8.wrap ((lw:Int)/16777216)),.int .u8 (IntKind.u8.wrap ((lw:Int)/65536)),.int .u8 (IntKind.u8.wrap ((lw:Int)/256)),.int .u8 (IntKind.u8.wrap (lw:Int))] 5)).drew.heap.size=w4.heap.size+1:=by show(w4.alloc _).heap.size=_;simp
 have HH:=hdd hHH;have hK: ∀w6:World,(w4.alloc (.cells #[.int .u8 (IntKind.u8.wrap ((lw:Int)/16777216)),.int .u8 (IntKind.u8.wrap ((lw:Int)/65536)),.int .u8 (IntKind.u8.wrap ((lw:Int)/256)),.int .u8 (IntKind.u8.wrap (lw:Int))] 5)).drew.grownBy w6 (Value.ownBlock (.slice (some ⟨gb,0,none⟩) n pw))→w6.cell? ⟨g,0,none⟩=some (.int .u32 (lw:Int)):=by
  intro w6 h;refine(h.cell_far ⟨g,0,none⟩ ?_ ?_).trans (adl _);·show g<(w4.alloc _).heap.size;simp;omega
  ·simp[Value.ownBlock];omega
 have HK:=hdd hK;have HNM:=hdd hnm;have HN:=hdd hn;clear hHH hK hn hnm cE iY dK c01 c21 c0 c2;refine wp_region_held_drew (S:=fun w'=>w'.cell? ⟨g,0,none⟩=some (.int .u32 (lw:Int))) ak kJ (fun hS=> ?_);refine gV 0 (v:= ?vb0) ?yb0 hS ?_;case yb0=>intro w hSw;go_simp;all_goals(with_reducible rfl)
 refine dR ?_;refine gV 1 (v:= ?vb1) ?yb1 hS ?_;case yb1=>intro w hSw;go_simp;all_goals(with_reducible rfl)
 refine dR ?_;refine gV 2 (v:= ?vb2) ?yb2 hS ?_;case yb2=>intro w hSw;go_simp;all_goals(with_reducible rfl)
 refine dR ?_;refine gV 3 (v:= ?vb3) ?yb3 hS ?_;case yb3=>intro w hSw;go_simp;all_goals(with_reducible rfl)
 refine dR ?_;refine gV 4 (v:= ?vb4) ?yb4 hS ?_;case yb4=>intro w hSw;go_simp;all_goals(with_reducible rfl)
 refine dR ?_;refine gV 5 (v:= ?vb5) ?yb5 hS ?_;case yb5=>intro w hSw;go_simp;all_goals(with_reducible rfl)
 refine dR ?_;refine gV 6 (v:= ?vb6) ?yb6 hS ?_;case yb6=>intro w hSw;go_simp;all_goals(with_reducible rfl)
 refine dR ?_;refine gV 7 (v:= ?vb7) ?yb7 hS ?_;case yb7=>intro w hSw;go_simp;all_goals(with_reducible rfl)
 refine dR ?_;refine gV 8 (v:= ?vb8) ?yb8 hS ?_;case yb8=>intro w hSw;go_simp;all_goals(with_reducible rfl)
 refine dR ?_;refine gV 9 (v:= ?vb9) ?yb9 hS ?_;case yb9=>intro w hSw;go_simp;all_goals(with_reducible rfl)
 refine dR ?_;refine gV 10 (v:= ?arU) ?ajj hS ?_;case ajj=>intro w hSw;go_simp;all_goals(with_reducible rfl)
 refine dR ?_;refine gV 11 (v:= ?arV) ?ajk hS ?_;case ajk=>intro w hSw;go_simp;all_goals(with_reducible rfl)
 refine dR ?_;refine gV 12 (v:= ?arW) ?ajl hS ?_;case ajl=>intro w hSw;go_simp;all_goals(with_reducible rfl)
 refine dR ?_;refine gV 13 (v:= ?arX) ?ajm hS ?_;case ajm=>intro w hSw;go_simp;all_goals(with_reducible rfl)
 refine dR ?_;refine gV 14 (v:= ?arY) ?ajn hS ?_;case ajn=>intro w hSw;go_simp;all_goals(with_reducible rfl)
 refine dR ?_;refine gV 15 (v:= ?arZ) ?ajo hS ?_;case ajo=>intro w hSw;go_simp;all_goals(with_reducible rfl)
 refine dR ?_;refine gV 16 (v:= ?ar0) ?ajp hS ?_;case ajp=>intro w hSw;go_simp;all_goals(with_reducible rfl)
 refine dR ?_;refine gV 17 (v:= ?ar1) ?ajq hS ?_;case ajq=>intro w hSw;go_simp;all_goals(with_reducible rfl)
 refine dR ?_;refine gV 18 (v:= ?ar2) ?ajr hS ?_;case ajr=>intro w hSw;go_simp;all_goals(with_reducible rfl)
 refine dR ?_;refine gV 19 (v:= ?ar3) ?ajs hS ?_;case ajs=>intro w hSw;go_simp;all_goals(with_reducible rfl)
 refine dR ?_;refine gV 20 (v:= ?ar4) ?ajt hS ?_;case ajt=>intro w hSw;go_simp;all_goals(with_reducible rfl)
 refine dR ?_;refine gV 21 (v:= ?ar5) ?aju hS ?_;case aju=>intro w hSw;go_simp;all_goals(with_reducible rfl)
 refine dR ?_;refine gV 22 (v:= ?ar6) ?ajv hS ?_;case ajv=>intro w hSw;go_simp;all_goals(with_reducible rfl)
 refine dR ?_;refine gV 23 (v:= ?ar7) ?ajw hS ?_;case ajw=>intro w hSw;go_simp;all_goals(with_reducible rfl)
 refine dR ?_;refine wpAnyH_ready (rs:=[24]) ak ae ?_;refine AllReadyH.cons rfl (fun K hK=> ?_) AllReadyH.nil;go_simp;skip;refine hK.out _ _ (adl _) (fun aot=> ?_);clear hK K;refine wpAnyH_ready (rs:=[25]) ak ae ?_;refine AllReadyH.cons rfl (fun K hK=> ?_) AllReadyH.nil;refine step_append_lies (P:=prog) _ rfl (.tmp 19) (.tmp 43) 22 rfl w.heap.size 5 i (.int .u8 0) 1 1 underlying22 hi nE gU qR rfl an (.slice (some ⟨gb,0,none⟩) n pw) n _ rfl CP.drew ⟨w4.heap.size,0,none⟩ 4 4 (Lk lw) rfl rfl tR PV an NT OF pq (w4.heap.size+1) HH.out ?_;intro g2 ld w6 PY wU _ _;have ajx:=HK.out w6 wU;refine hK.out _ _ ajx (fun adm=> ?_);clear hK K;refine gV 26 (v:= ?ar8) ?ajy adm ?_;case ajy=>intro w hSw;go_simp;all_goals(with_reducible rfl)
 refine dR ?_;refine wpAnyH_done ak ?_ _;go_wp2_with fail;go_ret;refine⟨_,rfl,?_,?_⟩
 ·unfold Own;have hlr:res.length=n+4:=by have h4:=congrArg List.length Tx.out;rw[←HJ.out,List.length_append,HN.out];simp[Lk]at h4;omega
  rw[hlr,←HJ.out,List.map_append,←Tx.out];exact PY
 ·exact am ((bc.alloc bc.size _).drew) wU pq (fun g' wT=>by
   have:gb=g':=(by simpa [Value.ownBlock]using wT);omega)
end Go.Proofs.YtgfpocdiojifoaaGreatDoor
