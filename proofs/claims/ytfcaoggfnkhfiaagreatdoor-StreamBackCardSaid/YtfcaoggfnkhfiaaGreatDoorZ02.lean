import Derived.Test.YtfcaoggfnkhfiaaGreatDoorZ01
import Derived.BigRegion
import Derived.Deep.RegionLaw
import Derived.Deep.LoopGhost
import Derived.Deep.DeepCutAuto
import Derived.Deep.RegionHeld3
namespace Go.Proofs.YtfcaoggfnkhfiaaGreatDoor
set_option maxRecDepth 100000
set_option maxHeartbeats 8000000
open Go.RowKit Go.Proofs.Tryz
variable{p:Addr}{out:Bool}{X:List Nat}{l:List UInt8}{xs:List Value}{N cap g n o pos x y:Nat}{fr:Nat×Nat}{t:TypeId}{a b c d e:Value}{w w':World}
namespace Rc
def be:Nat→Nat→List UInt8
 | 0,_=>[]
 | n+1,v=>be n (v/256)++[UInt8.ofNat (v%256)]
theorem dc(n v:Nat):(be n v).length=n:=by
 induction n generalizing v with
 | zero=>rfl
 | succ n ih=>simp[be,ih]
theorem QC(n v:Nat):be n (v%256^n)=be n v:=by
 induction n generalizing v with
 | zero=>rfl
 | succ n ih=>
  simp only[be];have h1:v%256^(n+1)/256=v/256%256^n:=by rw[Nat.pow_succ,Nat.mul_comm,Nat.mod_mul_right_div_self]
  have h2:v%256^(n+1)%256=v%256:=by rw[Nat.pow_succ,Nat.mod_mul_left_mod]
  rw[h1,h2,ih]
theorem QD(m n v:Nat):be (m+n) v=be m (v/256^n)++be n v:=by
 induction n generalizing v with
 | zero=>simp[be]
 | succ n ih=>
  rw[←Nat.add_assoc];simp only[be];rw[ih,←List.append_assoc];congr 2;rw[Nat.div_div_eq_div_mul,Nat.pow_succ,Nat.mul_comm]
theorem Lf(n:Nat):be n 0=List.replicate n 0:=by
 induction n with
 | zero=>rfl
 | succ n ih=>simp only[be];rw[Nat.zero_div,ih,List.replicate_succ',Nat.zero_mod];rfl
theorem R_(n v i:Nat)(h:i<n):(be n v)[i]'(by rw[dc];exact h)=UInt8.ofNat (v/256^(n-1-i)%256):=by
 induction n generalizing v with
 | zero=>omega
 | succ n ih=>
  simp only[be];by_cases hi:i<n;·rw[List.getElem_append_left (by rw[dc];exact hi),ih _ hi,Nat.div_div_eq_div_mul];congr 3;rw[show n+1-1-i=(n-1-i)+1 by omega,Nat.pow_succ,Nat.mul_comm]
  ·obtain rfl:i=n:=(by omega);rw[List.getElem_append_right (by rw[dc];omega)];simp[dc]
structure St where
 k:Nat
 v:Nat
 r:Nat
def St.fits(s:St):Prop:=s.v+s.r≤256^(4+s.k)∧s.r<4294967296
def St.ok(s:St):Prop:=s.fits∧16777216≤s.r
def St.up(s:St):St:=⟨s.k+1,s.v*256,s.r*256⟩
def St.scale:Nat→St→St
 | 0,s=>s
 | n+1,s=>if s.r<16777216 then St.scale n s.up else s
theorem St.Lg(s:St)(h:s.fits)(hr:s.r<16777216):s.up.fits:=by
 refine⟨?_,?_⟩;·show s.v*256+s.r*256≤256^(4+(s.k+1));rw[←Nat.add_assoc 4,Nat.pow_succ,←Nat.add_mul];exact Nat.mul_le_mul_right _ h.1
 ·show s.r*256<4294967296;omega
def fair(c:Nat):Nat:=if c<1∨2048≤c then 1024 else c
theorem lA(c:Nat):1≤fair c∧fair c≤2047:=by unfold fair;split<;>omega
def next(p:Nat)(one:Bool):Nat:=if one then p-p/32 else p+(2048-p)/32
def St.pick(s:St)(p:Nat)(one:Bool):St:=if one then⟨s.k,s.v+s.r/2048*p,s.r-s.r/2048*p⟩else⟨s.k,s.v,s.r/2048*p⟩
theorem St.kx(s:St)(p:Nat)(one:Bool)(h:s.ok)(h1:1≤p)(h2:p≤2047):(s.pick p one).fits∧8192≤(s.pick p one).r:=by
 have hb:s.r/2048*p≤s.r/2048*2047:=Nat.mul_le_mul_left _ h2;have az:s.r/2048*1≤s.r/2048*p:=Nat.mul_le_mul_left _ h1;obtain⟨⟨ud,Lh⟩,hr⟩:=h;unfold St.pick St.fits;cases one;·simp only[Bool.false_eq_true,if_false];omega
 ·simp only[if_true];omega
def iB(m t V:Nat):List UInt8:=be (m-t) (V/256^t)++List.replicate t 0
theorem Fh(m V:Nat):iB m 0 V=be m V:=by simp[iB]
theorem sw(m t V:Nat)(h:t<m):iB m t V=be (m-(t+1)) (V/256^(t+1))++(UInt8.ofNat (V/256^t%256)::List.replicate t 0):=by
 unfold iB;obtain⟨j,hj⟩: ∃j,m-t=j+1:=⟨m-t-1,aa⟩
 rw[hj,show m-(t+1)=j by omega,be,Nat.div_div_eq_div_mul,Nat.pow_succ,List.append_assoc];rfl
theorem IE(m t V:Nat)(h:t<m):(iB m t V)[m-1-t]? =some (UInt8.ofNat (V/256^t%256)):=by rw[sw m t V h,List.getElem?_append_right (by rw[dc];omega),dc,show m-1-t-(m-(t+1))=0 by omega];rfl
theorem xM(m t V:Nat)(h:t<m)(x:UInt8):(iB m t V).set (m-1-t) x=be (m-(t+1)) (V/256^(t+1))++(x::List.replicate t 0):=by rw[sw m t V h,List.set_append_right _ _ (by rw[dc];omega),dc,show m-1-t-(m-(t+1))=0 by omega];rfl
theorem Fi(m t V:Nat)(h:t<m):(iB m t V).set (m-1-t) 0=iB m (t+1) V:=by rw[xM m t V h];unfold iB;rw[List.replicate_succ]
theorem QE(t V:Nat)(h:V%256^t=256^t-1)(h2:V/256^t%256=255):V%256^(t+1)=256^(t+1)-1:=by have hp:0<256^t:=Nat.pos_of_ne_zero ag;rw[Nat.pow_succ,Nat.mod_mul,h,h2];omega
theorem succ_div(t V:Nat)(h:V%256^t=256^t-1):V+1=(V/256^t+1)*256^t:=by have hp:0<256^t:=Nat.pos_of_ne_zero ag;have:=Nat.div_add_mod V (256^t);rw[Nat.add_mul,Nat.mul_comm (V/256^t)];omega
theorem Fj(m t V:Nat)(h:t<m)(hv:V%256^t=256^t-1)(h2:V/256^t%256≠255):
  (iB m t V).set (m-1-t) (UInt8.ofNat (V/256^t%256)+1)=be m (V+1):=by
 have hp:0<256^t:=Nat.pos_of_ne_zero ag;rw[xM m t V h];have e1:be m (V+1)=be (m-t) (V/256^t+1)++List.replicate t 0:=by
  conv=>lhs;rw[show m=(m-t)+t by omega]
  rw[QD,succ_div t V hv,Nat.mul_div_cancel _ hp];congr 1;rw[←QC,Nat.mul_mod_left,Lf]
 rw[e1];obtain⟨j,hj⟩: ∃j,m-t=j+1:=⟨m-t-1,aa⟩
 rw[hj,show m-(t+1)=j by omega,be];have e2:(V/256^t+1)/256=V/256^(t+1):=by rw[Nat.pow_succ,←Nat.div_div_eq_div_mul];omega
 have e3:UInt8.ofNat ((V/256^t+1)%256)=UInt8.ofNat (V/256^t%256)+1:=by apply UInt8.toNat_inj.1;rw[UInt8.toNat_add,UInt8.toNat_ofNat',UInt8.toNat_ofNat'];simp
 rw[e2,e3,List.append_assoc];rfl
theorem IG(m V:Nat)(hv:V%256^m=256^m-1):iB m m V=be m (V+1):=by unfold iB;rw[Nat.sub_self,be,List.nil_append,←QC,succ_div m V hv,Nat.mul_mod_left,Lf]
end Rc
structure aw(X:List Nat)(w w':World):Prop where
 os:w'.os=w.os
 tape:w'.tape=w.tape
 output:w'.output=w.output
 size:w.heap.size≤w'.heap.size
 block: ∀i,i<w.heap.size→i ∉ X→w'.heap[i]? =w.heap[i]?
theorem aw.refl(X:List Nat)(w:World):aw X w w:=⟨rfl,rfl,rfl,Nat.le_refl _,fun _ _ _=>rfl⟩
theorem aw.trans{Y:List Nat}{a b c:World}(h:aw X a b)(k:aw Y b c)(hY: ∀i∈Y,i∈X∨a.heap.size≤i):aw X a c:=
 ⟨k.os.trans h.os,k.tape.trans h.tape,k.output.trans h.output,Nat.le_trans h.size k.size,fun i hi hX=>
  (k.block i (Nat.lt_of_lt_of_le hi h.size) (fun hm=>by rcases hY i hm with h1 | h1;exact hX h1;omega)).trans (h.block i hi hX)⟩
theorem aw.alloc{a b:World}(h:aw X a b)(o:Obj):aw X a (b.alloc o):=
 h.trans (Y:=[]) ⟨rfl,rfl,rfl,ag,fun i hi _=>Below.heap_alloc b o i hi⟩ ag
theorem aw.setCell{a b:World}(h:aw X a b)(hp:p.block∈X∨a.heap.size≤p.block)(u:Value):aw X a (b.setCell p u):=
 h.trans (Y:=[p.block]) ⟨rfl,rfl,rfl,ag,fun i _ hm=>Below.heap_setCell b p u i rf⟩ (by simpa using hp)
theorem aw.drew{a b:World}(h:aw X a b):aw X a b.drew:=⟨h.os,h.tape,h.output,h.size,h.block⟩
theorem aw.grown{a b c:World}(h:aw X a b)(hg:b.grownBy c (some o))(ho:o∈X∨a.heap.size≤o):aw X a c:=
 h.trans (Y:=[o]) ⟨hg.os,hg.tape,hg.output,hg.size,fun i hi hm=>hg.block i hi rf⟩ (by simpa using ho)
theorem aw.below{a b:World}{B:Nat}(h:aw X a b)(hB:B≤a.heap.size)(hX: ∀i∈X,B≤i):Below B a b:=
 ⟨h.os,h.tape,h.output,h.size,fun i hi=>h.block i aa (fun hm=>am (hX i hm))⟩
structure fH(w:World)(g o cap:Nat)(s:Rc.St):Prop where
 ay:w.heap[g]? =some (.cells #[.int .u32 ((s.v%4294967296:Nat):Int),.int .u32 ((s.r:Nat):Int),.slice (some ⟨o,0,none⟩) (1+s.k) cap] 265 (0,0))
 own:w.ownsRow 0 5 1 (.slice (some ⟨o,0,none⟩) (1+s.k) cap) (1+s.k) ((Rc.be (1+s.k) (s.v/4294967296)).map B8)
 ne:g≠o
theorem MH(c:BitVec 16)(w:World):Calls prog 294 #[.int .u16 c.toNat] w fun e w'=>e= .returned (.int .u16 (Rc.fair c.toNat:Nat))∧w=w':=by
 have hc:=c.isLt;by_cases h1:c.toNat<1
 ·have hf:Rc.fair c.toNat=1024:=by unfold Rc.fair;rw[if_pos (.inl h1)]
  rw[hf];have S_:(c.toNat:Int)<1:=aa;go_enter func294,ntmps294;go_wp2_with fail;go_ret;exact⟨rfl,rfl⟩
 ·by_cases h2:2048≤c.toNat;·have hf:Rc.fair c.toNat=1024:=(by unfold Rc.fair;rw[if_pos (.inr h2)]);rw[hf];have S_: ¬(c.toNat:Int)<1:=aa;have h2':(2048:Int)≤c.toNat:=aa;go_enter func294,ntmps294;go_wp2_with fail;go_ret;exact⟨rfl,rfl⟩
  ·have hf:Rc.fair c.toNat=c.toNat:=(by unfold Rc.fair;rw[if_neg aa]);rw[hf];have S_: ¬(c.toNat:Int)<1:=aa;have h2': ¬(2048:Int)≤c.toNat:=aa;go_enter func294,ntmps294;go_wp2_with fail;go_ret;exact⟨rfl,rfl⟩
def de(one:Bool):Int:=if one then 1 else 0
theorem BL(p:Nat)(one:Bool)(w:World)(h1:1≤p)(h2:p≤2047):Calls prog 295 #[.int .u16 p,.int .i64 (de one)] w fun e w'=>e= .returned (.int .u16 (Rc.next p one:Nat))∧w=w':=by
 cases one
 ·have hn:((Rc.next p false:Nat):Int)=(p:Int)+(2048-(p:Int))/32:=by simp only[Rc.next,Bool.false_eq_true,if_false];omega
  have HN:=ae hn;clear hn;unfold de;simp only[Bool.false_eq_true,if_false];go_enter func295,ntmps295;go_wp2_with fail;go_ret;exact⟨congrArg (fun n:Int=>Ending.returned (Value.int .u16 n)) HN.out.symm,rfl⟩
 ·have hn:((Rc.next p true:Nat):Int)=(p:Int)-(p:Int)/32:=by simp only[Rc.next,if_true];omega
  have HN:=ae hn;clear hn;unfold de;simp only[if_true];go_enter func295,ntmps295;go_wp2_with fail;go_ret;exact⟨congrArg (fun n:Int=>Ending.returned (Value.int .u16 n)) HN.out.symm,rfl⟩
theorem T_(b:UInt8):((b.toNat:Int)+1)%256=((b+1).toNat:Int):=by rw[UInt8.toNat_add];simp
theorem Fk(i q g o n cap:Nat)(b:UInt8)(w:World)(hi:i<n)(_hn:n≤9223372036854775807)(hqo:q≠o)(ue:g≠o)
  (cq:w.cell? ⟨q,0,none⟩=some (.pointer (some ⟨g,0,none⟩))) (cg:w.cell? ⟨g,2,none⟩=some (.slice (some ⟨o,0,none⟩) n cap))
  (co:w.cell? ⟨o,i,none⟩=some (.int .u8 (b.toNat:Nat))) (fo:w.frozen? ⟨o,i,none⟩=false):
  Calls prog 297 #[.int .i64 i,.pointer (some ⟨q,0,none⟩)] w fun e w'=>e= .returned (.bool (((b+1).toNat:Int)==0))∧w'=w.setCell ⟨o,i,none⟩ (B8 (b+1)):=by
 have atp:=T_ b;have hb:=b.toNat_lt;generalize hs:b+1=s at*;have HS:=ae hs;clear hs;have e1:(⟨q,0,none⟩:Addr)≠⟨o,i,none⟩:=fun e=>hqo (congrArg Addr.block e);have e2:(⟨g,2,none⟩:Addr)≠⟨o,i,none⟩:=fun e=>ue (congrArg Addr.block e);have d1:(w.setCell ⟨o,i,none⟩ (B8 s)).cell? ⟨q,0,none⟩=some (.pointer (some ⟨g,0,none⟩)):=(World.cell?_setCell_other _ _ _ _ (fun e=>e1 e.symm)).trans cq;have d2:(w.setCell ⟨o,i,none⟩ (B8 s)).cell? ⟨g,2,none⟩=some (.slice (some ⟨o,0,none⟩) n cap):=(World.cell?_setCell_other _ _ _ _ (fun e=>e2 e.symm)).trans cg;go_enter func297,ntmps297;go_wp2_with fail;go_ret;exact⟨rfl,rfl⟩
theorem xN(h:w.heap[g]? =some (.cells #[a,b,c] t (0,0)))(u:Value):(w.setCell ⟨g,0,none⟩ u).heap[g]? =some (.cells #[u,b,c] t (0,0)):=by rw[heap_setCell_same w g 0 _ t u h];rfl
theorem oL(h:w.heap[g]? =some (.cells #[a,b,c] t (0,0)))(u:Value):(w.setCell ⟨g,1,none⟩ u).heap[g]? =some (.cells #[a,u,c] t (0,0)):=by rw[heap_setCell_same w g 1 _ t u h];rfl
theorem QF(h:w.heap[g]? =some (.cells #[a,b,c] t (0,0)))(u:Value):(w.setCell ⟨g,2,none⟩ u).heap[g]? =some (.cells #[a,b,u] t (0,0)):=by rw[heap_setCell_same w g 2 _ t u h];rfl
theorem fU{e:Nat}(h:w.ownsRow 0 e 1 (.slice (some ⟨o,0,none⟩) n cap) n xs)(hp:p.block≠o)(u:Value):(w.setCell p u).ownsRow 0 e 1 (.slice (some ⟨o,0,none⟩) n cap) n xs:=
 World.ownsRow.kept (row:=some p.block) h ⟨rfl,rfl,rfl,ag,fun j _ hj=>heap_setCell_other _ _ j _ (fun e=>hj (by simp[e]))⟩ (.inr (by simpa [Value.ownBlock]using fun e=>hp e.symm))
theorem U_(x:Nat)(h:x<256)(h2:x≠255):((((UInt8.ofNat x+1:UInt8)).toNat:Int)==0)=false:=by rw[beq_eq_false_iff_ne,UInt8.toNat_add,UInt8.toNat_ofNat'];simp;omega
def Did(P:World→Prop)(e:Ending)(w':World):Prop:=e= .returned (.tuple #[])∧P w'
theorem Li(g o cap:Nat)(s:Rc.St)(n:Nat)(w:World)(hE:fH w g o cap s)(hn:n<4294967296)(hk:1+s.k≤9223372036854775807):
  Calls prog 296 #[.pointer (some ⟨g,0,none⟩),.int .u32 n] w (Did fun w'=>fH w' g o cap ⟨s.k,s.v+n,s.r⟩∧aw [g,o] w w'):=by
 have c0:w.cell? ⟨g,0,none⟩=some (.int .u32 ((s.v%4294967296:Nat):Int)):=by rw[cell_of_row _ _ _ _ _ _ hE.ay];rfl
 have f0:w.frozen? ⟨g,0,none⟩=false:=frozen_of_row _ _ _ _ _ hE.ay;have tT:g<w.heap.size:=block_lt_of_cell c0;generalize AQ:s.v%4294967296=low at*;have Di:low<4294967296:=aa;have Wo:=ae AQ;clear AQ;by_cases akL:low+n<4294967296
 ·have hq:((low:Int)+(n:Int))/4294967296=0:=by omega
  have hr:((low:Int)+(n:Int))%4294967296=(((low+n:Nat)):Int):=aa;go_enter func296,ntmps296;go_wp2_with fail;refine bodyPost_ret (results_none rfl _ _ _) rfl ⟨rfl,?_,?_⟩
  ·refine⟨?_,?_,hE.ne⟩;·rw[Below.heap_alloc _ _ _ (by simpa using tT),xN hE.ay];have e1:(s.v+n)%4294967296=low+n:=am Wo.out;show some (Obj.cells #[.int .u32 ((low:Int)+(n:Int)),_,_] _ _)=some (Obj.cells #[.int .u32 (((s.v+n)%4294967296:Nat):Int),_,_] _ _);rw[e1];rfl
   ·have e2:(s.v+n)/4294967296=s.v/4294967296:=am Wo.out;show World.ownsRow _ 0 _ 1 _ _ ((Rc.be (1+s.k) ((s.v+n)/4294967296)).map B8);rw[e2];exact World.ownsRow.alloc (fU hE.own hE.ne _) _
  ·exact((aw.refl _ _).setCell ag _).alloc _
 ·obtain⟨lo,Ap⟩: ∃lo,low+n=lo+4294967296:=⟨low+n-4294967296,aa⟩
  have hq:((low:Int)+(n:Int))/4294967296=1:=aa;have hr:((low:Int)+(n:Int))%4294967296=(lo:Int):=aa;have c2:w.cell? ⟨g,2,none⟩=some (.slice (some ⟨o,0,none⟩) (1+s.k) cap):=by rw[cell_of_row _ _ _ _ _ _ hE.ay];rfl
  have hol:o<w.heap.size:=by have:=World.ownsRow.lt hE.own o rfl;exact this.2
  have dH:=hE.ne;have c2':(w.setCell ⟨g,0,none⟩ (.int .u32 lo)).cell? ⟨g,2,none⟩=some (.slice (some ⟨o,0,none⟩) (1+s.k) cap):=(World.cell?_setCell_other _ _ _ _ ag).trans c2;have iy:(1:Int)≤((1+s.k:Nat):Int):=aa;have aK:=hE.own;generalize IH:1+s.k=m at*;have HM:=ae IH;have HLO:=ae Ap;clear IH Ap;go_enter func296,ntmps296;go_wp2_with fail;rw[hr];have ZG:((w.setCell ⟨g,0,none⟩ (.int .u32 lo)).alloc (.cells #[.pointer (some ⟨g,0,none⟩)] 217)).heap[g]? =some (.cells #[.int .u32 lo,.int .u32 ((s.r:Nat):Int),.slice (some ⟨o,0,none⟩) m cap] 265 (0,0)):=by rw[Below.heap_alloc _ _ _ (by simpa using tT)];have hb:=hE.ay;rw[HM.out]at hb;exact xN hb _
  have Lj:((w.setCell ⟨g,0,none⟩ (.int .u32 lo)).alloc (.cells #[.pointer (some ⟨g,0,none⟩)] 217)).heap[w.heap.size]? =some (.cells #[.pointer (some ⟨g,0,none⟩)] 217 (0,0)):=by have:=heap_alloc_new (w.setCell ⟨g,0,none⟩ (.int .u32 lo)) (.cells #[.pointer (some ⟨g,0,none⟩)] 217);simpa using this
  have d7:((w.setCell ⟨g,0,none⟩ (.int .u32 lo)).alloc (.cells #[.pointer (some ⟨g,0,none⟩)] 217)).ownsRow 0 5 1 (.slice (some ⟨o,0,none⟩) m cap) m ((Rc.iB m 0 (s.v/4294967296)).map B8):=by rw[Rc.Fh];exact World.ownsRow.alloc (fU aK dH _) _
  have jc:aw [g,o] w ((w.setCell ⟨g,0,none⟩ (.int .u32 lo)).alloc (.cells #[.pointer (some ⟨g,0,none⟩)] 217)):=((aw.refl _ _).setCell ag _).alloc _;generalize(w.setCell ⟨g,0,none⟩ (.int .u32 lo)).alloc (.cells #[.pointer (some ⟨g,0,none⟩)] 217)=w1 at*;generalize hQ:w.heap.size=q at*;have hqg:g<q:=tT;have hqo:o<q:=hol;have HQ:=ae hQ;have qG: ∀w',w'.heap[g]? =some (.cells #[.int .u32 lo,.int .u32 ((s.r:Nat):Int),.slice (some ⟨o,0,none⟩) m cap] 265 (0,0))→w'.ownsRow 0 5 1 (.slice (some ⟨o,0,none⟩) m cap) m ((Rc.be m (s.v/4294967296+1)).map B8)→fH w' g o cap ⟨s.k,s.v+n,s.r⟩:=by
   intro w' h1 h2;have e1:(s.v+n)%4294967296=lo:=(by have:=Wo.out;have:=HLO.out;omega);have e2:(s.v+n)/4294967296=s.v/4294967296+1:=(by have:=Wo.out;have:=HLO.out;omega);refine⟨?_,?_,dH⟩;·show w'.heap[g]? =some (.cells #[.int .u32 (((s.v+n)%4294967296:Nat):Int),.int .u32 ((s.r:Nat):Int),.slice (some ⟨o,0,none⟩) (1+s.k) cap] _ (0,0));rw[e1,HM.out];exact h1
   ·show w'.ownsRow 0 _ 1 (.slice (some ⟨o,0,none⟩) (1+s.k) cap) (1+s.k) ((Rc.be (1+s.k) ((s.v+n)/4294967296)).map B8);rw[e2,HM.out];exact h2
  have ZH:=ae qG;clear qG hr hq c0 c2 c2' f0 hE aK akL hQ tT hol;generalize s.v/4294967296=V at*;go_loopw [6] (fun i wr=> ∃t:Nat,t≤m∧i= .int .i64 ((m:Int)-1-(t:Int))∧Hid (V%256^t=256^t-1)∧wr.heap[g]? =some (.cells #[.int .u32 lo,.int .u32 ((s.r:Nat):Int),.slice (some ⟨o,0,none⟩) m cap] 265 (0,0))∧wr.heap[q]? =some (.cells #[.pointer (some ⟨g,0,none⟩)] 217 (0,0))∧wr.ownsRow 0 5 1 (.slice (some ⟨o,0,none⟩) m cap) m ((Rc.iB m t V).map B8)∧aw [g,o] w wr) (fun i _=>(intOf i+1).toNat);case atStart=>exact⟨0,aa,aE,by simp[Hid,Nat.mod_one],ZG,Lj,d7,jc⟩
  case round=>
   clear ZG Lj d7 jc;obtain⟨t,ht,rfl,dp,mY,ZI,aK,ci⟩:=hrel;by_cases aH:t<m
   ·obtain⟨j,hj⟩: ∃j:Nat,j=m-1-t:=⟨_,rfl⟩
    have Dj:(m:Int)-1-(t:Int)=(j:Int):=aa;have hjm:j<m:=aa;have cq:wr.cell? ⟨q,0,none⟩=some (.pointer (some ⟨g,0,none⟩)):=(by rw[cell_of_row _ _ _ _ _ _ ZI];rfl);have cg:wr.cell? ⟨g,2,none⟩=some (.slice (some ⟨o,0,none⟩) m cap):=(by rw[cell_of_row _ _ _ _ _ _ mY];rfl);have co:=aK.cellAt j aa;have fo:=aK.frozenAt j;rw[List.getElem?_map,hj,Rc.IE m t V aH,←hj]at co;simp only[Option.map]at co;obtain⟨js,Dk⟩:=aK.stored j (B8 (UInt8.ofNat (V/256^t%256)+1));rw[←List.map_set]at js;have mZ:aw [g,o] w (wr.setCell ⟨o,j,none⟩ (B8 (UInt8.ofNat (V/256^t%256)+1))):=ci.setCell ag _;have QG:(wr.setCell ⟨o,j,none⟩ (B8 (UInt8.ofNat (V/256^t%256)+1))).heap[g]? =some (.cells #[.int .u32 lo,.int .u32 ((s.r:Nat):Int),.slice (some ⟨o,0,none⟩) m cap] 265 (0,0)):=(heap_setCell_other _ _ _ _ dH).trans mY;have ad9:(wr.setCell ⟨o,j,none⟩ (B8 (UInt8.ofNat (V/256^t%256)+1))).heap[q]? =some (.cells #[.pointer (some ⟨g,0,none⟩)] 217 (0,0)):=(heap_setCell_other _ _ _ _ av).trans ZI;have lB:=ae (Fk j q g o m cap (UInt8.ofNat (V/256^t%256)) wr hjm hk aa dH cq cg co fo);have AK:(0:Int)≤(j:Int):=aa;by_cases MI:V/256^t%256=255
    ·have hz:UInt8.ofNat (V/256^t%256)+1=0:=(by rw[MI];decide);rw[hz,hj,Rc.Fi m t V aH]at js;rw[hz]at lB mZ QG ad9;have HN:=ae (Rc.QE t V dp.out MI);have HJ:=ae hj;rw[←hj]at js;clear hz Dk co cq cg fo hj MI;rw[Dj];go_wp2_with fail;refine lB.out.mono ?_;rintro e w' ⟨rfl,rfl⟩;go_wp2_with fail;go_roundw;case rel=>exact⟨t+1,aa,congrArg (Value.int .i64) aa,HN,QG,ad9,js,mZ⟩
     case measure=>simp[intOf]<;>omega
    ·have hx:=U_ (V/256^t%256) (Nat.mod_lt _ aa) MI;rw[hj,Rc.Fj m t V aH dp.out MI,←hj]at js;rw[hx]at lB;generalize UInt8.ofNat (V/256^t%256)+1=x at*;clear Dk co cq cg fo hj MI hx;rw[Dj];go_wp2_with fail;refine lB.out.mono ?_;rintro e w' ⟨rfl,rfl⟩;go_wp2_with fail;go_end0;exact⟨rfl,ZH.out _ QG js,mZ⟩
   ·obtain rfl:t=m:=(by omega);rw[Rc.IG t V dp.out]at aK;have akM:(t:Int)-1-(t:Int)= -1:=aa;rw[akM];go_wp2_with fail;go_end0;exact⟨rfl,ZH.out _ mY aK,ci⟩
def Dl(w:World)(g o:Nat)(t:Rc.St)(w':World):Prop:= ∃o' dX,fH w' g o' dX t∧aw [g,o] w w'∧(o'=o∨w.heap.size≤o')
theorem QH(v lw:Nat)(h:v%4294967296=lw):IntKind.u8.wrap ((lw:Int)/16777216)=((UInt8.ofNat (v/16777216%256)).toNat:Int):=by rw[IntKind.wrap_u8',UInt8.toNat_ofNat'];omega
theorem V_(v lw:Nat)(h:v%4294967296=lw):((lw:Int)*256)%4294967296=((v*256%4294967296:Nat):Int):=aa
theorem QI(k v:Nat):Rc.be (1+k) (v/4294967296)++[UInt8.ofNat (v/16777216%256)]=Rc.be (1+(k+1)) (v*256/4294967296):=by rw[←Nat.add_assoc,Rc.be,show v*256/4294967296=v/16777216 by omega,Nat.div_div_eq_div_mul]
theorem xO(h:w.heap[g]? =some (.cells #[a,b,c] t fr)):w.cell? ⟨g,0,none⟩=some a:=ox
theorem sx(h:w.heap[g]? =some (.cells #[a,b,c] t fr)):w.cell? ⟨g,1,none⟩=some b:=ox
theorem Fl(h:w.heap[g]? =some (.cells #[a,b,c] t fr)):w.cell? ⟨g,2,none⟩=some c:=ox
theorem pU(N g o cap:Nat)(s:Rc.St)(w:World)(hE:fH w g o cap s)(hf:s.fits)(hk:1+s.k+N≤140737488355328)(hr:16777216≤s.r*256^N):
  Calls prog 293 #[.pointer (some ⟨g,0,none⟩)] w (Did (Dl w g o (Rc.St.scale N s))):=by
 obtain⟨i,hi,kw,eQ,oC⟩:=info_parts oK;go_enter func293,ntmps293;go_wp2_with fail;go_loopg [6] N (fun gk s6 wr=> ∃(o' dX:Nat) (t:Rc.St),fH wr g o' dX t∧t.fits∧1+t.k+gk≤140737488355328∧Hid (16777216≤t.r*256^gk)∧Rc.St.scale N s=Rc.St.scale gk t∧aw [g,o] w wr∧(o'=o∨w.heap.size≤o'));case atStart=>exact⟨o,cap,s,hE,hf,hk,hr,rfl,aw.refl _ _,.inl rfl⟩
 case round=>
  obtain⟨o',dX,t,hT,xP,hkt,ZJ,QJ,ci,mU⟩:=hrel;have HSC:=ae QJ;have c0:wr.cell? ⟨g,0,none⟩=some (.int .u32 ((t.v%4294967296:Nat):Int)):=Ij;have c1:wr.cell? ⟨g,1,none⟩=some (.int .u32 ((t.r:Nat):Int)):=Ij;have c2:wr.cell? ⟨g,2,none⟩=some (.slice (some ⟨o',0,none⟩) (1+t.k) dX):=Ij;have f0:wr.frozen? ⟨g,0,none⟩=false:=frozen_of_row _ _ _ _ _ hT.ay;have f1:wr.frozen? ⟨g,1,none⟩=false:=frozen_of_row _ _ _ _ _ hT.ay;have f2:wr.frozen? ⟨g,2,none⟩=false:=frozen_of_row _ _ _ _ _ hT.ay;clear QJ hE;by_cases aH:t.r<16777216
  ·have MJ:(t.r:Int)<16777216:=(by omega);cases gk with
   | zero=>have:=ZJ.out;simp at this;omega
   | succ gk=>
    generalize hlw:t.v%4294967296=lw at*;have aea:=QH t.v lw hlw;have hup:=ae (V_ t.v lw hlw);have Di:lw<4294967296:=aa;have W_:=ae hlw;clear hlw;have hub:=ae (QI t.k t.v);generalize hx:UInt8.ofNat (t.v/16777216%256)=x at*;have tT:g<wr.heap.size:=block_lt_of_cell c0;have X_:=World.ownsRow.alloc hT.own (.cells #[.int .u8 (x.toNat:Nat)] 5);have vk:=cell_one_new wr (B8 x) 5;have Fc:1+t.k+1≤maxLen:=fF;have ZK:(1+t.k+1)*1≤140737488355328:=aa;have oq:0≤(wr.alloc (.cells #[.int .u8 (x.toNat:Nat)] 5)).drew.heap.size:=Nat.zero_le _;have hHH:(wr.alloc (.cells #[.int .u8 (x.toNat:Nat)] 5)).drew.heap.size=wr.heap.size+1:=(by show(wr.alloc _).heap.size=_;simp);have HH:=ae hHH;clear hHH;have QK:=hT.ay;rw[W_.out]at QK;have dH:=hT.ne;have lV: ∀w2:World,(wr.alloc (.cells #[.int .u8 (x.toNat:Nat)] 5)).drew.grownBy w2 (Value.ownBlock (.slice (some ⟨o',0,none⟩) (1+t.k) dX))→w2.heap[g]? =some (.cells #[.int .u32 (lw:Int),.int .u32 ((t.r:Nat):Int),.slice (some ⟨o',0,none⟩) (1+t.k) dX] 265 (0,0)):=by
     intro w2 h;refine(h.block g ?_ ?_).trans ((Below.heap_alloc wr _ g tT).trans QK);·show g<(wr.alloc _).heap.size;simp;omega
     ·simpa [Value.ownBlock]using dH
    have wS:=ae lV;clear lV QK;go_wp2_with fail;go_region_law (refine step_append_lies (P:=prog) _ rfl (.tmp 11) (.tmp 18) 22 rfl 0 5 i (.int .u8 0) 1 1 underlying22 hi kw eQ oC rfl ak (.slice (some ⟨o',0,none⟩) (1+t.k) dX) (1+t.k) _ rfl X_.drew ⟨wr.heap.size,0,none⟩ 1 1 [B8 x] rfl rfl vk (lU [x]) ak Fc ZK oq (wr.heap.size+1) HH.out ?_;intro g2 uf w2 lC gI Y_ oM;have Wp:=wS.out w2 gI;have c22:=Fl Wp;have f22:=frozen_of_row w2 g 2 _ _ Wp)
    all_goals
     have bA:=QF Wp (.slice (some ⟨g2,0,none⟩) (1+t.k+1) uf);have EL:g≠g2:=by
      rcases Y_ with h | h;·have e:o'=g2:=(by simpa [Value.ownBlock]using h);rw[←e];exact dH
      ·omega
     have sy:=fU (p:=⟨g,2,none⟩) lC EL (.slice (some ⟨g2,0,none⟩) (1+t.k+1) uf);have fV:aw [g,o] w w2:=by
      refine(ci.alloc (.cells #[.int .u8 (x.toNat:Nat)] 5)).drew.grown gI ?_;rcases mU with h | h;·exact .inl dD
      ·exact .inr h
     have dK:=fV.setCell (p:=⟨g,2,none⟩) (.inl ag) (.slice (some ⟨g2,0,none⟩) (1+t.k+1) uf);have el:g2=o∨w.heap.size≤g2:=by
      rcases Y_ with h | h;·have e:o'=g2:=(by simpa [Value.ownBlock]using h);rw[←e];exact mU
      ·have:=ci.size;exact .inr aa
     generalize w2.setCell ⟨g,2,none⟩ (.slice (some ⟨g2,0,none⟩) (1+t.k+1) uf)=w3 at*;have d0:=xO bA;have d1:=sx bA;have e0:=frozen_of_row w3 g 0 _ _ bA;have e1:=frozen_of_row w3 g 1 _ _ bA;have ij:=oL (xN bA (.int .u32 ((t.v*256%4294967296:Nat):Int))) (.int .u32 ((t.r*256:Nat):Int));have Fm:=fU (p:=⟨g,1,none⟩) (fU (p:=⟨g,0,none⟩) sy EL (.int .u32 ((t.v*256%4294967296:Nat):Int))) EL (.int .u32 ((t.r*256:Nat):Int));have jd:=(dK.setCell (p:=⟨g,0,none⟩) (.inl ag) (.int .u32 ((t.v*256%4294967296:Nat):Int))).setCell (p:=⟨g,1,none⟩) (.inl ag) (.int .u32 ((t.r*256:Nat):Int));have HL:=ae ij;clear ij Wp gI Y_ lC fV c22 f22 sy dK c0 c1 c2 f0 f1 f2 aea X_ vk;go_wp2_with fail;rw[hup.out,show((t.r:Int)*256)=((t.r*256:Nat):Int)from aa];go_roundg gk;case measure=>omega
     case rel=>
      refine⟨g2,uf,t.up,⟨?_,?_,EL⟩,t.Lg xP aH,by show 1+(t.k+1)+gk≤_;omega,?_,?_,jd,el⟩;·show _=some (Obj.cells #[_,_,.slice (some ⟨g2,0,none⟩) (1+(t.k+1)) uf] _ _);rw[←Nat.add_assoc];exact HL.out
      ·show World.ownsRow _ 0 _ 1 (.slice (some ⟨g2,0,none⟩) (1+(t.k+1)) uf) (1+(t.k+1)) ((Rc.be (1+(t.k+1)) (t.v*256/4294967296)).map B8);rw[←hub.out,List.map_append,←Nat.add_assoc];exact Fm
      ·show 16777216≤t.r*256*256^gk;have:=ZJ.out;rw[Nat.pow_succ,Nat.mul_comm (256^gk),←Nat.mul_assoc]at this;exact this
      ·rw[HSC.out,Rc.St.scale,if_pos aH]
  ·have Lk: ¬(t.r:Int)<16777216:=(by omega);go_wp2_with fail;go_end0;refine⟨rfl,o',dX,?_,ci,mU⟩;have bQ:Rc.St.scale gk t=t:=by
    cases gk with
    | zero=>rfl
    | succ gk=>rw[Rc.St.scale,if_neg aH]
   rw[HSC.out,bQ];exact hT
def Ll(w:World)(g o:Nat)(bit:Int)(p:Nat)(t:Rc.St)(e:Ending)(w':World):Prop:=
 e= .returned (.tuple #[.int .i64 bit,.int .u16 (p:Nat)])∧Dl w g o t w'
theorem BM(r p:Nat)(hr:r<4294967296)(hp:p≤2047):(((r:Int)/2048)*(p:Int))%4294967296=((r/2048*p:Nat):Int):=by have h:r/2048*p≤r/2048*2047:=Nat.mul_le_mul_left _ hp;have e:((r:Int)/2048)*(p:Int)=((r/2048*p:Nat):Int):=ag;rw[e];omega
theorem Wq(g o cap:Nat)(s:Rc.St)(c:BitVec 16)(bit:Int)(w:World)(hE:fH w g o cap s)(hs:s.ok)(hk:1+s.k+2≤140737488355328):
  Calls prog 291 #[.pointer (some ⟨g,0,none⟩),.int .u16 c.toNat,.int .i64 bit] w
   (Ll w g o (de (bit !=0)) (Rc.next (Rc.fair c.toNat) (bit !=0)) (Rc.St.scale 2 (s.pick (Rc.fair c.toNat) (bit !=0)))):=by
 obtain⟨Fn,vo⟩:=Rc.lA c.toNat;have hv:=ae (fun w=>MH c w);generalize Rc.fair c.toNat=p at*;have hsr:=hs.1.2;have hbd:=BM s.r p hsr vo;have akO:s.r/2048*p≤s.r/2048*2047:=Nat.mul_le_mul_left _ vo;generalize P8:s.r/2048*p=ky at*;have Z_:ky<4294967296:=aa;have Hu:ky≤s.r:=aa;have HBN:=ae P8;clear P8;have c1:=sx hE.ay;have f1:=frozen_of_row w g 1 _ _ hE.ay;by_cases hb:bit=0
 ·subst hb;obtain⟨Vz,sf⟩:=s.kx p false hs Fn vo;have wT:=ae (fun w=>BL p false w Fn vo);have e0:de ((0:Int) !=0)=0:=rfl;rw[e0,show((0:Int) !=0)=false from rfl];have EM:s.pick p false=⟨s.k,s.v,ky⟩:=by rw[←HBN.out];rfl
  rw[EM]at Vz sf ⊢;have Aq:fH (w.setCell ⟨g,1,none⟩ (.int .u32 ((ky:Nat):Int))) g o cap ⟨s.k,s.v,ky⟩:=⟨oL hE.ay _,fU hE.own hE.ne _,hE.ne⟩
  have ug:=ae (pU 2 g o cap ⟨s.k,s.v,ky⟩ _ Aq Vz (by show 1+s.k+2≤_;exact hk) (by show 16777216≤ky*256^2;have:8192≤ky:=sf;omega));go_enter func291,ntmps291;go_wp2_with fail;refine(hv.out _).mono ?_;rintro e w' ⟨rfl,rfl⟩;go_wp2_with fail;refine(wT.out _).mono ?_;rintro e w' ⟨rfl,rfl⟩;go_wp2_with fail;refine ug.out.mono ?_;rintro e w1 ⟨rfl,o',dX,MK,ci,ho⟩;go_wp2_with fail;go_ret2;exact⟨rfl,o',dX,MK,((aw.refl _ _).setCell (p:=⟨g,1,none⟩) (.inl ag) _).trans ci ag,by rcases ho with h | h;exact .inl h;exact .inr kJ⟩
 ·have hbt:(bit !=0)=true:=by rw[bne_iff_ne];exact hb
  obtain⟨Vz,sf⟩:=s.kx p true hs Fn vo;have wT:=ae (fun w=>BL p true w Fn vo);rw[hbt,show de true=1 from rfl];have EM:s.pick p true=⟨s.k,s.v+ky,s.r-ky⟩:=by rw[←HBN.out];rfl
  rw[EM]at Vz sf ⊢;have QL:=ae (Li g o cap s ky w hE Z_ aa);have atu:(bit==0)=false:=beq_eq_false_iff_ne.2 hb;have akQ:(s.r:Int)-(ky:Int)=((s.r-ky:Nat):Int):=aa;go_enter func291,ntmps291;go_wp2_with fail;refine(hv.out _).mono ?_;rintro e w' ⟨rfl,rfl⟩;go_wp2_with fail;refine(wT.out _).mono ?_;rintro e w' ⟨rfl,rfl⟩;go_wp2_with fail;refine QL.out.mono ?_;rintro e w1 ⟨rfl,hEa,QM⟩;have d1:=sx hEa.ay;have e1:=frozen_of_row w1 g 1 _ _ hEa.ay;have Aq:fH (w1.setCell ⟨g,1,none⟩ (.int .u32 ((s.r-ky:Nat):Int))) g o cap ⟨s.k,s.v+ky,s.r-ky⟩:=⟨oL hEa.ay _,fU hEa.own hEa.ne _,hEa.ne⟩
  have ug:=ae (pU 2 g o cap ⟨s.k,s.v+ky,s.r-ky⟩ _ Aq Vz (by show 1+s.k+2≤_;exact hk) (by show 16777216≤(s.r-ky)*256^2;have:8192≤s.r-ky:=sf;omega));simp only at d1;go_wp2_with fail;refine ug.out.mono ?_;rintro e w2 ⟨rfl,o',dX,MK,ci,ho⟩;go_wp2_with fail;go_ret2;have dl:=QM.size;exact⟨rfl,o',dX,MK,(QM.setCell (p:=⟨g,1,none⟩) (.inl ag) _).trans ci ag,by rcases ho with h | h;exact .inl h;exact .inr (by simp at h;omega)⟩
theorem Fo:Rc.be (1+0) (0/4294967296)=[0]:=ak
def ML:Rc.St:=⟨0,0,4294967295⟩
theorem QN:ML.ok:=⟨⟨ak,ak⟩,ak⟩
def Ws(w:World)(e:Ending)(w':World):Prop:= ∃g o cap,e= .returned (.pointer (some ⟨g,0,none⟩))∧fH w' g o cap ML∧Below w.heap.size w w'∧w.heap.size≤g∧w.heap.size≤o
theorem Wt(w:World):Calls prog 151 #[] w (Ws w):=by
 go_enter func151,ntmps151;go_wp2_with fail;go_ret;refine⟨w.heap.size+1,w.heap.size,1,rfl,⟨?_,?_,aa⟩,(ar).alloc ag _,aa,Nat.le_refl _⟩;·have h:=heap_alloc_new (w.alloc (.cells #[.int .u8 0] 5)) (.cells #[.int .u32 0,.int .u32 4294967295,.slice (some ⟨w.heap.size,0,none⟩) 1 1] 265);have dl:(w.alloc (.cells #[.int .u8 0] 5)).heap.size=w.heap.size+1:=ag;rw[dl]at h;exact h
 ·refine World.ownsRow.alloc ?_ _;show World.ownsRow _ 0 _ 1 (.slice (some ⟨w.heap.size,0,none⟩) (1+0) 1) (1+0) ((Rc.be (1+0) (0/4294967296)).map B8);rw[Fo];exact World.ownsRow_lit (base:=0) (e:=5) (size:=1) w #[.int .u8 0] 1 (Nat.zero_le _) fF ak
namespace Rc
theorem St.oN(N:Nat)(s:St)(hf:s.fits)(hr:16777216≤s.r*256^N):(St.scale N s).ok:=by
 induction N generalizing s with
 | zero=>exact⟨hf,by show 16777216≤s.r;simpa using hr⟩
 | succ N ih=>
  rw[St.scale];by_cases h:s.r<16777216;·rw[if_pos h];refine ih _ (s.Lg hf h) ?_;show 16777216≤s.r*256*256^N;rw[Nat.pow_succ,Nat.mul_comm (256^N),←Nat.mul_assoc]at hr;exact hr
  ·rw[if_neg h];exact⟨hf,aa⟩
theorem St.Lm(N:Nat)(s:St):(St.scale N s).k≤s.k+N:=by
 induction N generalizing s with
 | zero=>exact Nat.le_refl _
 | succ N ih=>
  rw[St.scale];by_cases h:s.r<16777216;·rw[if_pos h];have:=ih s.up;have e:s.up.k=s.k+1:=rfl;omega
  ·rw[if_neg h];omega
def St.bit(s:St)(c:Nat)(one:Bool):St:=St.scale 2 (s.pick (fair c) one)
theorem St.aaa(s:St)(p:Nat)(one:Bool):(s.pick p one).k=s.k:=by unfold St.pick;cases one<;>rfl
def St.half(s:St)(one:Bool):St:=if one then⟨s.k,s.v+s.r/2,s.r/2⟩else⟨s.k,s.v,s.r/2⟩
theorem St.mq(s:St)(one:Bool)(h:s.ok):(s.half one).fits∧8388608≤(s.half one).r:=by
 obtain⟨⟨ud,Lh⟩,hr⟩:=h;unfold St.half St.fits;cases one;·simp only[Bool.false_eq_true,if_false];omega
 ·simp only[if_true];omega
def St.plain(s:St):Nat→Nat→St
 | _,0=>s
 | x,n+1=>St.scale 1 ((St.plain s (x/2) n).half (x%2==1))
theorem St.aab(s:St)(one:Bool):(s.half one).k=s.k:=by unfold St.half;cases one<;>rfl
theorem St.Fq(s:St)(h:s.ok)(n x:Nat):(s.plain x n).ok∧(s.plain x n).k≤s.k+n:=by
 induction n generalizing x with
 | zero=>exact⟨h,Nat.le_refl _⟩
 | succ n ih=>
  obtain⟨h1,h2⟩:=ih (x/2);obtain⟨hf,hr⟩:=(s.plain (x/2) n).mq (x%2==1) h1;refine⟨St.oN 1 _ hf aa,?_⟩;have:=St.Lm 1 ((s.plain (x/2) n).half (x%2==1));rw[St.aab]at this;show(St.scale 1 _).k≤_;omega
theorem St.Fr(s:St)(h:s.ok):s.v<256^(4+s.k):=by obtain⟨⟨h1,_⟩,h2⟩:=h;omega
end Rc
def MM(w:World)(g o:Nat)(x:Nat)(t:Rc.St)(e:Ending)(w':World):Prop:=e= .returned (.int .u32 (x:Nat))∧Dl w g o t w'
def many(n:Int):Nat:=(min (max n 0) 32).toNat
theorem Wu(x m j:Nat)(h:j<m):x%2^m/2^j%2=x/2^j%2:=by
 have e:2^m=2^j*2^(m-j):=by rw[←Nat.pow_add,show j+(m-j)=m by omega]
 rw[e,Nat.mod_mul_right_div_self];obtain⟨d,hd⟩: ∃d,m-j=d+1:=⟨m-j-1,aa⟩
 rw[hd,Nat.pow_succ,Nat.mod_mul_left_mod]
theorem QO(x j:Nat)(hx:x<2^32):(bits .and .u32 ((x:Int)/2^j) 1==1)=(x/2^j%2==1):=by have hle:x/2^j≤x:=Nat.div_le_self _ _;have e:(x:Int)/2^j=((x/2^j:Nat):Int):=ag;rw[e,show(1:Int)=((1:Nat):Int)from rfl,u32_and_nat _ _ aa aa,nat_mask1,Bool.eq_iff_iff];simp;omega
theorem masked(x t:Nat)(hx:x<2^32)(ht:t≤32):bits .and .u64 (x:Int) (IntKind.u64.wrap (IntKind.u64.wrap (2^t)-1))%4294967296=((x%2^t:Nat):Int):=by
 have h1:1≤2^t:=Nat.one_le_two_pow;have h2:2^t≤2^32:=Nat.pow_le_pow_right aa ht;have e:IntKind.u64.wrap (IntKind.u64.wrap (2^t)-1)=((2^t-1:Nat):Int):=by rw[show(2:Int)^t=((2^t:Nat):Int) by simp,IntKind.wrap_u64,IntKind.wrap_u64];omega
 have hle:x%2^t≤x:=Nat.mod_le _ _;rw[e,u64_and_nat _ _ aa aa,Nat.and_two_pow_sub_one_eq_mod];omega
theorem MO(g o cap:Nat)(s:Rc.St)(x:BitVec 32)(n:Int)(w:World)(hE:fH w g o cap s)(hs:s.ok)(hk:1+s.k+40≤140737488355328):
  Calls prog 292 #[.pointer (some ⟨g,0,none⟩),.int .u32 x.toNat,.int .i64 n] w
   (MM w g o (x.toNat%2^many n) (s.plain (x.toNat%2^many n) (many n))):=by
 go_enter func292,ntmps292;go_upto_region 3 with(fail)
 go_cut [2] (fun s2 wx=>w=wx∧s2= .int .i64 ((many n:Nat):Int));case first=>
  go_wp2_with fail
  all_goals
   go_meet;refine⟨rfl,congrArg (Value.int .i64) ?_⟩;unfold many;omega
 case rest=>
  obtain⟨rfl,rfl⟩:=hcut;have hm:many n≤32:=by unfold many;omega
  generalize many n=m at*;go_wp2_with fail;generalize hX:x.toNat%2^m=X at*;have HX:=ae hX;clear hX;go_loopw [7] (fun i wr=> ∃(t o' dX:Nat),t≤m∧i= .int .i64 ((m:Int)-1-(t:Int))∧fH wr g o' dX (s.plain (X/2^(m-t)) t)∧aw [g,o] w wr∧(o'=o∨w.heap.size≤o')) (fun i _=>(intOf i+1).toNat);case atStart=>exact⟨0,o,cap,aa,aE,hE,aw.refl _ _,.inl rfl⟩
  case round=>
   obtain⟨t,o',dX,ht,rfl,hT,ci,mU⟩:=hrel;obtain⟨aec,EM⟩:=s.Fq hs t (X/2^(m-t));by_cases aH:t<m
   ·obtain⟨j,hj⟩: ∃j:Nat,j=m-1-t:=⟨_,rfl⟩
    have Dj:(m:Int)-1-(t:Int)=(j:Int):=aa;have oO:s.plain (X/2^(m-(t+1))) (t+1)=Rc.St.scale 1 ((s.plain (X/2^(m-t)) t).half (x.toNat/2^j%2==1)):=(by have e1:m-(t+1)=j:=aa;have e2:X/2^j/2=X/2^(m-t):=(by rw[Nat.div_div_eq_div_mul,←Nat.pow_succ,show m-t=j.succ by omega]);have e3:X/2^j%2=x.toNat/2^j%2:=(by rw[←HX.out];exact Wu _ _ _ aa);rw[e1,Rc.St.plain,e2,e3]);have HN:=ae oO;generalize s.plain (X/2^(m-t)) t=p at*;have c1:=sx hT.ay;have f1:=frozen_of_row wr g 1 _ _ hT.ay;have MP:=QO x.toNat j x.isLt;have atv:j<32:=aa;generalize(x.toNat/2^j%2==1)=b at*;obtain⟨Wv,hhr⟩:=p.mq b aec;clear oO hE;rw[Dj];have HJ:=ae hj;have HJI:=ae Dj;clear hj Dj;have wm:(p.r:Int)/2=((p.r/2:Nat):Int):=aa;have sf:=aec.1.2;have akR:p.r/2<4294967296:=aa;generalize hrh:p.r/2=rh at*;have HRH:=ae hrh;clear hrh;have apJ:=ci.size;cases b with
    | false=>
     have hph:p.half false=⟨p.k,p.v,rh⟩:=(by rw[←HRH.out];rfl);rw[hph]at Wv hhr HN;have Aq:fH (wr.setCell ⟨g,1,none⟩ (.int .u32 ((rh:Nat):Int))) g o' dX ⟨p.k,p.v,rh⟩:=⟨oL hT.ay _,fU hT.own hT.ne _,hT.ne⟩
     have ug:=ae (pU 1 g o' dX ⟨p.k,p.v,rh⟩ _ Aq Wv (by show 1+p.k+1≤_;omega) CS);go_wp2_with fail;refine ug.out.mono ?_;rintro e w2 ⟨rfl,o2,uf,MK,fV,el⟩;go_wp2_with fail;go_roundw;case rel=>
      have hj:=HJ.out;refine⟨t+1,o2,uf,aa,congrArg (Value.int .i64) aa,by rw[HN.out];exact MK,(ci.setCell (p:=⟨g,1,none⟩) (.inl ag) _).trans fV ?_,?_⟩
      ·intro i hi;simp at hi;rcases hi with rfl | rfl
       ·exact .inl ag
       ·rcases mU with h | h;·exact .inl dD
        ·exact .inr h
      ·rcases el with h | h;·rw[h];exact mU
       ·exact .inr (by simp at h;omega)
     case measure=>have hj:=HJ.out;simp[intOf]<;>omega
    | true=>
     have hph:p.half true=⟨p.k,p.v+rh,rh⟩:=(by rw[←HRH.out];rfl);rw[hph]at Wv hhr HN;have hE0:fH (wr.setCell ⟨g,1,none⟩ (.int .u32 ((rh:Nat):Int))) g o' dX ⟨p.k,p.v,rh⟩:=⟨oL hT.ay _,fU hT.own hT.ne _,hT.ne⟩
     have QL:=ae (Li g o' dX ⟨p.k,p.v,rh⟩ rh _ hE0 akR (by show 1+p.k≤_;omega));go_wp2_with fail;refine QL.out.mono ?_;rintro e w1 ⟨rfl,Aq,QM⟩;have ug:=ae (pU 1 g o' dX ⟨p.k,p.v+rh,rh⟩ _ Aq Wv (by show 1+p.k+1≤_;omega) CS);go_wp2_with fail;refine ug.out.mono ?_;rintro e w2 ⟨rfl,o2,uf,MK,fV,el⟩;go_wp2_with fail;have hsa:=QM.size;have QP: ∀i∈[g,o'],i∈[g,o]∨w.heap.size≤i:=by
      intro i hi;simp at hi;rcases hi with rfl | rfl
      ·exact .inl ag
      ·rcases mU with h | h;·exact .inl dD
       ·exact .inr h
     go_roundw;case rel=>
      have hj:=HJ.out;refine⟨t+1,o2,uf,aa,congrArg (Value.int .i64) aa,by rw[HN.out];exact MK,((ci.setCell (p:=⟨g,1,none⟩) (.inl ag) _).trans QM QP).trans fV QP,?_⟩;rcases el with h | h;·rw[h];exact mU
      ·exact .inr (by simp at hsa;omega)
     case measure=>have hj:=HJ.out;simp[intOf]<;>omega
   ·have htm:t=m:=(by omega);subst htm;have hp0:X/2^(t-t)=X:=ag;rw[hp0]at hT;go_wp2_with fail;go_ret;exact⟨by rw[masked _ _ x.isLt hm,HX.out];rfl,o',dX,hT,ci,mU⟩
theorem QQ{e:Nat}(h:w.ownsRow 0 e 1 (.slice (some ⟨o,0,none⟩) n cap) n xs)(ho:w'.heap[o]? =w.heap[o]?):w'.ownsRow 0 e 1 (.slice (some ⟨o,0,none⟩) n cap) n xs:=by
 rcases h with⟨h1,h2 | ⟨g,dX,cur,h2,h3,h4,h5⟩⟩
 ·exact⟨h1,.inl h2⟩
 ·injection h2 with e1 e2 e3;injection e1 with e1;injection e1 with e1;subst e1 e3;exact⟨h1,.inr ⟨o,cap,cur,rfl,h3,ho.trans h4,h5⟩⟩
theorem fH.aA{s:Rc.St}(h:fH w g o cap s)(hg:w'.heap[g]? =w.heap[g]?)(ho:w'.heap[o]? =w.heap[o]?):fH w' g o cap s:=
 ⟨hg.trans h.ay,QQ h.own ho,h.ne⟩
theorem fH.lt{s:Rc.St}(h:fH w g o cap s):g<w.heap.size∧o<w.heap.size:=
 ⟨block_lt_of_cell (xO h.ay),(h.own.lt o rfl).2⟩
namespace Rd
structure St where
 pos:Nat
 c:Nat
 r:Nat
 out:Bool
def next(l:List UInt8)(s:St):St:=
 if h:s.pos<l.length then⟨s.pos+1,(256*s.c+(l[s.pos]).toNat)%4294967296,s.r*256,false⟩else⟨s.pos,0,0,true⟩
def scale(l:List UInt8):Nat→St→St
 | 0,s=>s
 | N+1,s=>if s.out=false∧s.r<16777216 then scale l N (next l s)else s
theorem sA{s:St}(h:s.pos<l.length):next l s=⟨s.pos+1,(256*s.c+(l[s.pos]).toNat)%4294967296,s.r*256,false⟩:=dif_pos h
theorem oP{s:St}(h: ¬s.pos<l.length):next l s=⟨s.pos,0,0,true⟩:=dif_neg h
theorem mr{s:St}(h:s.out=true):scale l N s=s:=by
 cases N with
 | zero=>rfl
 | succ N=>rw[scale,if_neg dD]
theorem uh{s:St}(h: ¬s.r<16777216):scale l N s=s:=by
 cases N with
 | zero=>rfl
 | succ N=>rw[scale,if_neg dD]
theorem rp{s:St}(h:s.out=false)(hr:s.r<16777216):scale l (N+1) s=scale l N (next l s):=by rw[scale,if_pos ⟨h,hr⟩]
def St.fits(l:List UInt8)(s:St):Prop:=s.pos≤l.length∧s.c<4294967296∧s.r<4294967296
def St.ok(l:List UInt8)(s:St):Prop:=s.fits l∧(s.out=false→16777216≤s.r)
theorem mu{s:St}(h:s.fits l)(hr:s.r<16777216):(next l s).fits l:=by
 obtain⟨h1,h2,h3⟩:=h;by_cases hp:s.pos<l.length;·rw[sA hp];exact⟨hp,Nat.mod_lt _ aa,by show s.r*256<_;omega⟩
 ·rw[oP hp];exact⟨h1,by show 0<_;omega,by show 0<_;omega⟩
theorem oN(l:List UInt8)(N:Nat)(s:St)(h:s.fits l)(hr:s.out=false→16777216≤s.r*256^N):(scale l N s).ok l:=by
 induction N generalizing s with
 | zero=>exact⟨h,fun ho=>by show 16777216≤s.r;have:=hr ho;simpa using this⟩
 | succ N ih=>
  by_cases ho:s.out=true;·rw[mr ho];exact⟨h,by simp[ho]⟩
  ·have mU:s.out=false:=(by simpa using ho);by_cases hb:s.r<16777216
   ·rw[rp mU hb];refine ih _ (mu h hb) ?_;by_cases hp:s.pos<l.length;·rw[sA hp];intro _;show 16777216≤s.r*256*256^N;have:=hr mU;rw[Nat.pow_succ,Nat.mul_comm (256^N),←Nat.mul_assoc]at this;exact this
    ·rw[oP hp];intro h;cases h
   ·rw[uh hb];exact⟨h,fun _=>aa⟩
def St.one(s:St)(p:Nat):Bool:=decide (s.r/2048*p≤s.c)
def St.pick(s:St)(p:Nat):St:=if s.r/2048*p≤s.c then⟨s.pos,s.c-s.r/2048*p,s.r-s.r/2048*p,false⟩else⟨s.pos,s.c,s.r/2048*p,false⟩
theorem St.kx{s:St}{p:Nat}(h:s.ok l)(ho:s.out=false)(h1:1≤p)(h2:p≤2047):(s.pick p).fits l∧8192≤(s.pick p).r:=by
 obtain⟨⟨hp,hc,hr⟩,hb⟩:=h;have hb:=hb ho;have k1:s.r/2048*1≤s.r/2048*p:=Nat.mul_le_mul_left _ h1;have k2:s.r/2048*p≤s.r/2048*2047:=Nat.mul_le_mul_left _ h2;unfold St.pick St.fits;by_cases ui:s.r/2048*p≤s.c;·rw[if_pos ui];simp only;omega
 ·rw[if_neg ui];simp only;omega
def St.bit(l:List UInt8)(s:St)(p:Nat):Bool×St:=if s.out then(false,s)else(s.one p,scale l 2 (s.pick p))
theorem St.aae{s:St}{p:Nat}(h:s.ok l)(h1:1≤p)(h2:p≤2047):(s.bit l p).2.ok l:=by
 unfold St.bit;by_cases ho:s.out=true;·rw[if_pos ho];exact h
 ·rw[if_neg ho];have mU:s.out=false:=by simpa using ho
  obtain⟨k1,k2⟩:=St.kx h mU h1 h2;exact oN l 2 _ k1 (fun _=>aa)
def St.half(s:St):St:=if s.r/2≤s.c then⟨s.pos,s.c-s.r/2,s.r/2,false⟩else⟨s.pos,s.c,s.r/2,false⟩
theorem St.mq{s:St}(h:s.ok l)(ho:s.out=false):s.half.fits l∧8388608≤s.half.r:=by
 obtain⟨⟨hp,hc,hr⟩,hb⟩:=h;have hb:=hb ho;unfold St.half St.fits;by_cases ui:s.r/2≤s.c;·rw[if_pos ui];simp only;omega
 ·rw[if_neg ui];simp only;omega
def St.rounds(l:List UInt8)(s:St):Nat→Nat×St
 | 0=>(0,s)
 | n+1=>if(s.rounds l n).2.out then s.rounds l n else
   (2*(s.rounds l n).1+(if(s.rounds l n).2.r/2≤(s.rounds l n).2.c then 1 else 0),scale l 1 (s.rounds l n).2.half)
theorem St.uj{s:St}(h:s.ok l)(n:Nat):(s.rounds l n).2.ok l∧(s.rounds l n).1<2^n:=by
 induction n with
 | zero=>exact⟨h,by show 0<1;omega⟩
 | succ n ih=>
  obtain⟨h1,h2⟩:=ih;rw[St.rounds];by_cases ho:(s.rounds l n).2.out=true;·rw[if_pos ho];exact⟨h1,by rw[Nat.pow_succ];omega⟩
  ·rw[if_neg ho];have mU:(s.rounds l n).2.out=false:=(by simpa using ho);obtain⟨k1,k2⟩:=St.mq h1 mU;refine⟨oN l 1 _ k1 (fun _=>aa),?_⟩;show 2*(s.rounds l n).1+_<_;rw[Nat.pow_succ];split<;>omega
theorem St.II{s:St}{m:Nat}(hnm:n≤m)(h:(s.rounds l n).2.out=true):s.rounds l m=s.rounds l n:=by
 induction m with
 | zero=>
  obtain rfl:n=0:=aa;rfl
 | succ m ih=>
  rcases Nat.lt_or_ge m n with h1 | h1;·obtain rfl:n=m+1:=(by omega);rfl
  ·have:=ih h1;rw[St.rounds,this,if_pos h]
def St.plain(l:List UInt8)(s:St)(n:Nat):Nat×St:=if(s.rounds l n).2.out then(0,(s.rounds l n).2)else s.rounds l n
def St.done(l:List UInt8)(s:St):Bool:= !s.out&&(s.pos==l.length&&s.c==0)
end Rd
structure dA(w:World)(g o cap:Nat)(l:List UInt8)(x y pos:Nat)(out:Bool):Prop where
 ay:w.heap[g]? =some (.cells #[.int .u32 (x:Nat),.int .u32 (y:Nat),.slice (some ⟨o,0,none⟩) l.length cap,.int .i64 (pos:Nat),.bool out] 331 (0,0))
 own:Bytes w (some ⟨o,0,none⟩) l
 ne:g≠o
 lt:o<w.heap.size
theorem P9(h:w.heap[g]? =some (.cells #[a,b,c,d,e] t fr)):w.cell? ⟨g,0,none⟩=some a:=ox
theorem c51(h:w.heap[g]? =some (.cells #[a,b,c,d,e] t fr)):w.cell? ⟨g,1,none⟩=some b:=ox
theorem c52(h:w.heap[g]? =some (.cells #[a,b,c,d,e] t fr)):w.cell? ⟨g,2,none⟩=some c:=ox
theorem c53(h:w.heap[g]? =some (.cells #[a,b,c,d,e] t fr)):w.cell? ⟨g,3,none⟩=some d:=ox
theorem c54(h:w.heap[g]? =some (.cells #[a,b,c,d,e] t fr)):w.cell? ⟨g,4,none⟩=some e:=ox
theorem ZL(h:w.heap[g]? =some (.cells #[a,b,c,d,e] t (0,0)))(u:Value):(w.setCell ⟨g,0,none⟩ u).heap[g]? =some (.cells #[u,b,c,d,e] t (0,0)):=by rw[heap_setCell_same w g 0 _ t u h];rfl
theorem s51(h:w.heap[g]? =some (.cells #[a,b,c,d,e] t (0,0)))(u:Value):(w.setCell ⟨g,1,none⟩ u).heap[g]? =some (.cells #[a,u,c,d,e] t (0,0)):=by rw[heap_setCell_same w g 1 _ t u h];rfl
theorem s53(h:w.heap[g]? =some (.cells #[a,b,c,d,e] t (0,0)))(u:Value):(w.setCell ⟨g,3,none⟩ u).heap[g]? =some (.cells #[a,b,c,u,e] t (0,0)):=by rw[heap_setCell_same w g 3 _ t u h];rfl
theorem s54(h:w.heap[g]? =some (.cells #[a,b,c,d,e] t (0,0)))(u:Value):(w.setCell ⟨g,4,none⟩ u).heap[g]? =some (.cells #[a,b,c,d,u] t (0,0)):=by rw[heap_setCell_same w g 4 _ t u h];rfl
theorem d6(h:Bytes w (some ⟨o,0,none⟩) l)(dH:p.block≠o)(u:Value):Bytes (w.setCell p u) (some ⟨o,0,none⟩) l:=
 h.aA ag fun q hq _=>by
  have hq':q.block=o:=by simpa using hq.symm
  exact World.cell?_setCell_far w p q u (by rw[hq'];exact dH)
theorem dA.cell(h:dA w g o cap l x y pos out)(hp:pos<l.length):w.cell? ⟨o,pos,none⟩=some (.int .u8 (l[pos].toNat:Nat)):=by obtain⟨b,off,e,_,hc⟩:=h.own.addr aa;injection e with e;injection e with e1 e2;subst e1;subst e2;have:=hc pos hp;rw[Nat.zero_add]at this;exact this
theorem dA.aA(h:dA w g o cap l x y pos out)(hs:w.heap.size≤w'.heap.size)(hg:w'.heap[g]? =w.heap[g]?)(ho:w'.heap[o]? =w.heap[o]?):dA w' g o cap l x y pos out:=
 ⟨hg.trans h.ay,h.own.aA hs fun q hq _=>by
  have hq':q.block=o:=by simpa using hq.symm
  unfold World.cell?;rw[hq',ho],h.ne,Nat.lt_of_lt_of_le h.lt hs⟩
theorem dA.glt(h:dA w g o cap l x y pos out):g<w.heap.size:=block_lt_of_cell (P9 h.ay)
theorem dA.below(h:dA w g o cap l x y pos out)(hb:Below w.heap.size w w'):dA w' g o cap l x y pos out:=
 h.aA hb.size (hb.block g h.glt) (hb.block o h.lt)
def QR(w:World)(g o cap:Nat)(l:List UInt8)(v:Value)(x y pos:Nat)(out:Bool)(e:Ending)(w':World):Prop:=
 e= .returned v∧dA w' g o cap l x y pos out∧aw [g] w w'
theorem a8(w:World):Below w.heap.size w w.drew:=(Below.refl _ _).drew
theorem MQ(g o cap:Nat)(l:List UInt8)(x y pos:Nat)(w:World)(hE:dA w g o cap l x y pos false)(hp:pos<l.length)(hl:l.length≤140737488355328):
  Calls prog 302 #[.pointer (some ⟨g,0,none⟩)] w (QR w g o cap l (B8 l[pos]) x y (pos+1) false):=by
 have k2:=c52 hE.ay;have k3:=c53 hE.ay;have dH:((pos:Int)==(l.length:Int))=false:=beq_eq_false_iff_ne.2 aa;have hpz:(pos:Int)<(l.length:Int):=aa;have hc:=hE.cell hp;generalize(l[pos])=IJ at*;generalize hL:l.length=L at*;have HL:=ae hL;clear hL;go_enter func302,ntmps302;go_wp2_with fail;refine wp_region_held_drew (S:=fun w'=>w'.cell? ⟨g,2,none⟩=some (.slice (some ⟨o,0,none⟩) L cap)∧w'.cell? ⟨g,3,none⟩=some (.int .i64 (pos:Nat))) ai ⟨k2,k3⟩ (fun hS=> ?_);refine af 0 hS (h:=af 1 hS (h:=af 2 hS (h:=aL 3 hS (h:=af 4 hS (h:=af 5 hS (h:=af 6 hS (h:=aL 7 hS (h:=af 8 hS (h:=af 9 hS (h:= ?_))))))))));refine wpAnyH_done ai ?_ _;have Dm:=hE.below (a8 w);have QS:aw [g] w w.drew:=(aw.refl _ _).drew;have BN:w.drew.cell? ⟨o,pos,none⟩=some (B8 IJ):=hc;clear hE k2 k3 hc;generalize w.drew=wd at*;have k2:=c52 Dm.ay;have k3:=c53 Dm.ay;have f3:=frozen_of_row wd g 3 _ _ Dm.ay;rw[HL.out]at k2;have Aq:dA (wd.setCell ⟨g,3,none⟩ (.int .i64 ((pos+1:Nat):Int))) g o cap l x y (pos+1) false:=⟨s53 Dm.ay _,d6 Dm.own Dm.ne _,Dm.ne,by simpa using Dm.lt⟩
 have ci:aw [g] w (wd.setCell ⟨g,3,none⟩ (.int .i64 ((pos+1:Nat):Int))):=QS.setCell (.inl ag) _;have kc:(wd.setCell ⟨g,3,none⟩ (.int .i64 ((pos+1:Nat):Int))).cell? ⟨o,pos,none⟩=some (B8 IJ):=(World.cell?_setCell_far wd _ _ _ Dm.ne).trans BN;have q2:=c52 Aq.ay;have q3:=c53 Aq.ay;have rq:((pos+1:Nat):Int)=(pos:Int)+1:=aa;rw[rq]at ci kc q2 q3;rw[HL.out]at q2;have MK:dA (wd.setCell ⟨g,3,none⟩ (.int .i64 ((pos:Int)+1))) g o cap l x y (pos+1) false:=by rw[←rq];exact Aq
 clear Aq rq;generalize ZM:wd.setCell ⟨g,3,none⟩ (.int .i64 ((pos:Int)+1))=w1 at*;have oQ:=ae ZM;clear ZM;go_upto_region 5 with(fail)
 rw[oQ.out];clear k2 k3 f3 BN QS Dm oQ;have hwp:IntKind.i64.wrap (pos:Int)=(pos:Int):=IntWalk.i64_in _ aa;refine wp_region_held_drew (S:=fun w'=>w'.cell? ⟨g,2,none⟩=some (.slice (some ⟨o,0,none⟩) L cap)∧w'.cell? ⟨g,3,none⟩=some (.int .i64 ((pos:Int)+1))∧w'.cell? ⟨o,pos,none⟩=some (B8 IJ)) ai ⟨q2,q3,kc⟩ (fun hS=> ?_);refine af 0 hS (h:=af 1 hS (h:=af 2 hS (h:=aL 3 hS (h:=af 4 hS (h:=af 5 hS (h:=af 6 hS (h:=aL 7 hS (h:=af 8 hS (h:=af 9 hS (h:=aL 10 hS (h:=af 11 hS (h:= ?_))))))))))));refine wpAnyH_done ai ?_ _;go_wp2_with fail;go_ret;exact⟨rfl,MK.below (a8 _),ci.drew⟩
theorem QT(g o cap:Nat)(l:List UInt8)(x y:Nat)(w:World)(hE:dA w g o cap l x y l.length false):
  Calls prog 302 #[.pointer (some ⟨g,0,none⟩)] w (QR w g o cap l (.int .u8 0) x y l.length true):=by
 have k2:=c52 hE.ay;have k3:=c53 hE.ay;have Dm:=hE.below (a8 w);have QS:aw [g] w w.drew:=(aw.refl _ _).drew;have f4:=frozen_of_row w.drew g 4 _ _ Dm.ay;have k4:=c54 Dm.ay;have Aq:dA (w.drew.setCell ⟨g,4,none⟩ (.bool true)) g o cap l x y l.length true:=⟨s54 Dm.ay _,d6 Dm.own Dm.ne _,Dm.ne,by simpa using Dm.lt⟩
 have ci:aw [g] w (w.drew.setCell ⟨g,4,none⟩ (.bool true)):=QS.setCell (.inl ag) _;generalize hL:l.length=L at*;have HL:=ae hL;clear hL Dm QS;go_enter func302,ntmps302;go_wp2_with fail;refine wp_region_held_drew (S:=fun w'=>w'.cell? ⟨g,2,none⟩=some (.slice (some ⟨o,0,none⟩) L cap)∧w'.cell? ⟨g,3,none⟩=some (.int .i64 (L:Nat))) ai ⟨k2,k3⟩ (fun hS=> ?_);refine af 0 hS (h:=af 1 hS (h:=af 2 hS (h:=aL 3 hS (h:=af 4 hS (h:=af 5 hS (h:=af 6 hS (h:=aL 7 hS (h:=af 8 hS (h:=af 9 hS (h:= ?_))))))))));refine wpAnyH_done ai ?_ _;clear hE k2 k3;generalize w.drew=wd at*;go_wp2_with fail;go_ret;exact⟨rfl,Aq,ci⟩
def iT(w:World)(g o cap:Nat)(l:List UInt8)(s:Rd.St):Prop:= ∃x y:Nat,(s.out=false→x=s.c∧y=s.r)∧dA w g o cap l x y s.pos s.out
theorem aw.Dn{a b:World}(h:aw X a.drew b):aw X a b:=⟨h.os,h.tape,h.output,h.size,h.block⟩
def Ln(w:World)(g o cap:Nat)(l:List UInt8)(s:Rd.St)(w':World):Prop:=iT w' g o cap l s∧aw [g] w w'
theorem aah(c b:Nat)(hb:b<256):c*256%4294967296 ||| b=(256*c+b)%4294967296:=by
 have e1:c*256%4294967296=(c%16777216) <<< 8:=by rw[Nat.shiftLeft_eq];omega
 rw[e1,←Nat.shiftLeft_add_eq_or_of_lt (by simpa using hb),Nat.shiftLeft_eq];omega
theorem pV(c b:Nat)(hb:b<256):bits .or .u32 (IntKind.u32.wrap ((c:Int)*256)) (IntKind.u32.wrap (b:Int))=(((256*c+b)%4294967296:Nat):Int):=by have e1:IntKind.u32.wrap ((c:Int)*256)=((c*256%4294967296:Nat):Int):=eE;have e2:IntKind.u32.wrap (b:Int)=(b:Int):=eE;rw[e1,e2,u32_or_nat _ _ (Nat.mod_lt _ aa) aa,aah _ _ hb]
theorem m6(N g o cap:Nat)(l:List UInt8)(s:Rd.St)(w:World)(hE:iT w g o cap l s)(hf:s.fits l)(hl:l.length≤140737488355328)(hr:s.out=false→16777216≤s.r*256^N):
  Calls prog 300 #[.pointer (some ⟨g,0,none⟩)] w (Did (Ln w g o cap l (Rd.scale l N s))):=by
 go_enter func300,ntmps300;go_wp2_with fail;go_loopg [16] N (fun gk s16 wr=> ∃(t:Rd.St),iT wr g o cap l t∧t.fits l∧Hid (t.out=false→16777216≤t.r*256^gk)∧Hid (Rd.scale l N s=Rd.scale l gk t)∧aw [g] w wr);case atStart=>exact⟨s,hE,hf,hr,rfl,aw.refl _ _⟩
 case round=>
  obtain⟨t,⟨x,y,Ar,hT⟩,xP,ZJ,QJ,ci⟩:=hrel;clear hE hf hr;obtain⟨pos,c,r,out⟩:=t;have k0:=P9 hT.ay;have k1:=c51 hT.ay;have k2:=c52 hT.ay;have k3:=c53 hT.ay;have k4:=c54 hT.ay;have f0:=frozen_of_row wr g 0 _ _ hT.ay;have f1:=frozen_of_row wr g 1 _ _ hT.ay;simp only at k0 k1 k2 k3 k4;cases out with
  | true=>
   have bQ:Rd.scale l gk ⟨pos,c,r,true⟩=⟨pos,c,r,true⟩:=Rd.mr rfl;have gl:=ae (QJ.out.trans bQ);clear bQ Ar ZJ QJ xP;by_cases hy:y<16777216;·have hy':(y:Int)<16777216:=(by omega);go_wp2_with fail;go_end0;exact⟨rfl,by rw[gl.out];exact⟨x,y,ag,hT⟩,ci⟩
   ·have hy': ¬(y:Int)<16777216:=(by omega);go_wp2_with fail;go_end0;exact⟨rfl,by rw[gl.out];exact⟨x,y,ag,hT⟩,ci⟩
  | false=>
   obtain rfl:c=x:=(Ar rfl).1.symm;obtain rfl:r=y:=(Ar rfl).2.symm;simp only at hT k0 k1 xP;by_cases hy:r<16777216
   ·have hy':(r:Int)<16777216:=(by omega);cases gk with
    | zero=>have:=ZJ.out rfl;simp at this;omega
    | succ gk=>
     have BO:=Rd.rp (l:=l) (N:=gk) (s:=⟨pos,c,r,false⟩) rfl hy;have gl:=ae (QJ.out.trans BO);clear BO;have sh:dA (wr.setCell ⟨g,1,none⟩ (.int .u32 ((r*256:Nat):Int))) g o cap l c (r*256) pos false:=⟨s51 hT.ay _,d6 hT.own hT.ne _,hT.ne,by simpa using hT.lt⟩
     have jc:aw [g] w (wr.setCell ⟨g,1,none⟩ (.int .u32 ((r*256:Nat):Int))):=ci.setCell (.inl ag) _;have hmul:((r*256:Nat):Int)=(r:Int)*256:=aa;rw[hmul]at jc;have m7:dA (wr.setCell ⟨g,1,none⟩ (.int .u32 ((r:Int)*256))) g o cap l c (r*256) pos false:=(by rw[←hmul];exact sh);clear sh;generalize ZM:wr.setCell ⟨g,1,none⟩ (.int .u32 ((r:Int)*256))=w1 at*;have oQ:=ae ZM;have mv:16777216≤r*256*256^gk:=(by have:=ZJ.out rfl;rw[Nat.pow_succ,Nat.mul_comm (256^gk),←Nat.mul_assoc]at this;exact this);have mg:=ae mv;clear ZM hmul Ar ZJ QJ mv;go_upto_region 3 with(fail)
     rw[oQ.out];have k0d:w1.drew.cell? ⟨g,0,none⟩=some (.int .u32 (c:Nat)):=P9 m7.ay;clear k0 k1 k2 k3 k4 f0 f1 hT oQ ci;by_cases hp:pos<l.length
     ·have lB:=ae (MQ g o cap l c (r*256) pos w1.drew (m7.below (a8 _)) hp hl);refine wp_region_held_drew (S:=fun _=>True) ai trivial (fun hS=> ?_);refine af 0 hS (h:=af 1 hS (h:=af 2 hS (h:=af 3 hS (h:=af 6 hS (h:= ?_)))));refine wpAnyH_ready (rs:=[4,7]) ai ag ?_;refine(AllReadyH.cons rfl (fun K hK=> ?_) (AllReadyH.cons rfl (fun K hK=> ?_) AllReadyH.nil))
      ·skip;go_simp;refine hK.out _ _ trivial (fun _=> ?_);clear hK K;refine af 5 trivial (h:= ?_);refine aC 7 (fun K hK=> ?_);go_simp;refine lB.out.mono ?_;rintro e w3 ⟨rfl,lh,dK⟩;have hj:=P9 lh.ay;have fj:=frozen_of_row w3 g 0 _ _ lh.ay;go_wp2_with fail;refine hK.out _ _ trivial (fun _=> ?_);clear hK K;refine af 8 trivial (h:=af 9 trivial (h:=af 10 trivial (h:=af 11 trivial (h:= ?_))));refine aC 12 (fun K hK=> ?_);go_simp;refine hK.out _ _ trivial (fun _=> ?_);clear hK K;refine wpAnyH_done ai ?_ _;have gZ:(l[pos]).toNat<256:=(l[pos]).toNat_lt;rw[pV c (l[pos]).toNat gZ];have ot:=Rd.mu xP hy;have mv:=Rd.sA (l:=l) (s:=⟨pos,c,r,false⟩) hp;rw[mv]at ot gl;simp only at ot gl;generalize(256*c+(l[pos]).toNat)%4294967296=C at*;have Ww:dA (w3.setCell ⟨g,0,none⟩ (.int .u32 (C:Nat))) g o cap l C (r*256) (pos+1) false:=⟨ZL lh.ay _,d6 lh.own lh.ne _,lh.ne,by simpa using lh.lt⟩
       have jd:aw [g] w (w3.setCell ⟨g,0,none⟩ (.int .u32 (C:Nat))):=(jc.trans (dK.Dn) ag).setCell (.inl ag) _;clear mv lB lh dK hj fj k0d m7 jc;go_wp2_with fail;go_roundg gk;case measure=>omega
       case rel=>exact⟨⟨pos+1,C,r*256,false⟩,⟨C,r*256,fun _=>⟨rfl,rfl⟩,Ww⟩,ot,fun _=>mg.out,gl.out,jd⟩
      ·skip;go_simp;refine lB.out.mono ?_;rintro e w3 ⟨rfl,lh,dK⟩;have hj:=P9 lh.ay;have fj:=frozen_of_row w3 g 0 _ _ lh.ay;go_wp2_with fail;refine hK.out _ _ trivial (fun _=> ?_);clear hK K;refine af 8 trivial (h:= ?_);refine aC 4 (fun K hK=> ?_);go_simp;refine hK.out _ _ trivial (fun _=> ?_);clear hK K;refine af 5 trivial (h:=af 9 trivial (h:=af 10 trivial (h:=af 11 trivial (h:= ?_))));refine aC 12 (fun K hK=> ?_);go_simp;refine hK.out _ _ trivial (fun _=> ?_);clear hK K;refine wpAnyH_done ai ?_ _;have gZ:(l[pos]).toNat<256:=(l[pos]).toNat_lt;rw[pV c (l[pos]).toNat gZ];have ot:=Rd.mu xP hy;have mv:=Rd.sA (l:=l) (s:=⟨pos,c,r,false⟩) hp;rw[mv]at ot gl;simp only at ot gl;generalize(256*c+(l[pos]).toNat)%4294967296=C at*;have Ww:dA (w3.setCell ⟨g,0,none⟩ (.int .u32 (C:Nat))) g o cap l C (r*256) (pos+1) false:=⟨ZL lh.ay _,d6 lh.own lh.ne _,lh.ne,by simpa using lh.lt⟩
       have jd:aw [g] w (w3.setCell ⟨g,0,none⟩ (.int .u32 (C:Nat))):=(jc.trans (dK.Dn) ag).setCell (.inl ag) _;clear mv lB lh dK hj fj k0d m7 jc;go_wp2_with fail;go_roundg gk;case measure=>omega
       case rel=>exact⟨⟨pos+1,C,r*256,false⟩,⟨C,r*256,fun _=>⟨rfl,rfl⟩,Ww⟩,ot,fun _=>mg.out,gl.out,jd⟩
     ·obtain rfl:l.length=pos:=(by have:pos≤l.length:=xP.1;omega);have lB:=ae (QT g o cap l c (r*256) w1.drew (m7.below (a8 _)));refine wp_region_held_drew (S:=fun _=>True) ai trivial (fun hS=> ?_);refine af 0 hS (h:=af 1 hS (h:=af 2 hS (h:=af 3 hS (h:=af 6 hS (h:= ?_)))));refine wpAnyH_ready (rs:=[4,7]) ai ag ?_;refine(AllReadyH.cons rfl (fun K hK=> ?_) (AllReadyH.cons rfl (fun K hK=> ?_) AllReadyH.nil))
      ·skip;go_simp;refine hK.out _ _ trivial (fun _=> ?_);clear hK K;refine af 5 trivial (h:= ?_);refine aC 7 (fun K hK=> ?_);go_simp;refine lB.out.mono ?_;rintro e w3 ⟨rfl,lh,dK⟩;have hj:=P9 lh.ay;have fj:=frozen_of_row w3 g 0 _ _ lh.ay;go_wp2_with fail;refine hK.out _ _ trivial (fun _=> ?_);clear hK K;refine af 8 trivial (h:=af 9 trivial (h:=af 10 trivial (h:=af 11 trivial (h:= ?_))));refine aC 12 (fun K hK=> ?_);go_simp;refine hK.out _ _ trivial (fun _=> ?_);clear hK K;refine wpAnyH_done ai ?_ _;have h0:bits .or .u32 (IntKind.u32.wrap ((c:Int)*256)) (IntKind.u32.wrap 0)=(((256*c+0)%4294967296:Nat):Int):=pV c 0 aa;rw[h0];have ot:=Rd.mu xP hy;have mv:=Rd.oP (l:=l) (s:=⟨l.length,c,r,false⟩) hp;rw[mv]at ot gl;simp only at ot gl;generalize(256*c+0)%4294967296=C at*;have Ww:dA (w3.setCell ⟨g,0,none⟩ (.int .u32 (C:Nat))) g o cap l C (r*256) l.length true:=⟨ZL lh.ay _,d6 lh.own lh.ne _,lh.ne,by simpa using lh.lt⟩
       have jd:aw [g] w (w3.setCell ⟨g,0,none⟩ (.int .u32 (C:Nat))):=(jc.trans (dK.Dn) ag).setCell (.inl ag) _;clear mv lB lh dK hj fj k0d m7 jc h0;go_wp2_with fail;go_roundg gk;case measure=>omega
       case rel=>exact⟨⟨l.length,0,0,true⟩,⟨C,r*256,(fun h=>iR),Ww⟩,ot,(fun h=>iR),gl.out,jd⟩
      ·skip;go_simp;refine lB.out.mono ?_;rintro e w3 ⟨rfl,lh,dK⟩;have hj:=P9 lh.ay;have fj:=frozen_of_row w3 g 0 _ _ lh.ay;go_wp2_with fail;refine hK.out _ _ trivial (fun _=> ?_);clear hK K;refine af 8 trivial (h:= ?_);refine aC 4 (fun K hK=> ?_);go_simp;refine hK.out _ _ trivial (fun _=> ?_);clear hK K;refine af 5 trivial (h:=af 9 trivial (h:=af 10 trivial (h:=af 11 trivial (h:= ?_))));refine aC 12 (fun K hK=> ?_);go_simp;refine hK.out _ _ trivial (fun _=> ?_);clear hK K;refine wpAnyH_done ai ?_ _;have h0:bits .or .u32 (IntKind.u32.wrap ((c:Int)*256)) (IntKind.u32.wrap 0)=(((256*c+0)%4294967296:Nat):Int):=pV c 0 aa;rw[h0];have ot:=Rd.mu xP hy;have mv:=Rd.oP (l:=l) (s:=⟨l.length,c,r,false⟩) hp;rw[mv]at ot gl;simp only at ot gl;generalize(256*c+0)%4294967296=C at*;have Ww:dA (w3.setCell ⟨g,0,none⟩ (.int .u32 (C:Nat))) g o cap l C (r*256) l.length true:=⟨ZL lh.ay _,d6 lh.own lh.ne _,lh.ne,by simpa using lh.lt⟩
       have jd:aw [g] w (w3.setCell ⟨g,0,none⟩ (.int .u32 (C:Nat))):=(jc.trans (dK.Dn) ag).setCell (.inl ag) _;clear mv lB lh dK hj fj k0d m7 jc h0;go_wp2_with fail;go_roundg gk;case measure=>omega
       case rel=>exact⟨⟨l.length,0,0,true⟩,⟨C,r*256,(fun h=>iR),Ww⟩,ot,(fun h=>iR),gl.out,jd⟩
   ·have hy': ¬(r:Int)<16777216:=(by omega);have bQ:Rd.scale l gk ⟨pos,c,r,false⟩=⟨pos,c,r,false⟩:=Rd.uh hy;have gl:=ae (QJ.out.trans bQ);clear bQ Ar ZJ QJ hy xP;go_wp2_with fail;go_end0;exact⟨rfl,by rw[gl.out];exact⟨c,r,fun _=>⟨rfl,rfl⟩,hT⟩,ci⟩
end Go.Proofs.YtfcaoggfnkhfiaaGreatDoor
