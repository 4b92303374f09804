import Derived.Test.YtgfpocdiojifoaaGreatDoorZ01
import Derived.BigRegion
import Derived.Deep.RegionLaw
import Derived.Deep.LoopGhost
namespace Go.Proofs.YtgfpocdiojifoaaGreatDoor
set_option maxRecDepth 100000
set_option maxHeartbeats 8000000
open Go.RowKit
namespace Rc
def be:Nat→Nat→List UInt8
 | 0,_=>[]
 | n+1,v=>be n (v/256)++[UInt8.ofNat (v%256)]
theorem dJ(n v:Nat):(be n v).length=n:=by
 induction n generalizing v with
 | zero=>rfl
 | succ n ih=>simp[be,ih]
theorem VI(n v:Nat):be n (v%256^n)=be n v:=by
 induction n generalizing v with
 | zero=>rfl
 | succ n ih=>
  simp only[be]
  have h1:v%256^(n+1)/256=v/256%256^n:=by
   rw[Nat.pow_succ,Nat.mul_comm,Nat.mod_mul_right_div_self]
  have h2:v%256^(n+1)%256=v%256:=by
   rw[Nat.pow_succ,Nat.mod_mul_left_mod]
  rw[h1,h2,ih]
theorem VJ(m n v:Nat):be (m+n) v=be m (v/256^n)++be n v:=by
 induction n generalizing v with
 | zero=>simp[be]
 | succ n ih=>
  rw[←Nat.add_assoc]
  simp only[be]
  rw[ih,←List.append_assoc]
  congr 2
  rw[Nat.div_div_eq_div_mul,Nat.pow_succ,Nat.mul_comm]
theorem Qx(n:Nat):be n 0=List.replicate n 0:=by
 induction n with
 | zero=>rfl
 | succ n ih=>simp only[be];rw[Nat.zero_div,ih,List.replicate_succ',Nat.zero_mod];rfl
theorem aea(n v i:Nat)(h:i<n):(be n v)[i]'(by rw[dJ];exact h)=UInt8.ofNat (v/256^(n-1-i)%256):=by
 induction n generalizing v with
 | zero=>omega
 | succ n ih=>
  simp only[be]
  by_cases hi:i<n
  ·rw[List.getElem_append_left (by rw[dJ];exact hi),ih _ hi,Nat.div_div_eq_div_mul]
   congr 3
   rw[show n+1-1-i=(n-1-i)+1 by omega,Nat.pow_succ,Nat.mul_comm]
  ·obtain rfl:i=n:=by omega
   rw[List.getElem_append_right (by rw[dJ];omega)]
   simp[dJ]
structure St where
 k:Nat
 v:Nat
 r:Nat
def St.fits(s:St):Prop:=s.v+s.r≤256^(4+s.k)∧s.r<4294967296
def St.ok(s:St):Prop:=s.fits∧16777216≤s.r
def St.up(s:St):St:=⟨s.k+1,s.v*256,s.r*256⟩
def St.scale:Nat→St→St
 | 0,s=>s
 | n+1,s=>if s.r<16777216 then St.scale n s.up else s
theorem St.Qy(s:St)(h:s.fits)(hr:s.r<16777216):s.up.fits:=by
 refine⟨?_,?_⟩
 ·show s.v*256+s.r*256≤256^(4+(s.k+1))
  rw[←Nat.add_assoc 4,Nat.pow_succ,←Nat.add_mul]
  exact Nat.mul_le_mul_right _ h.1
 ·show s.r*256<4294967296
  omega
def fair(c:Nat):Nat:=if c<1∨2048≤c then 1024 else c
theorem kX(c:Nat):1≤fair c∧fair c≤2047:=by unfold fair;split<;>omega
def next(p:Nat)(one:Bool):Nat:=if one then p-p/32 else p+(2048-p)/32
def St.pick(s:St)(p:Nat)(one:Bool):St:=if one then⟨s.k,s.v+s.r/2048*p,s.r-s.r/2048*p⟩else⟨s.k,s.v,s.r/2048*p⟩
theorem St.kF(s:St)(p:Nat)(one:Bool)(h:s.ok)(h1:1≤p)(h2:p≤2047):(s.pick p one).fits∧8192≤(s.pick p one).r:=by
 have hb:s.r/2048*p≤s.r/2048*2047:=Nat.mul_le_mul_left _ h2
 have hb1:s.r/2048*1≤s.r/2048*p:=Nat.mul_le_mul_left _ h1
 obtain⟨⟨hf1,hf2⟩,hr⟩:=h
 unfold St.pick St.fits
 cases one
 ·simp only[Bool.false_eq_true,if_false];omega
 ·simp only[if_true];omega
def rolled(m t V:Nat):List UInt8:=be (m-t) (V/256^t)++List.replicate t 0
theorem JF(m V:Nat):rolled m 0 V=be m V:=by simp[rolled]
theorem wX(m t V:Nat)(h:t<m):rolled m t V=be (m-(t+1)) (V/256^(t+1))++(UInt8.ofNat (V/256^t%256)::List.replicate t 0):=by
 unfold rolled
 obtain⟨j,hj⟩: ∃j,m-t=j+1:=⟨m-t-1,by omega⟩
 rw[hj,show m-(t+1)=j by omega,be,Nat.div_div_eq_div_mul,Nat.pow_succ,List.append_assoc];rfl
theorem Nq(m t V:Nat)(h:t<m):(rolled m t V)[m-1-t]? =some (UInt8.ofNat (V/256^t%256)):=by
 rw[wX m t V h,List.getElem?_append_right (by rw[dJ];omega),dJ,show m-1-t-(m-(t+1))=0 by omega];rfl
theorem BI(m t V:Nat)(h:t<m)(x:UInt8):(rolled m t V).set (m-1-t) x=be (m-(t+1)) (V/256^(t+1))++(x::List.replicate t 0):=by
 rw[wX m t V h,List.set_append_right _ _ (by rw[dJ];omega),dJ,show m-1-t-(m-(t+1))=0 by omega];rfl
theorem JG(m t V:Nat)(h:t<m):(rolled m t V).set (m-1-t) 0=rolled m (t+1) V:=by
 rw[BI m t V h];unfold rolled;rw[List.replicate_succ]
theorem VK(t V:Nat)(h:V%256^t=256^t-1)(h2:V/256^t%256=255):V%256^(t+1)=256^(t+1)-1:=by
 have hp:0<256^t:=Nat.pos_of_ne_zero (by simp)
 rw[Nat.pow_succ,Nat.mod_mul,h,h2];omega
theorem succ_div(t V:Nat)(h:V%256^t=256^t-1):V+1=(V/256^t+1)*256^t:=by
 have hp:0<256^t:=Nat.pos_of_ne_zero (by simp)
 have:=Nat.div_add_mod V (256^t)
 rw[Nat.add_mul,Nat.mul_comm (V/256^t)];omega
theorem JH(m t V:Nat)(h:t<m)(hv:V%256^t=256^t-1)(h2:V/256^t%256≠255):
  (rolled m t V).set (m-1-t) (UInt8.ofNat (V/256^t%256)+1)=be m (V+1):=by
 have hp:0<256^t:=Nat.pos_of_ne_zero (by simp)
 rw[BI m t V h]
 have e1:be m (V+1)=be (m-t) (V/256^t+1)++List.replicate t 0:=by
  conv=>lhs;rw[show m=(m-t)+t by omega]
  rw[VJ,succ_div t V hv,Nat.mul_div_cancel _ hp]
  congr 1
  rw[←VI,Nat.mul_mod_left,Qx]
 rw[e1]
 obtain⟨j,hj⟩: ∃j,m-t=j+1:=⟨m-t-1,by omega⟩
 rw[hj,show m-(t+1)=j by omega,be]
 have e2:(V/256^t+1)/256=V/256^(t+1):=by rw[Nat.pow_succ,←Nat.div_div_eq_div_mul];omega
 have e3:UInt8.ofNat ((V/256^t+1)%256)=UInt8.ofNat (V/256^t%256)+1:=by
  apply UInt8.toNat_inj.1
  rw[UInt8.toNat_add,UInt8.toNat_ofNat',UInt8.toNat_ofNat']
  simp
 rw[e2,e3,List.append_assoc];rfl
theorem Nr(m V:Nat)(hv:V%256^m=256^m-1):rolled m m V=be m (V+1):=by
 unfold rolled
 rw[Nat.sub_self,be,List.nil_append,←VI,succ_div m V hv,Nat.mul_mod_left,Qx]
end Rc
structure Only(X:List Nat)(w w':World):Prop where
 os:w'.os=w.os
 tape:w'.tape=w.tape
 output:w'.output=w.output
 size:w.heap.size≤w'.heap.size
 block: ∀i,i<w.heap.size→i ∉ X→w'.heap[i]? =w.heap[i]?
theorem Only.refl(X:List Nat)(w:World):Only X w w:=⟨rfl,rfl,rfl,Nat.le_refl _,fun _ _ _=>rfl⟩
theorem Only.trans{X Y:List Nat}{a b c:World}(h:Only X a b)(k:Only Y b c)(hY: ∀i∈Y,i∈X∨a.heap.size≤i):Only X a c:=
 ⟨k.os.trans h.os,k.tape.trans h.tape,k.output.trans h.output,Nat.le_trans h.size k.size,fun i hi hX=>
  (k.block i (Nat.lt_of_lt_of_le hi h.size) (fun hm=>by rcases hY i hm with h1 | h1;exact hX h1;omega)).trans (h.block i hi hX)⟩
theorem Only.alloc{X:List Nat}{a b:World}(h:Only X a b)(o:Obj):Only X a (b.alloc o):=
 h.trans (Y:=[]) ⟨rfl,rfl,rfl,by simp,fun i hi _=>Below.heap_alloc b o i hi⟩ (by simp)
theorem Only.setCell{X:List Nat}{a b:World}(h:Only X a b){p:Addr}(hp:p.block∈X∨a.heap.size≤p.block)(u:Value):Only X a (b.setCell p u):=
 h.trans (Y:=[p.block]) ⟨rfl,rfl,rfl,by simp,fun i _ hm=>Below.heap_setCell b p u i (by simpa using hm)⟩ (by simpa using hp)
theorem Only.drew{X:List Nat}{a b:World}(h:Only X a b):Only X a b.drew:=⟨h.os,h.tape,h.output,h.size,h.block⟩
theorem Only.grown{X:List Nat}{a b c:World}(h:Only X a b){o:Nat}(hg:b.grownBy c (some o))(ho:o∈X∨a.heap.size≤o):Only X a c:=
 h.trans (Y:=[o]) ⟨hg.os,hg.tape,hg.output,hg.size,fun i hi hm=>hg.block i hi (by simpa using hm)⟩ (by simpa using ho)
theorem Only.below{X:List Nat}{a b:World}{B:Nat}(h:Only X a b)(hB:B≤a.heap.size)(hX: ∀i∈X,B≤i):Below B a b:=
 ⟨h.os,h.tape,h.output,h.size,fun i hi=>h.block i (by omega) (fun hm=>by have:=hX i hm;omega)⟩
structure gQ(w:World)(g o cap:Nat)(s:Rc.St):Prop where
 blk:w.heap[g]? =some (.cells #[.int .u32 ((s.v%4294967296:Nat):Int),.int .u32 ((s.r:Nat):Int),.slice (some ⟨o,0,none⟩) (1+s.k) cap] 239 (0,0))
 own:w.ownsRow 0 5 1 (.slice (some ⟨o,0,none⟩) (1+s.k) cap) (1+s.k) ((Rc.be (1+s.k) (s.v/4294967296)).map B8)
 ne:g≠o
theorem RH(c:BitVec 16)(w:World):Calls Tryz.prog 258 #[.int .u16 c.toNat] w fun e w'=>e= .returned (.int .u16 (Rc.fair c.toNat:Nat))∧w=w':=by
 have hc:=c.isLt
 by_cases h1:c.toNat<1
 ·have hf:Rc.fair c.toNat=1024:=by unfold Rc.fair;rw[if_pos (.inl h1)]
  rw[hf]
  have h1':(c.toNat:Int)<1:=by omega
  go_enter Tryz.func258,Tryz.ntmps258
  go_wp2_with fail
  go_ret
  exact⟨rfl,rfl⟩
 ·by_cases h2:2048≤c.toNat
  ·have hf:Rc.fair c.toNat=1024:=by unfold Rc.fair;rw[if_pos (.inr h2)]
   rw[hf]
   have h1': ¬(c.toNat:Int)<1:=by omega
   have h2':(2048:Int)≤c.toNat:=by omega
   go_enter Tryz.func258,Tryz.ntmps258
   go_wp2_with fail
   go_ret
   exact⟨rfl,rfl⟩
  ·have hf:Rc.fair c.toNat=c.toNat:=by unfold Rc.fair;rw[if_neg (by omega)]
   rw[hf]
   have h1': ¬(c.toNat:Int)<1:=by omega
   have h2': ¬(2048:Int)≤c.toNat:=by omega
   go_enter Tryz.func258,Tryz.ntmps258
   go_wp2_with fail
   go_ret
   exact⟨rfl,rfl⟩
def dK(one:Bool):Int:=if one then 1 else 0
theorem F6(p:Nat)(one:Bool)(w:World)(h1:1≤p)(h2:p≤2047):Calls Tryz.prog 259 #[.int .u16 p,.int .i64 (dK one)] w fun e w'=>e= .returned (.int .u16 (Rc.next p one:Nat))∧w=w':=by
 cases one
 ·have hn:((Rc.next p false:Nat):Int)=(p:Int)+(2048-(p:Int))/32:=by simp only[Rc.next,Bool.false_eq_true,if_false];omega
  have HN:=Lib.hid hn
  clear hn
  unfold dK
  simp only[Bool.false_eq_true,if_false]
  go_enter Tryz.func259,Tryz.ntmps259
  go_wp2_with fail
  go_ret
  exact⟨congrArg (fun n:Int=>Ending.returned (Value.int .u16 n)) HN.out.symm,rfl⟩
 ·have hn:((Rc.next p true:Nat):Int)=(p:Int)-(p:Int)/32:=by simp only[Rc.next,if_true];omega
  have HN:=Lib.hid hn
  clear hn
  unfold dK
  simp only[if_true]
  go_enter Tryz.func259,Tryz.ntmps259
  go_wp2_with fail
  go_ret
  exact⟨congrArg (fun n:Int=>Ending.returned (Value.int .u16 n)) HN.out.symm,rfl⟩
theorem aeb(b:UInt8):((b.toNat:Int)+1)%256=((b+1).toNat:Int):=by
 rw[UInt8.toNat_add];simp
theorem JI(i q g o n cap:Nat)(b:UInt8)(w:World)(hi:i<n)(_hn:n≤9223372036854775807)(hqo:q≠o)(hgo:g≠o)
  (cq:w.cell? ⟨q,0,none⟩=some (.pointer (some ⟨g,0,none⟩))) (cg:w.cell? ⟨g,2,none⟩=some (.slice (some ⟨o,0,none⟩) n cap))
  (co:w.cell? ⟨o,i,none⟩=some (.int .u8 (b.toNat:Nat))) (fo:w.frozen? ⟨o,i,none⟩=false):
  Calls Tryz.prog 261 #[.int .i64 i,.pointer (some ⟨q,0,none⟩)] w fun e w'=>e= .returned (.bool (((b+1).toNat:Int)==0))∧w'=w.setCell ⟨o,i,none⟩ (B8 (b+1)):=by
 have hinc:=aeb b
 have hb:=b.toNat_lt
 generalize hs:b+1=s at*
 have HS:=Lib.hid hs;clear hs
 have e1:(⟨q,0,none⟩:Addr)≠⟨o,i,none⟩:=fun e=>hqo (congrArg Addr.block e)
 have e2:(⟨g,2,none⟩:Addr)≠⟨o,i,none⟩:=fun e=>hgo (congrArg Addr.block e)
 have d1:(w.setCell ⟨o,i,none⟩ (B8 s)).cell? ⟨q,0,none⟩=some (.pointer (some ⟨g,0,none⟩)):=(World.cell?_setCell_other _ _ _ _ (fun e=>e1 e.symm)).trans cq
 have d2:(w.setCell ⟨o,i,none⟩ (B8 s)).cell? ⟨g,2,none⟩=some (.slice (some ⟨o,0,none⟩) n cap):=(World.cell?_setCell_other _ _ _ _ (fun e=>e2 e.symm)).trans cg
 go_enter Tryz.func261,Tryz.ntmps261
 go_wp2_with fail
 go_ret
 exact⟨rfl,rfl⟩
theorem BJ{w:World}{g:Nat}{a b c:Value}{t:TypeId}(h:w.heap[g]? =some (.cells #[a,b,c] t (0,0)))(u:Value):(w.setCell ⟨g,0,none⟩ u).heap[g]? =some (.cells #[u,b,c] t (0,0)):=by
 rw[heap_setCell_same w g 0 _ t u h];rfl
theorem rQ{w:World}{g:Nat}{a b c:Value}{t:TypeId}(h:w.heap[g]? =some (.cells #[a,b,c] t (0,0)))(u:Value):(w.setCell ⟨g,1,none⟩ u).heap[g]? =some (.cells #[a,u,c] t (0,0)):=by
 rw[heap_setCell_same w g 1 _ t u h];rfl
theorem VL{w:World}{g:Nat}{a b c:Value}{t:TypeId}(h:w.heap[g]? =some (.cells #[a,b,c] t (0,0)))(u:Value):(w.setCell ⟨g,2,none⟩ u).heap[g]? =some (.cells #[a,b,u] t (0,0)):=by
 rw[heap_setCell_same w g 2 _ t u h];rfl
theorem jc{w:World}{e o n cap:Nat}{xs:List Value}{p:Addr}(h:w.ownsRow 0 e 1 (.slice (some ⟨o,0,none⟩) n cap) n xs)(hp:p.block≠o)(u:Value):(w.setCell p u).ownsRow 0 e 1 (.slice (some ⟨o,0,none⟩) n cap) n xs:=
 World.ownsRow.kept (row:=some p.block) h ⟨rfl,rfl,rfl,by simp,fun j _ hj=>heap_setCell_other _ _ j _ (fun e=>hj (by simp[e]))⟩ (.inr (by simpa [Value.ownBlock]using fun e=>hp e.symm))
theorem aec(x:Nat)(h:x<256)(h2:x≠255):((((UInt8.ofNat x+1:UInt8)).toNat:Int)==0)=false:=by
 rw[beq_eq_false_iff_ne,UInt8.toNat_add,UInt8.toNat_ofNat'];simp;omega
def Did(P:World→Prop)(e:Ending)(w':World):Prop:=e= .returned (.tuple #[])∧P w'
theorem add_any(g o cap:Nat)(s:Rc.St)(n:Nat)(w:World)(hE:gQ w g o cap s)(hn:n<4294967296)(hk:1+s.k≤9223372036854775807):
  Calls Tryz.prog 260 #[.pointer (some ⟨g,0,none⟩),.int .u32 n] w (Did fun w'=>gQ w' g o cap ⟨s.k,s.v+n,s.r⟩∧Only [g,o] w w'):=by
 have c0:w.cell? ⟨g,0,none⟩=some (.int .u32 ((s.v%4294967296:Nat):Int)):=by rw[cell_of_row _ _ _ _ _ _ hE.blk];rfl
 have f0:w.frozen? ⟨g,0,none⟩=false:=frozen_of_row _ _ _ _ _ hE.blk
 have hgl:g<w.heap.size:=block_lt_of_cell c0
 generalize hlow:s.v%4294967296=low at*
 have hll:low<4294967296:=by omega
 have aaN:=Lib.hid hlow
 clear hlow
 by_cases hcar:low+n<4294967296
 ·have hq:((low:Int)+(n:Int))/4294967296=0:=by omega
  have hr:((low:Int)+(n:Int))%4294967296=(((low+n:Nat)):Int):=by omega
  go_enter Tryz.func260,Tryz.ntmps260
  go_wp2_with fail
  refine bodyPost_ret (results_none rfl _ _ _) rfl ⟨rfl,?_,?_⟩
  ·refine⟨?_,?_,hE.ne⟩
   ·rw[Below.heap_alloc _ _ _ (by simpa using hgl),BJ hE.blk]
    have e1:(s.v+n)%4294967296=low+n:=by have:=aaN.out;omega
    show some (Obj.cells #[.int .u32 ((low:Int)+(n:Int)),_,_] _ _)=some (Obj.cells #[.int .u32 (((s.v+n)%4294967296:Nat):Int),_,_] _ _)
    rw[e1];rfl
   ·have e2:(s.v+n)/4294967296=s.v/4294967296:=by have:=aaN.out;omega
    show World.ownsRow _ 0 _ 1 _ _ ((Rc.be (1+s.k) ((s.v+n)/4294967296)).map B8)
    rw[e2]
    exact World.ownsRow.alloc (jc hE.own hE.ne _) _
  ·exact((Only.refl _ _).setCell (by simp) _).alloc _
 ·obtain⟨lo,hlo⟩: ∃lo,low+n=lo+4294967296:=⟨low+n-4294967296,by omega⟩
  have hq:((low:Int)+(n:Int))/4294967296=1:=by omega
  have hr:((low:Int)+(n:Int))%4294967296=(lo:Int):=by omega
  have c2:w.cell? ⟨g,2,none⟩=some (.slice (some ⟨o,0,none⟩) (1+s.k) cap):=by rw[cell_of_row _ _ _ _ _ _ hE.blk];rfl
  have hol:o<w.heap.size:=by
   have:=World.ownsRow.lt hE.own o rfl
   exact this.2
  have hne:=hE.ne
  have c2':(w.setCell ⟨g,0,none⟩ (.int .u32 lo)).cell? ⟨g,2,none⟩=some (.slice (some ⟨o,0,none⟩) (1+s.k) cap):=(World.cell?_setCell_other _ _ _ _ (by simp)).trans c2
  have hk1:(1:Int)≤((1+s.k:Nat):Int):=by omega
  have hown:=hE.own
  generalize hmm:1+s.k=m at*
  have HM:=Lib.hid hmm
  have HLO:=Lib.hid hlo
  clear hmm hlo
  go_enter Tryz.func260,Tryz.ntmps260
  go_wp2_with fail
  rw[hr]
  have hblk1:((w.setCell ⟨g,0,none⟩ (.int .u32 lo)).alloc (.cells #[.pointer (some ⟨g,0,none⟩)] 196)).heap[g]? =some (.cells #[.int .u32 lo,.int .u32 ((s.r:Nat):Int),.slice (some ⟨o,0,none⟩) m cap] 239 (0,0)):=by
   rw[Below.heap_alloc _ _ _ (by simpa using hgl)]
   have hb:=hE.blk
   rw[HM.out]at hb
   exact BJ hb _
  have hq1:((w.setCell ⟨g,0,none⟩ (.int .u32 lo)).alloc (.cells #[.pointer (some ⟨g,0,none⟩)] 196)).heap[w.heap.size]? =some (.cells #[.pointer (some ⟨g,0,none⟩)] 196 (0,0)):=by
   have:=heap_alloc_new (w.setCell ⟨g,0,none⟩ (.int .u32 lo)) (.cells #[.pointer (some ⟨g,0,none⟩)] 196)
   simpa using this
  have hown1:((w.setCell ⟨g,0,none⟩ (.int .u32 lo)).alloc (.cells #[.pointer (some ⟨g,0,none⟩)] 196)).ownsRow 0 5 1 (.slice (some ⟨o,0,none⟩) m cap) m ((Rc.rolled m 0 (s.v/4294967296)).map B8):=by
   rw[Rc.JF];exact World.ownsRow.alloc (jc hown hne _) _
  have kG:Only [g,o] w ((w.setCell ⟨g,0,none⟩ (.int .u32 lo)).alloc (.cells #[.pointer (some ⟨g,0,none⟩)] 196)):=((Only.refl _ _).setCell (by simp) _).alloc _
  generalize(w.setCell ⟨g,0,none⟩ (.int .u32 lo)).alloc (.cells #[.pointer (some ⟨g,0,none⟩)] 196)=w1 at*
  generalize hQ:w.heap.size=q at*
  have hqg:g<q:=hgl
  have hqo:o<q:=hol
  have HQ:=Lib.hid hQ
  have hdone: ∀w',w'.heap[g]? =some (.cells #[.int .u32 lo,.int .u32 ((s.r:Nat):Int),.slice (some ⟨o,0,none⟩) m cap] 239 (0,0))→w'.ownsRow 0 5 1 (.slice (some ⟨o,0,none⟩) m cap) m ((Rc.be m (s.v/4294967296+1)).map B8)→gQ w' g o cap ⟨s.k,s.v+n,s.r⟩:=by
   intro w' h1 h2
   have e1:(s.v+n)%4294967296=lo:=by have:=aaN.out;have:=HLO.out;omega
   have e2:(s.v+n)/4294967296=s.v/4294967296+1:=by have:=aaN.out;have:=HLO.out;omega
   refine⟨?_,?_,hne⟩
   ·show w'.heap[g]? =some (.cells #[.int .u32 (((s.v+n)%4294967296:Nat):Int),.int .u32 ((s.r:Nat):Int),.slice (some ⟨o,0,none⟩) (1+s.k) cap] _ (0,0))
    rw[e1,HM.out];exact h1
   ·show w'.ownsRow 0 _ 1 (.slice (some ⟨o,0,none⟩) (1+s.k) cap) (1+s.k) ((Rc.be (1+s.k) ((s.v+n)/4294967296)).map B8)
    rw[e2,HM.out];exact h2
  have ac7:=Lib.hid hdone
  clear hdone hr hq c0 c2 c2' f0 hE hown hcar hQ hgl hol
  generalize s.v/4294967296=V at*
  go_loopw [6] (fun i wr=> ∃t:Nat,t≤m∧i= .int .i64 ((m:Int)-1-(t:Int))∧Hid (V%256^t=256^t-1)∧wr.heap[g]? =some (.cells #[.int .u32 lo,.int .u32 ((s.r:Nat):Int),.slice (some ⟨o,0,none⟩) m cap] 239 (0,0))∧wr.heap[q]? =some (.cells #[.pointer (some ⟨g,0,none⟩)] 196 (0,0))∧wr.ownsRow 0 5 1 (.slice (some ⟨o,0,none⟩) m cap) m ((Rc.rolled m t V).map B8)∧Only [g,o] w wr) (fun i _=>(intOf i+1).toNat)
  case atStart=>exact⟨0,by omega,by go_num,by simp[Hid,Nat.mod_one],hblk1,hq1,hown1,kG⟩
  case round=>
   clear hblk1 hq1 hown1 kG
   obtain⟨t,ht,rfl,hall,hblk,hqb,hown,hon⟩:=hrel
   by_cases hlt:t<m
   ·obtain⟨j,hj⟩: ∃j:Nat,j=m-1-t:=⟨_,rfl⟩
    have hji:(m:Int)-1-(t:Int)=(j:Int):=by omega
    have hjm:j<m:=by omega
    have cq:wr.cell? ⟨q,0,none⟩=some (.pointer (some ⟨g,0,none⟩)):=by rw[cell_of_row _ _ _ _ _ _ hqb];rfl
    have cg:wr.cell? ⟨g,2,none⟩=some (.slice (some ⟨o,0,none⟩) m cap):=by rw[cell_of_row _ _ _ _ _ _ hblk];rfl
    have co:=hown.cellAt j (by omega)
    have fo:=hown.frozenAt j
    rw[List.getElem?_map,hj,Rc.Nq m t V hlt,←hj]at co
    simp only[Option.map]at co
    obtain⟨hs1,hs2⟩:=hown.stored j (B8 (UInt8.ofNat (V/256^t%256)+1))
    rw[←List.map_set]at hs1
    have ql:Only [g,o] w (wr.setCell ⟨o,j,none⟩ (B8 (UInt8.ofNat (V/256^t%256)+1))):=hon.setCell (by simp) _
    have hblk':(wr.setCell ⟨o,j,none⟩ (B8 (UInt8.ofNat (V/256^t%256)+1))).heap[g]? =some (.cells #[.int .u32 lo,.int .u32 ((s.r:Nat):Int),.slice (some ⟨o,0,none⟩) m cap] 239 (0,0)):=(heap_setCell_other _ _ _ _ hne).trans hblk
    have ag3:(wr.setCell ⟨o,j,none⟩ (B8 (UInt8.ofNat (V/256^t%256)+1))).heap[q]? =some (.cells #[.pointer (some ⟨g,0,none⟩)] 196 (0,0)):=(heap_setCell_other _ _ _ _ (by simp;omega)).trans hqb
    have hcall:=Lib.hid (JI j q g o m cap (UInt8.ofNat (V/256^t%256)) wr hjm hk (by omega) hne cq cg co fo)
    have hpos:(0:Int)≤(j:Int):=by omega
    by_cases RI:V/256^t%256=255
    ·have hz:UInt8.ofNat (V/256^t%256)+1=0:=by rw[RI];decide
     rw[hz,hj,Rc.JG m t V hlt]at hs1
     rw[hz]at hcall ql hblk' ag3
     have HN:=Lib.hid (Rc.VK t V hall.out RI)
     have HJ:=Lib.hid hj
     rw[←hj]at hs1
     clear hz hs2 co cq cg fo hj RI
     rw[hji]
     go_wp2_with fail
     refine hcall.out.mono ?_
     rintro e w' ⟨rfl,rfl⟩
     go_wp2_with fail
     go_roundw
     case rel=>exact⟨t+1,by omega,congrArg (Value.int .i64) (by omega),HN,hblk',ag3,hs1,ql⟩
     case measure=>simp[intOf]<;>omega
    ·have hx:=aec (V/256^t%256) (Nat.mod_lt _ (by omega)) RI
     rw[hj,Rc.JH m t V hlt hall.out RI,←hj]at hs1
     rw[hx]at hcall
     generalize UInt8.ofNat (V/256^t%256)+1=x at*
     clear hs2 co cq cg fo hj RI hx
     rw[hji]
     go_wp2_with fail
     refine hcall.out.mono ?_
     rintro e w' ⟨rfl,rfl⟩
     go_wp2_with fail
     go_end0
     exact⟨rfl,ac7.out _ hblk' hs1,ql⟩
   ·obtain rfl:t=m:=by omega
    rw[Rc.Nr t V hall.out]at hown
    have hneg:(t:Int)-1-(t:Int)= -1:=by omega
    rw[hneg]
    go_wp2_with fail
    go_end0
    exact⟨rfl,ac7.out _ hblk hown,hon⟩
def Hy(w:World)(g o:Nat)(t:Rc.St)(w':World):Prop:= ∃o' cap',gQ w' g o' cap' t∧Only [g,o] w w'∧(o'=o∨w.heap.size≤o')
theorem VN(v lw:Nat)(h:v%4294967296=lw):IntKind.u8.wrap ((lw:Int)/16777216)=((UInt8.ofNat (v/16777216%256)).toNat:Int):=by
 rw[IntKind.wrap_u8',UInt8.toNat_ofNat'];omega
theorem aed(v lw:Nat)(h:v%4294967296=lw):((lw:Int)*256)%4294967296=((v*256%4294967296:Nat):Int):=by omega
theorem VO(k v:Nat):Rc.be (1+k) (v/4294967296)++[UInt8.ofNat (v/16777216%256)]=Rc.be (1+(k+1)) (v*256/4294967296):=by
 rw[←Nat.add_assoc,Rc.be,show v*256/4294967296=v/16777216 by omega,Nat.div_div_eq_div_mul]
theorem BK{w:World}{g:Nat}{a b c:Value}{t:TypeId}{fr:Nat×Nat}(h:w.heap[g]? =some (.cells #[a,b,c] t fr)):w.cell? ⟨g,0,none⟩=some a:=by rw[cell_of_row _ _ _ _ _ _ h];rfl
theorem wY{w:World}{g:Nat}{a b c:Value}{t:TypeId}{fr:Nat×Nat}(h:w.heap[g]? =some (.cells #[a,b,c] t fr)):w.cell? ⟨g,1,none⟩=some b:=by rw[cell_of_row _ _ _ _ _ _ h];rfl
theorem JJ{w:World}{g:Nat}{a b c:Value}{t:TypeId}{fr:Nat×Nat}(h:w.heap[g]? =some (.cells #[a,b,c] t fr)):w.cell? ⟨g,2,none⟩=some c:=by rw[cell_of_row _ _ _ _ _ _ h];rfl
theorem uz(N g o cap:Nat)(s:Rc.St)(w:World)(hE:gQ w g o cap s)(hf:s.fits)(hk:1+s.k+N≤140737488355328)(hr:16777216≤s.r*256^N):
  Calls Tryz.prog 257 #[.pointer (some ⟨g,0,none⟩)] w (Did (Hy w g o (Rc.St.scale N s))):=by
 obtain⟨i,hi,hz0,hz1,hz2⟩:=info_parts wW
 go_enter Tryz.func257,Tryz.ntmps257
 go_wp2_with fail
 go_loopg [6] N (fun gk s6 wr=> ∃(o' cap':Nat) (t:Rc.St),gQ wr g o' cap' t∧t.fits∧1+t.k+gk≤140737488355328∧Hid (16777216≤t.r*256^gk)∧Rc.St.scale N s=Rc.St.scale gk t∧Only [g,o] w wr∧(o'=o∨w.heap.size≤o'))
 case atStart=>exact⟨o,cap,s,hE,hf,hk,hr,rfl,Only.refl _ _,.inl rfl⟩
 case round=>
  obtain⟨o',cap',t,hT,hft,hkt,hrt,hsc,hon,ho'⟩:=hrel
  have HSC:=Lib.hid hsc
  have c0:wr.cell? ⟨g,0,none⟩=some (.int .u32 ((t.v%4294967296:Nat):Int)):=by rw[cell_of_row _ _ _ _ _ _ hT.blk];rfl
  have c1:wr.cell? ⟨g,1,none⟩=some (.int .u32 ((t.r:Nat):Int)):=by rw[cell_of_row _ _ _ _ _ _ hT.blk];rfl
  have c2:wr.cell? ⟨g,2,none⟩=some (.slice (some ⟨o',0,none⟩) (1+t.k) cap'):=by rw[cell_of_row _ _ _ _ _ _ hT.blk];rfl
  have f0:wr.frozen? ⟨g,0,none⟩=false:=frozen_of_row _ _ _ _ _ hT.blk
  have f1:wr.frozen? ⟨g,1,none⟩=false:=frozen_of_row _ _ _ _ _ hT.blk
  have f2:wr.frozen? ⟨g,2,none⟩=false:=frozen_of_row _ _ _ _ _ hT.blk
  clear hsc hE
  by_cases hlt:t.r<16777216
  ·have hlt':(t.r:Int)<16777216:=by omega
   cases gk with
   | zero=>have:=hrt.out;simp at this;omega
   | succ gk=>
    generalize hlw:t.v%4294967296=lw at*
    have htop:=VN t.v lw hlw
    have hup:=Lib.hid (aed t.v lw hlw)
    have hll:lw<4294967296:=by omega
    have HLW:=Lib.hid hlw
    clear hlw
    have hub:=Lib.hid (VO t.k t.v)
    generalize hx:UInt8.ofNat (t.v/16777216%256)=x at*
    have hgl:g<wr.heap.size:=block_lt_of_cell c0
    have hoa:=World.ownsRow.alloc hT.own (.cells #[.int .u8 (x.toNat:Nat)] 5)
    have hnews:=cell_one_new wr (B8 x) 5
    have h63:1+t.k+1≤maxLen:=by unfold maxLen;omega
    have hby:(1+t.k+1)*1≤140737488355328:=by omega
    have hbs:0≤(wr.alloc (.cells #[.int .u8 (x.toNat:Nat)] 5)).drew.heap.size:=Nat.zero_le _
    have hHH:(wr.alloc (.cells #[.int .u8 (x.toNat:Nat)] 5)).drew.heap.size=wr.heap.size+1:=by show(wr.alloc _).heap.size=_;simp
    have HH:=Lib.hid hHH
    clear hHH
    have VP:=hT.blk
    rw[HLW.out]at VP
    have hne:=hT.ne
    have hbk: ∀w2:World,(wr.alloc (.cells #[.int .u8 (x.toNat:Nat)] 5)).drew.grownBy w2 (Value.ownBlock (.slice (some ⟨o',0,none⟩) (1+t.k) cap'))→w2.heap[g]? =some (.cells #[.int .u32 (lw:Int),.int .u32 ((t.r:Nat):Int),.slice (some ⟨o',0,none⟩) (1+t.k) cap'] 239 (0,0)):=by
     intro w2 h
     refine(h.block g ?_ ?_).trans ((Below.heap_alloc wr _ g hgl).trans VP)
     ·show g<(wr.alloc _).heap.size;simp;omega
     ·simpa [Value.ownBlock]using hne
    have EU:=Lib.hid hbk
    clear hbk VP
    go_wp2_with fail
    go_region_law (refine step_append_lies (P:=Tryz.prog) _ rfl (.tmp 11) (.tmp 18) 22 rfl 0 5 i (.int .u8 0) 1 1 Tryz.underlying22 hi hz0 hz1 hz2 rfl (by decide) (.slice (some ⟨o',0,none⟩) (1+t.k) cap') (1+t.k) _ rfl hoa.drew ⟨wr.heap.size,0,none⟩ 1 1 [B8 x] rfl rfl hnews (oJ [x]) (by decide) h63 hby hbs (wr.heap.size+1) HH.out ?_;intro g2 cap2 w2 hown2 hg2 aee hlt2;have hbk2:=EU.out w2 hg2;have c22:=JJ hbk2;have f22:=frozen_of_row w2 g 2 _ _ hbk2)
    all_goals
     have hb3:=VL hbk2 (.slice (some ⟨g2,0,none⟩) (1+t.k+1) cap2)
     have Nb:g≠g2:=by
      rcases aee with h | h
      ·have e:o'=g2:=by simpa [Value.ownBlock]using h
       rw[←e];exact hne
      ·omega
     have hown3:=jc (p:=⟨g,2,none⟩) hown2 Nb (.slice (some ⟨g2,0,none⟩) (1+t.k+1) cap2)
     have iQ:Only [g,o] w w2:=by
      refine(hon.alloc (.cells #[.int .u8 (x.toNat:Nat)] 5)).drew.grown hg2 ?_
      rcases ho' with h | h
      ·exact .inl (by simp[h])
      ·exact .inr h
     have eU:=iQ.setCell (p:=⟨g,2,none⟩) (.inl (by simp)) (.slice (some ⟨g2,0,none⟩) (1+t.k+1) cap2)
     have ho2:g2=o∨w.heap.size≤g2:=by
      rcases aee with h | h
      ·have e:o'=g2:=by simpa [Value.ownBlock]using h
       rw[←e];exact ho'
      ·have:=hon.size;exact .inr (by omega)
     generalize w2.setCell ⟨g,2,none⟩ (.slice (some ⟨g2,0,none⟩) (1+t.k+1) cap2)=w3 at*
     have d0:=BK hb3
     have d1:=wY hb3
     have e0:=frozen_of_row w3 g 0 _ _ hb3
     have e1:=frozen_of_row w3 g 1 _ _ hb3
     have hlast:=rQ (BJ hb3 (.int .u32 ((t.v*256%4294967296:Nat):Int))) (.int .u32 ((t.r*256:Nat):Int))
     have hown4:=jc (p:=⟨g,1,none⟩) (jc (p:=⟨g,0,none⟩) hown3 Nb (.int .u32 ((t.v*256%4294967296:Nat):Int))) Nb (.int .u32 ((t.r*256:Nat):Int))
     have kH:=(eU.setCell (p:=⟨g,0,none⟩) (.inl (by simp)) (.int .u32 ((t.v*256%4294967296:Nat):Int))).setCell (p:=⟨g,1,none⟩) (.inl (by simp)) (.int .u32 ((t.r*256:Nat):Int))
     have HL:=Lib.hid hlast
     clear hlast hbk2 hg2 aee hown2 iQ c22 f22 hown3 eU c0 c1 c2 f0 f1 f2 htop hoa hnews
     go_wp2_with fail
     rw[hup.out,show((t.r:Int)*256)=((t.r*256:Nat):Int)from by omega]
     go_roundg gk
     case measure=>omega
     case rel=>
      refine⟨g2,cap2,t.up,⟨?_,?_,Nb⟩,t.Qy hft hlt,by show 1+(t.k+1)+gk≤_;omega,?_,?_,kH,ho2⟩
      ·show _=some (Obj.cells #[_,_,.slice (some ⟨g2,0,none⟩) (1+(t.k+1)) cap2] _ _)
       rw[←Nat.add_assoc];exact HL.out
      ·show World.ownsRow _ 0 _ 1 (.slice (some ⟨g2,0,none⟩) (1+(t.k+1)) cap2) (1+(t.k+1)) ((Rc.be (1+(t.k+1)) (t.v*256/4294967296)).map B8)
       rw[←hub.out,List.map_append,←Nat.add_assoc];exact hown4
      ·show 16777216≤t.r*256*256^gk
       have:=hrt.out
       rw[Nat.pow_succ,Nat.mul_comm (256^gk),←Nat.mul_assoc]at this;exact this
      ·rw[HSC.out,Rc.St.scale,if_pos hlt]
  ·have hge: ¬(t.r:Int)<16777216:=by omega
   go_wp2_with fail
   go_end0
   refine⟨rfl,o',cap',?_,hon,ho'⟩
   have hst:Rc.St.scale gk t=t:=by
    cases gk with
    | zero=>rfl
    | succ gk=>rw[Rc.St.scale,if_neg hlt]
   rw[HSC.out,hst];exact hT
def Qz(w:World)(g o:Nat)(bit:Int)(p:Nat)(t:Rc.St)(e:Ending)(w':World):Prop:=
 e= .returned (.tuple #[.int .i64 bit,.int .u16 (p:Nat)])∧Hy w g o t w'
theorem F7(r p:Nat)(hr:r<4294967296)(hp:p≤2047):(((r:Int)/2048)*(p:Int))%4294967296=((r/2048*p:Nat):Int):=by
 have h:r/2048*p≤r/2048*2047:=Nat.mul_le_mul_left _ hp
 have e:((r:Int)/2048)*(p:Int)=((r/2048*p:Nat):Int):=by simp
 rw[e];omega
theorem aaO(g o cap:Nat)(s:Rc.St)(c:BitVec 16)(bit:Int)(w:World)(hE:gQ w g o cap s)(hs:s.ok)(hk:1+s.k+2≤140737488355328):
  Calls Tryz.prog 255 #[.pointer (some ⟨g,0,none⟩),.int .u16 c.toNat,.int .i64 bit] w
   (Qz w g o (dK (bit !=0)) (Rc.next (Rc.fair c.toNat) (bit !=0)) (Rc.St.scale 2 (s.pick (Rc.fair c.toNat) (bit !=0)))):=by
 obtain⟨hp1,hp2⟩:=Rc.kX c.toNat
 have hv:=Lib.hid (fun w=>RH c w)
 generalize Rc.fair c.toNat=p at*
 have hsr:=hs.1.2
 have hbd:=F7 s.r p hsr hp2
 have akZ:s.r/2048*p≤s.r/2048*2047:=Nat.mul_le_mul_left _ hp2
 generalize hbn:s.r/2048*p=bnd at*
 have hblt:bnd<4294967296:=by omega
 have hbr:bnd≤s.r:=by omega
 have HBN:=Lib.hid hbn
 clear hbn
 have c1:=wY hE.blk
 have f1:=frozen_of_row w g 1 _ _ hE.blk
 by_cases hb:bit=0
 ·subst hb
  obtain⟨hpf,hpr⟩:=s.kF p false hs hp1 hp2
  have hmv:=Lib.hid (fun w=>F6 p false w hp1 hp2)
  have e0:dK ((0:Int) !=0)=0:=rfl
  rw[e0,show((0:Int) !=0)=false from rfl]
  have hpk:s.pick p false=⟨s.k,s.v,bnd⟩:=by rw[←HBN.out];rfl
  rw[hpk]at hpf hpr ⊢
  have hE1:gQ (w.setCell ⟨g,1,none⟩ (.int .u32 ((bnd:Nat):Int))) g o cap ⟨s.k,s.v,bnd⟩:=⟨rQ hE.blk _,jc hE.own hE.ne _,hE.ne⟩
  have hsh:=Lib.hid (uz 2 g o cap ⟨s.k,s.v,bnd⟩ _ hE1 hpf (by show 1+s.k+2≤_;exact hk) (by show 16777216≤bnd*256^2;have:8192≤bnd:=hpr;omega))
  go_enter Tryz.func255,Tryz.ntmps255
  go_wp2_with fail
  refine(hv.out _).mono ?_
  rintro e w' ⟨rfl,rfl⟩
  go_wp2_with fail
  refine(hmv.out _).mono ?_
  rintro e w' ⟨rfl,rfl⟩
  go_wp2_with fail
  refine hsh.out.mono ?_
  rintro e w1 ⟨rfl,o',cap',hE2,hon,ho⟩
  go_wp2_with fail
  go_ret2
  exact⟨rfl,o',cap',hE2,((Only.refl _ _).setCell (p:=⟨g,1,none⟩) (.inl (by simp)) _).trans hon (by simp),by rcases ho with h | h;exact .inl h;exact .inr (by simpa using h)⟩
 ·have hbt:(bit !=0)=true:=by rw[bne_iff_ne];exact hb
  obtain⟨hpf,hpr⟩:=s.kF p true hs hp1 hp2
  have hmv:=Lib.hid (fun w=>F6 p true w hp1 hp2)
  rw[hbt,show dK true=1 from rfl]
  have hpk:s.pick p true=⟨s.k,s.v+bnd,s.r-bnd⟩:=by rw[←HBN.out];rfl
  rw[hpk]at hpf hpr ⊢
  have hadd:=Lib.hid (add_any g o cap s bnd w hE hblt (by omega))
  have aqA:(bit==0)=false:=beq_eq_false_iff_ne.2 hb
  have hsub:(s.r:Int)-(bnd:Int)=((s.r-bnd:Nat):Int):=by omega
  go_enter Tryz.func255,Tryz.ntmps255
  go_wp2_with fail
  refine(hv.out _).mono ?_
  rintro e w' ⟨rfl,rfl⟩
  go_wp2_with fail
  refine(hmv.out _).mono ?_
  rintro e w' ⟨rfl,rfl⟩
  go_wp2_with fail
  refine hadd.out.mono ?_
  rintro e w1 ⟨rfl,hEa,VQ⟩
  have d1:=wY hEa.blk
  have e1:=frozen_of_row w1 g 1 _ _ hEa.blk
  have hE1:gQ (w1.setCell ⟨g,1,none⟩ (.int .u32 ((s.r-bnd:Nat):Int))) g o cap ⟨s.k,s.v+bnd,s.r-bnd⟩:=⟨rQ hEa.blk _,jc hEa.own hEa.ne _,hEa.ne⟩
  have hsh:=Lib.hid (uz 2 g o cap ⟨s.k,s.v+bnd,s.r-bnd⟩ _ hE1 hpf (by show 1+s.k+2≤_;exact hk) (by show 16777216≤(s.r-bnd)*256^2;have:8192≤s.r-bnd:=hpr;omega))
  simp only at d1
  go_wp2_with fail
  refine hsh.out.mono ?_
  rintro e w2 ⟨rfl,o',cap',hE2,hon,ho⟩
  go_wp2_with fail
  go_ret2
  have hsz:=VQ.size
  exact⟨rfl,o',cap',hE2,(VQ.setCell (p:=⟨g,1,none⟩) (.inl (by simp)) _).trans hon (by simp),by rcases ho with h | h;exact .inl h;exact .inr (by simp at h;omega)⟩
theorem JK:Rc.be (1+0) (0/4294967296)=[0]:=by decide
def st0:Rc.St:=⟨0,0,4294967295⟩
theorem VR:st0.ok:=⟨⟨by decide,by decide⟩,by decide⟩
def aaP(w:World)(e:Ending)(w':World):Prop:= ∃g o cap,e= .returned (.pointer (some ⟨g,0,none⟩))∧gQ w' g o cap st0∧Below w.heap.size w w'∧w.heap.size≤g∧w.heap.size≤o
theorem new_any(w:World):Calls Tryz.prog 123 #[] w (aaP w):=by
 go_enter Tryz.func123,Tryz.ntmps123
 go_wp2_with fail
 go_ret
 refine⟨w.heap.size+1,w.heap.size,1,rfl,⟨?_,?_,by omega⟩,((Below.refl _ _).alloc (Nat.le_refl _) _).alloc (by simp) _,by omega,Nat.le_refl _⟩
 ·have h:=heap_alloc_new (w.alloc (.cells #[.int .u8 0] 5)) (.cells #[.int .u32 0,.int .u32 4294967295,.slice (some ⟨w.heap.size,0,none⟩) 1 1] 239)
  have hsz:(w.alloc (.cells #[.int .u8 0] 5)).heap.size=w.heap.size+1:=by simp
  rw[hsz]at h
  exact h
 ·refine World.ownsRow.alloc ?_ _
  show World.ownsRow _ 0 _ 1 (.slice (some ⟨w.heap.size,0,none⟩) (1+0) 1) (1+0) ((Rc.be (1+0) (0/4294967296)).map B8)
  rw[JK]
  exact World.ownsRow_lit (base:=0) (e:=5) (size:=1) w #[.int .u8 0] 1 (Nat.zero_le _) (by unfold maxLen;omega) (by decide)
namespace Rc
theorem St.oW(N:Nat)(s:St)(hf:s.fits)(hr:16777216≤s.r*256^N):(St.scale N s).ok:=by
 induction N generalizing s with
 | zero=>exact⟨hf,by show 16777216≤s.r;simpa using hr⟩
 | succ N ih=>
  rw[St.scale]
  by_cases h:s.r<16777216
  ·rw[if_pos h]
   refine ih _ (s.Qy hf h) ?_
   show 16777216≤s.r*256*256^N
   rw[Nat.pow_succ,Nat.mul_comm (256^N),←Nat.mul_assoc]at hr;exact hr
  ·rw[if_neg h];exact⟨hf,by omega⟩
theorem St.QA(N:Nat)(s:St):(St.scale N s).k≤s.k+N:=by
 induction N generalizing s with
 | zero=>exact Nat.le_refl _
 | succ N ih=>
  rw[St.scale]
  by_cases h:s.r<16777216
  ·rw[if_pos h]
   have:=ih s.up
   have e:s.up.k=s.k+1:=rfl
   omega
  ·rw[if_neg h];omega
def St.bit(s:St)(c:Nat)(one:Bool):St:=St.scale 2 (s.pick (fair c) one)
theorem St.aef(s:St)(p:Nat)(one:Bool):(s.pick p one).k=s.k:=by unfold St.pick;cases one<;>rfl
theorem St.VT(s:St)(c:Nat)(one:Bool)(h:s.ok):(s.bit c one).ok:=by
 obtain⟨h1,h2⟩:=kX c
 obtain⟨hf,hr⟩:=s.kF (fair c) one h h1 h2
 exact St.oW 2 _ hf (by omega)
def St.half(s:St)(one:Bool):St:=if one then⟨s.k,s.v+s.r/2,s.r/2⟩else⟨s.k,s.v,s.r/2⟩
theorem St.oZ(s:St)(one:Bool)(h:s.ok):(s.half one).fits∧8388608≤(s.half one).r:=by
 obtain⟨⟨hf1,hf2⟩,hr⟩:=h
 unfold St.half St.fits
 cases one
 ·simp only[Bool.false_eq_true,if_false];omega
 ·simp only[if_true];omega
def St.plain(s:St):Nat→Nat→St
 | _,0=>s
 | x,n+1=>St.scale 1 ((St.plain s (x/2) n).half (x%2==1))
theorem St.aeg(s:St)(one:Bool):(s.half one).k=s.k:=by unfold St.half;cases one<;>rfl
theorem St.JL(s:St)(h:s.ok)(n x:Nat):(s.plain x n).ok∧(s.plain x n).k≤s.k+n:=by
 induction n generalizing x with
 | zero=>exact⟨h,Nat.le_refl _⟩
 | succ n ih=>
  obtain⟨h1,h2⟩:=ih (x/2)
  obtain⟨hf,hr⟩:=(s.plain (x/2) n).oZ (x%2==1) h1
  refine⟨St.oW 1 _ hf (by omega),?_⟩
  have:=St.QA 1 ((s.plain (x/2) n).half (x%2==1))
  rw[St.aeg]at this
  show(St.scale 1 _).k≤_
  omega
theorem St.JM(s:St)(h:s.ok):s.v<256^(4+s.k):=by
 obtain⟨⟨h1,_⟩,h2⟩:=h;omega
end Rc
end Go.Proofs.YtgfpocdiojifoaaGreatDoor
