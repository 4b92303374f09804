import Derived.Test.YtgfpocdiojifoaaGreatDoorZ02
import Derived.Deep.DeepCutAuto
import Derived.Deep.RegionHeld3
import Derived.Deep.LoopGhost
namespace Go.Proofs.YtgfpocdiojifoaaGreatDoor
set_option maxRecDepth 100000
set_option maxHeartbeats 8000000
open Go.RowKit
def RJ(w:World)(g o:Nat)(x:Nat)(t:Rc.St)(e:Ending)(w':World):Prop:=e= .returned (.int .u32 (x:Nat))∧Hy w g o t w'
def many(n:Int):Nat:=(min (max n 0) 32).toNat
theorem aaQ(x m j:Nat)(h:j<m):x%2^m/2^j%2=x/2^j%2:=by
 have e:2^m=2^j*2^(m-j):=by rw[←Nat.pow_add,show j+(m-j)=m by omega]
 rw[e,Nat.mod_mul_right_div_self]
 obtain⟨d,hd⟩: ∃d,m-j=d+1:=⟨m-j-1,by omega⟩
 rw[hd,Nat.pow_succ,Nat.mod_mul_left_mod]
theorem VU(x j:Nat)(hx:x<2^32):(bits .and .u32 ((x:Int)/2^j) 1==1)=(x/2^j%2==1):=by
 have hle:x/2^j≤x:=Nat.div_le_self _ _
 have e:(x:Int)/2^j=((x/2^j:Nat):Int):=by simp
 rw[e,show(1:Int)=((1:Nat):Int)from rfl,u32_and_nat _ _ (by omega) (by omega),nat_mask1,Bool.eq_iff_iff]
 simp;omega
theorem masked(x t:Nat)(hx:x<2^32)(ht:t≤32):bits .and .u64 (x:Int) (IntKind.u64.wrap (IntKind.u64.wrap (2^t)-1))%4294967296=((x%2^t:Nat):Int):=by
 have h1:1≤2^t:=Nat.one_le_two_pow
 have h2:2^t≤2^32:=Nat.pow_le_pow_right (by omega) ht
 have e:IntKind.u64.wrap (IntKind.u64.wrap (2^t)-1)=((2^t-1:Nat):Int):=by
  rw[show(2:Int)^t=((2^t:Nat):Int) by simp,IntKind.wrap_u64,IntKind.wrap_u64]
  omega
 have hle:x%2^t≤x:=Nat.mod_le _ _
 rw[e,u64_and_nat _ _ (by omega) (by omega),Nat.and_two_pow_sub_one_eq_mod]
 omega
theorem RN(g o cap:Nat)(s:Rc.St)(x:BitVec 32)(n:Int)(w:World)(hE:gQ w g o cap s)(hs:s.ok)(hk:1+s.k+40≤140737488355328):
  Calls Tryz.prog 256 #[.pointer (some ⟨g,0,none⟩),.int .u32 x.toNat,.int .i64 n] w
   (RJ w g o (x.toNat%2^many n) (s.plain (x.toNat%2^many n) (many n))):=by
 go_enter Tryz.func256,Tryz.ntmps256
 go_upto_region 3 with(fail)
 go_cut [2] (fun s2 wx=>w=wx∧s2= .int .i64 ((many n:Nat):Int))
 case first=>
  go_wp2_with fail
  all_goals
   go_meet
   refine⟨rfl,congrArg (Value.int .i64) ?_⟩
   unfold many
   omega
 case rest=>
  obtain⟨rfl,rfl⟩:=hcut
  have hm:many n≤32:=by unfold many;omega
  generalize many n=m at*
  go_wp2_with fail
  generalize hX:x.toNat%2^m=X at*
  have HX:=Lib.hid hX
  clear hX
  go_loopw [7] (fun i wr=> ∃(t o' cap':Nat),t≤m∧i= .int .i64 ((m:Int)-1-(t:Int))∧gQ wr g o' cap' (s.plain (X/2^(m-t)) t)∧Only [g,o] w wr∧(o'=o∨w.heap.size≤o')) (fun i _=>(intOf i+1).toNat)
  case atStart=>exact⟨0,o,cap,by omega,by go_num,hE,Only.refl _ _,.inl rfl⟩
  case round=>
   obtain⟨t,o',cap',ht,rfl,hT,hon,ho'⟩:=hrel
   obtain⟨ag6,hpk⟩:=s.JL hs t (X/2^(m-t))
   by_cases hlt:t<m
   ·obtain⟨j,hj⟩: ∃j:Nat,j=m-1-t:=⟨_,rfl⟩
    have hji:(m:Int)-1-(t:Int)=(j:Int):=by omega
    have hnext:s.plain (X/2^(m-(t+1))) (t+1)=Rc.St.scale 1 ((s.plain (X/2^(m-t)) t).half (x.toNat/2^j%2==1)):=by
     have e1:m-(t+1)=j:=by omega
     have e2:X/2^j/2=X/2^(m-t):=by rw[Nat.div_div_eq_div_mul,←Nat.pow_succ,show m-t=j.succ by omega]
     have e3:X/2^j%2=x.toNat/2^j%2:=by rw[←HX.out];exact aaQ _ _ _ (by omega)
     rw[e1,Rc.St.plain,e2,e3]
    have HN:=Lib.hid hnext
    generalize s.plain (X/2^(m-t)) t=p at*
    have c1:=wY hT.blk
    have f1:=frozen_of_row wr g 1 _ _ hT.blk
    have hbit:=VU x.toNat j x.isLt
    have aqB:j<32:=by omega
    generalize(x.toNat/2^j%2==1)=b at*
    obtain⟨hhf,hhr⟩:=p.oZ b ag6
    clear hnext hE
    rw[hji]
    have HJ:=Lib.hid hj
    have HJI:=Lib.hid hji
    clear hj hji
    have hr2:(p.r:Int)/2=((p.r/2:Nat):Int):=by omega
    have hpr:=ag6.1.2
    have ak0:p.r/2<4294967296:=by omega
    generalize hrh:p.r/2=rh at*
    have HRH:=Lib.hid hrh
    clear hrh
    have hsize:=hon.size
    cases b with
    | false=>
     have hph:p.half false=⟨p.k,p.v,rh⟩:=by rw[←HRH.out];rfl
     rw[hph]at hhf hhr HN
     have hE1:gQ (wr.setCell ⟨g,1,none⟩ (.int .u32 ((rh:Nat):Int))) g o' cap' ⟨p.k,p.v,rh⟩:=⟨rQ hT.blk _,jc hT.own hT.ne _,hT.ne⟩
     have hsh:=Lib.hid (uz 1 g o' cap' ⟨p.k,p.v,rh⟩ _ hE1 hhf (by show 1+p.k+1≤_;omega) (by show 16777216≤rh*256^1;have:8388608≤rh:=hhr;omega))
     go_wp2_with fail
     refine hsh.out.mono ?_
     rintro e w2 ⟨rfl,o2,cap2,hE2,iQ,ho2⟩
     go_wp2_with fail
     go_roundw
     case rel=>
      have hj:=HJ.out
      refine⟨t+1,o2,cap2,by omega,congrArg (Value.int .i64) (by omega),by rw[HN.out];exact hE2,(hon.setCell (p:=⟨g,1,none⟩) (.inl (by simp)) _).trans iQ ?_,?_⟩
      ·intro i hi;simp at hi;rcases hi with rfl | rfl
       ·exact .inl (by simp)
       ·rcases ho' with h | h
        ·exact .inl (by simp[h])
        ·exact .inr h
      ·rcases ho2 with h | h
       ·rw[h];exact ho'
       ·exact .inr (by simp at h;omega)
     case measure=>have hj:=HJ.out;simp[intOf]<;>omega
    | true=>
     have hph:p.half true=⟨p.k,p.v+rh,rh⟩:=by rw[←HRH.out];rfl
     rw[hph]at hhf hhr HN
     have hE0:gQ (wr.setCell ⟨g,1,none⟩ (.int .u32 ((rh:Nat):Int))) g o' cap' ⟨p.k,p.v,rh⟩:=⟨rQ hT.blk _,jc hT.own hT.ne _,hT.ne⟩
     have hadd:=Lib.hid (add_any g o' cap' ⟨p.k,p.v,rh⟩ rh _ hE0 ak0 (by show 1+p.k≤_;omega))
     go_wp2_with fail
     refine hadd.out.mono ?_
     rintro e w1 ⟨rfl,hE1,VQ⟩
     have hsh:=Lib.hid (uz 1 g o' cap' ⟨p.k,p.v+rh,rh⟩ _ hE1 hhf (by show 1+p.k+1≤_;omega) (by show 16777216≤rh*256^1;have:8388608≤rh:=hhr;omega))
     go_wp2_with fail
     refine hsh.out.mono ?_
     rintro e w2 ⟨rfl,o2,cap2,hE2,iQ,ho2⟩
     go_wp2_with fail
     have hsa:=VQ.size
     have hin: ∀i∈[g,o'],i∈[g,o]∨w.heap.size≤i:=by
      intro i hi;simp at hi;rcases hi with rfl | rfl
      ·exact .inl (by simp)
      ·rcases ho' with h | h
       ·exact .inl (by simp[h])
       ·exact .inr h
     go_roundw
     case rel=>
      have hj:=HJ.out
      refine⟨t+1,o2,cap2,by omega,congrArg (Value.int .i64) (by omega),by rw[HN.out];exact hE2,((hon.setCell (p:=⟨g,1,none⟩) (.inl (by simp)) _).trans VQ hin).trans iQ hin,?_⟩
      rcases ho2 with h | h
      ·rw[h];exact ho'
      ·exact .inr (by simp at hsa;omega)
     case measure=>have hj:=HJ.out;simp[intOf]<;>omega
   ·have htm:t=m:=by omega
    subst htm
    have hp0:X/2^(t-t)=X:=by simp
    rw[hp0]at hT
    go_wp2_with fail
    go_ret
    exact⟨by rw[masked _ _ x.isLt hm,HX.out];rfl,o',cap',hT,hon,ho'⟩
theorem JO{w w':World}{e o n cap:Nat}{xs:List Value}(h:w.ownsRow 0 e 1 (.slice (some ⟨o,0,none⟩) n cap) n xs)(ho:w'.heap[o]? =w.heap[o]?):w'.ownsRow 0 e 1 (.slice (some ⟨o,0,none⟩) n cap) n xs:=by
 rcases h with⟨h1,h2 | ⟨g,cap',cur,h2,h3,h4,h5⟩⟩
 ·exact⟨h1,.inl h2⟩
 ·injection h2 with e1 e2 e3
  injection e1 with e1
  injection e1 with e1
  subst e1 e3
  exact⟨h1,.inr ⟨o,cap,cur,rfl,h3,ho.trans h4,h5⟩⟩
theorem gQ.keep{w w':World}{g o cap:Nat}{s:Rc.St}(h:gQ w g o cap s)(hg:w'.heap[g]? =w.heap[g]?)(ho:w'.heap[o]? =w.heap[o]?):gQ w' g o cap s:=
 ⟨hg.trans h.blk,JO h.own ho,h.ne⟩
theorem gQ.lt{w:World}{g o cap:Nat}{s:Rc.St}(h:gQ w g o cap s):g<w.heap.size∧o<w.heap.size:=
 ⟨block_lt_of_cell (BK h.blk),(h.own.lt o rfl).2⟩
theorem gQ.below{w w':World}{g o cap:Nat}{s:Rc.St}(h:gQ w g o cap s)(hb:Below w.heap.size w w'):gQ w' g o cap s:=
 h.keep (hb.block g h.lt.1) (hb.block o h.lt.2)
namespace Rd
structure St where
 pos:Nat
 c:Nat
 r:Nat
 out:Bool
def next(l:List UInt8)(s:St):St:=
 if h:s.pos<l.length then⟨s.pos+1,(256*s.c+(l[s.pos]).toNat)%4294967296,s.r*256,false⟩else⟨s.pos,0,0,true⟩
def scale(l:List UInt8):Nat→St→St
 | 0,s=>s
 | N+1,s=>if s.out=false∧s.r<16777216 then scale l N (next l s)else s
theorem wZ{l:List UInt8}{s:St}(h:s.pos<l.length):next l s=⟨s.pos+1,(256*s.c+(l[s.pos]).toNat)%4294967296,s.r*256,false⟩:=dif_pos h
theorem rU{l:List UInt8}{s:St}(h: ¬s.pos<l.length):next l s=⟨s.pos,0,0,true⟩:=dif_neg h
theorem pq{l:List UInt8}{N:Nat}{s:St}(h:s.out=true):scale l N s=s:=by
 cases N with
 | zero=>rfl
 | succ N=>rw[scale,if_neg (by simp[h])]
theorem yP{l:List UInt8}{N:Nat}{s:St}(h: ¬s.r<16777216):scale l N s=s:=by
 cases N with
 | zero=>rfl
 | succ N=>rw[scale,if_neg (by simp[h])]
theorem vT{l:List UInt8}{N:Nat}{s:St}(h:s.out=false)(hr:s.r<16777216):scale l (N+1) s=scale l N (next l s):=by rw[scale,if_pos ⟨h,hr⟩]
def St.fits(l:List UInt8)(s:St):Prop:=s.pos≤l.length∧s.c<4294967296∧s.r<4294967296
def St.ok(l:List UInt8)(s:St):Prop:=s.fits l∧(s.out=false→16777216≤s.r)
theorem pz{l:List UInt8}{s:St}(h:s.fits l)(hr:s.r<16777216):(next l s).fits l:=by
 obtain⟨h1,h2,h3⟩:=h
 by_cases hp:s.pos<l.length
 ·rw[wZ hp]
  exact⟨hp,Nat.mod_lt _ (by omega),by show s.r*256<_;omega⟩
 ·rw[rU hp];exact⟨h1,by show 0<_;omega,by show 0<_;omega⟩
theorem oW(l:List UInt8)(N:Nat)(s:St)(h:s.fits l)(hr:s.out=false→16777216≤s.r*256^N):(scale l N s).ok l:=by
 induction N generalizing s with
 | zero=>exact⟨h,fun ho=>by show 16777216≤s.r;have:=hr ho;simpa using this⟩
 | succ N ih=>
  by_cases ho:s.out=true
  ·rw[pq ho];exact⟨h,by simp[ho]⟩
  ·have ho':s.out=false:=by simpa using ho
   by_cases hb:s.r<16777216
   ·rw[vT ho' hb]
    refine ih _ (pz h hb) ?_
    by_cases hp:s.pos<l.length
    ·rw[wZ hp]
     intro _
     show 16777216≤s.r*256*256^N
     have:=hr ho'
     rw[Nat.pow_succ,Nat.mul_comm (256^N),←Nat.mul_assoc]at this;exact this
    ·rw[rU hp];intro h;cases h
   ·rw[yP hb];exact⟨h,fun _=>by omega⟩
def St.one(s:St)(p:Nat):Bool:=decide (s.r/2048*p≤s.c)
def St.pick(s:St)(p:Nat):St:=if s.r/2048*p≤s.c then⟨s.pos,s.c-s.r/2048*p,s.r-s.r/2048*p,false⟩else⟨s.pos,s.c,s.r/2048*p,false⟩
theorem St.kF{l:List UInt8}{s:St}{p:Nat}(h:s.ok l)(ho:s.out=false)(h1:1≤p)(h2:p≤2047):(s.pick p).fits l∧8192≤(s.pick p).r:=by
 obtain⟨⟨hp,hc,hr⟩,hb⟩:=h
 have hb:=hb ho
 have k1:s.r/2048*1≤s.r/2048*p:=Nat.mul_le_mul_left _ h1
 have k2:s.r/2048*p≤s.r/2048*2047:=Nat.mul_le_mul_left _ h2
 unfold St.pick St.fits
 by_cases hcp:s.r/2048*p≤s.c
 ·rw[if_pos hcp];simp only;omega
 ·rw[if_neg hcp];simp only;omega
def St.bit(l:List UInt8)(s:St)(p:Nat):Bool×St:=if s.out then(false,s)else(s.one p,scale l 2 (s.pick p))
theorem St.VT{l:List UInt8}{s:St}{p:Nat}(h:s.ok l)(h1:1≤p)(h2:p≤2047):(s.bit l p).2.ok l:=by
 unfold St.bit
 by_cases ho:s.out=true
 ·rw[if_pos ho];exact h
 ·rw[if_neg ho]
  have ho':s.out=false:=by simpa using ho
  obtain⟨k1,k2⟩:=St.kF h ho' h1 h2
  exact oW l 2 _ k1 (fun _=>by omega)
def St.half(s:St):St:=if s.r/2≤s.c then⟨s.pos,s.c-s.r/2,s.r/2,false⟩else⟨s.pos,s.c,s.r/2,false⟩
theorem St.oZ{l:List UInt8}{s:St}(h:s.ok l)(ho:s.out=false):s.half.fits l∧8388608≤s.half.r:=by
 obtain⟨⟨hp,hc,hr⟩,hb⟩:=h
 have hb:=hb ho
 unfold St.half St.fits
 by_cases hcp:s.r/2≤s.c
 ·rw[if_pos hcp];simp only;omega
 ·rw[if_neg hcp];simp only;omega
def St.rounds(l:List UInt8)(s:St):Nat→Nat×St
 | 0=>(0,s)
 | n+1=>if(s.rounds l n).2.out then s.rounds l n else
   (2*(s.rounds l n).1+(if(s.rounds l n).2.r/2≤(s.rounds l n).2.c then 1 else 0),scale l 1 (s.rounds l n).2.half)
theorem St.yQ{l:List UInt8}{s:St}(h:s.ok l)(n:Nat):(s.rounds l n).2.ok l∧(s.rounds l n).1<2^n:=by
 induction n with
 | zero=>exact⟨h,by show 0<1;omega⟩
 | succ n ih=>
  obtain⟨h1,h2⟩:=ih
  rw[St.rounds]
  by_cases ho:(s.rounds l n).2.out=true
  ·rw[if_pos ho];exact⟨h1,by rw[Nat.pow_succ];omega⟩
  ·rw[if_neg ho]
   have ho':(s.rounds l n).2.out=false:=by simpa using ho
   obtain⟨k1,k2⟩:=St.oZ h1 ho'
   refine⟨oW l 1 _ k1 (fun _=>by omega),?_⟩
   show 2*(s.rounds l n).1+_<_
   rw[Nat.pow_succ]
   split<;>omega
theorem St.Ns{l:List UInt8}{s:St}{n m:Nat}(hnm:n≤m)(h:(s.rounds l n).2.out=true):s.rounds l m=s.rounds l n:=by
 induction m with
 | zero=>
  obtain rfl:n=0:=by omega
  rfl
 | succ m ih=>
  rcases Nat.lt_or_ge m n with h1 | h1
  ·obtain rfl:n=m+1:=by omega
   rfl
  ·have:=ih h1
   rw[St.rounds,this,if_pos h]
def St.plain(l:List UInt8)(s:St)(n:Nat):Nat×St:=if(s.rounds l n).2.out then(0,(s.rounds l n).2)else s.rounds l n
def St.done(l:List UInt8)(s:St):Bool:= !s.out&&(s.pos==l.length&&s.c==0)
end Rd
structure dZ(w:World)(g o cap:Nat)(l:List UInt8)(x y pos:Nat)(out:Bool):Prop where
 blk:w.heap[g]? =some (.cells #[.int .u32 (x:Nat),.int .u32 (y:Nat),.slice (some ⟨o,0,none⟩) l.length cap,.int .i64 (pos:Nat),.bool out] 296 (0,0))
 own:Bytes w (some ⟨o,0,none⟩) l
 ne:g≠o
 lt:o<w.heap.size
theorem Vu{w:World}{g:Nat}{a b c d e:Value}{t:TypeId}{fr:Nat×Nat}(h:w.heap[g]? =some (.cells #[a,b,c,d,e] t fr)):w.cell? ⟨g,0,none⟩=some a:=by rw[cell_of_row _ _ _ _ _ _ h];rfl
theorem c51{w:World}{g:Nat}{a b c d e:Value}{t:TypeId}{fr:Nat×Nat}(h:w.heap[g]? =some (.cells #[a,b,c,d,e] t fr)):w.cell? ⟨g,1,none⟩=some b:=by rw[cell_of_row _ _ _ _ _ _ h];rfl
theorem c52{w:World}{g:Nat}{a b c d e:Value}{t:TypeId}{fr:Nat×Nat}(h:w.heap[g]? =some (.cells #[a,b,c,d,e] t fr)):w.cell? ⟨g,2,none⟩=some c:=by rw[cell_of_row _ _ _ _ _ _ h];rfl
theorem c53{w:World}{g:Nat}{a b c d e:Value}{t:TypeId}{fr:Nat×Nat}(h:w.heap[g]? =some (.cells #[a,b,c,d,e] t fr)):w.cell? ⟨g,3,none⟩=some d:=by rw[cell_of_row _ _ _ _ _ _ h];rfl
theorem c54{w:World}{g:Nat}{a b c d e:Value}{t:TypeId}{fr:Nat×Nat}(h:w.heap[g]? =some (.cells #[a,b,c,d,e] t fr)):w.cell? ⟨g,4,none⟩=some e:=by rw[cell_of_row _ _ _ _ _ _ h];rfl
theorem s50{w:World}{g:Nat}{a b c d e:Value}{t:TypeId}(h:w.heap[g]? =some (.cells #[a,b,c,d,e] t (0,0)))(u:Value):(w.setCell ⟨g,0,none⟩ u).heap[g]? =some (.cells #[u,b,c,d,e] t (0,0)):=by rw[heap_setCell_same w g 0 _ t u h];rfl
theorem s51{w:World}{g:Nat}{a b c d e:Value}{t:TypeId}(h:w.heap[g]? =some (.cells #[a,b,c,d,e] t (0,0)))(u:Value):(w.setCell ⟨g,1,none⟩ u).heap[g]? =some (.cells #[a,u,c,d,e] t (0,0)):=by rw[heap_setCell_same w g 1 _ t u h];rfl
theorem s53{w:World}{g:Nat}{a b c d e:Value}{t:TypeId}(h:w.heap[g]? =some (.cells #[a,b,c,d,e] t (0,0)))(u:Value):(w.setCell ⟨g,3,none⟩ u).heap[g]? =some (.cells #[a,b,c,u,e] t (0,0)):=by rw[heap_setCell_same w g 3 _ t u h];rfl
theorem s54{w:World}{g:Nat}{a b c d e:Value}{t:TypeId}(h:w.heap[g]? =some (.cells #[a,b,c,d,e] t (0,0)))(u:Value):(w.setCell ⟨g,4,none⟩ u).heap[g]? =some (.cells #[a,b,c,d,u] t (0,0)):=by rw[heap_setCell_same w g 4 _ t u h];rfl
theorem fJ{w:World}{o:Nat}{l:List UInt8}{p:Addr}(h:Bytes w (some ⟨o,0,none⟩) l)(hne:p.block≠o)(u:Value):Bytes (w.setCell p u) (some ⟨o,0,none⟩) l:=
 h.keep (by simp) fun q hq _=>by
  have hq':q.block=o:=by simpa using hq.symm
  exact World.cell?_setCell_far w p q u (by rw[hq'];exact hne)
theorem dZ.cell{w:World}{g o cap:Nat}{l:List UInt8}{x y pos:Nat}{out:Bool}(h:dZ w g o cap l x y pos out)(hp:pos<l.length):w.cell? ⟨o,pos,none⟩=some (.int .u8 (l[pos].toNat:Nat)):=by
 obtain⟨b,off,e,_,hc⟩:=h.own.addr (by omega)
 injection e with e;injection e with e1 e2;subst e1;subst e2
 have:=hc pos hp
 rw[Nat.zero_add]at this;exact this
theorem dZ.keep{w w':World}{g o cap:Nat}{l:List UInt8}{x y pos:Nat}{out:Bool}(h:dZ w g o cap l x y pos out)(hs:w.heap.size≤w'.heap.size)(hg:w'.heap[g]? =w.heap[g]?)(ho:w'.heap[o]? =w.heap[o]?):dZ w' g o cap l x y pos out:=
 ⟨hg.trans h.blk,h.own.keep hs fun q hq _=>by
  have hq':q.block=o:=by simpa using hq.symm
  unfold World.cell?;rw[hq',ho],h.ne,Nat.lt_of_lt_of_le h.lt hs⟩
theorem dZ.glt{w:World}{g o cap:Nat}{l:List UInt8}{x y pos:Nat}{out:Bool}(h:dZ w g o cap l x y pos out):g<w.heap.size:=block_lt_of_cell (Vu h.blk)
theorem dZ.below{w w':World}{g o cap:Nat}{l:List UInt8}{x y pos:Nat}{out:Bool}(h:dZ w g o cap l x y pos out)(hb:Below w.heap.size w w'):dZ w' g o cap l x y pos out:=
 h.keep hb.size (hb.block g h.glt) (hb.block o h.lt)
def Turned(w:World)(g o cap:Nat)(l:List UInt8)(v:Value)(x y pos:Nat)(out:Bool)(e:Ending)(w':World):Prop:=
 e= .returned v∧dZ w' g o cap l x y pos out∧Only [g] w w'
theorem aK(w:World):Below w.heap.size w w.drew:=(Below.refl _ _).drew
theorem RP(g o cap:Nat)(l:List UInt8)(x y pos:Nat)(w:World)(hE:dZ w g o cap l x y pos false)(hp:pos<l.length)(hl:l.length≤140737488355328):
  Calls Tryz.prog 266 #[.pointer (some ⟨g,0,none⟩)] w (Turned w g o cap l (B8 l[pos]) x y (pos+1) false):=by
 have k2:=c52 hE.blk
 have k3:=c53 hE.blk
 have hne:((pos:Int)==(l.length:Int))=false:=beq_eq_false_iff_ne.2 (by omega)
 have hpz:(pos:Int)<(l.length:Int):=by omega
 have hc:=hE.cell hp
 generalize(l[pos])=Nu at*
 generalize hL:l.length=L at*
 have HL:=Lib.hid hL
 clear hL
 go_enter Tryz.func266,Tryz.ntmps266
 go_wp2_with fail
 refine wp_region_held_drew (S:=fun w'=>w'.cell? ⟨g,2,none⟩=some (.slice (some ⟨o,0,none⟩) L cap)∧w'.cell? ⟨g,3,none⟩=some (.int .i64 (pos:Nat))) (by kernel_rfl) ⟨k2,k3⟩ (fun hS=> ?_)
 refine tq 0 hS ?_
 refine tq 1 hS ?_
 refine tq 2 hS ?_
 refine tp 3 rfl (fun w hSw=>by obtain⟨j2,j3⟩:=hSw;go_simp;all_goals(with_reducible rfl)) hS ?_
 refine tq 4 hS ?_
 refine tq 5 hS ?_
 refine tq 6 hS ?_
 refine tp 7 rfl (fun w hSw=>by obtain⟨j2,j3⟩:=hSw;go_simp;all_goals(with_reducible rfl)) hS ?_
 refine tq 8 hS ?_
 refine tq 9 hS ?_
 refine wpAnyH_done (by kernel_rfl) ?_ _
 have Hz:=hE.below (aK w)
 have VW:Only [g] w w.drew:=(Only.refl _ _).drew
 have hcd:w.drew.cell? ⟨o,pos,none⟩=some (B8 Nu):=hc
 clear hE k2 k3 hc
 generalize w.drew=wd at*
 have k2:=c52 Hz.blk
 have k3:=c53 Hz.blk
 have f3:=frozen_of_row wd g 3 _ _ Hz.blk
 rw[HL.out]at k2
 have hE1:dZ (wd.setCell ⟨g,3,none⟩ (.int .i64 ((pos+1:Nat):Int))) g o cap l x y (pos+1) false:=⟨s53 Hz.blk _,fJ Hz.own Hz.ne _,Hz.ne,by simpa using Hz.lt⟩
 have hon:Only [g] w (wd.setCell ⟨g,3,none⟩ (.int .i64 ((pos+1:Nat):Int))):=VW.setCell (.inl (by simp)) _
 have kc:(wd.setCell ⟨g,3,none⟩ (.int .i64 ((pos+1:Nat):Int))).cell? ⟨o,pos,none⟩=some (B8 Nu):=(World.cell?_setCell_far wd _ _ _ Hz.ne).trans hcd
 have q2:=c52 hE1.blk
 have q3:=c53 hE1.blk
 have hsum:((pos+1:Nat):Int)=(pos:Int)+1:=by omega
 rw[hsum]at hon kc q2 q3
 rw[HL.out]at q2
 have hE2:dZ (wd.setCell ⟨g,3,none⟩ (.int .i64 ((pos:Int)+1))) g o cap l x y (pos+1) false:=by rw[←hsum];exact hE1
 clear hE1 hsum
 generalize hw1:wd.setCell ⟨g,3,none⟩ (.int .i64 ((pos:Int)+1))=w1 at*
 have HW1:=Lib.hid hw1
 clear hw1
 go_upto_region 5 with(fail)
 rw[HW1.out]
 clear k2 k3 f3 hcd VW Hz HW1
 have hwp:IntKind.i64.wrap (pos:Int)=(pos:Int):=IntWalk.i64_in _ (by omega)
 refine wp_region_held_drew (S:=fun w'=>w'.cell? ⟨g,2,none⟩=some (.slice (some ⟨o,0,none⟩) L cap)∧w'.cell? ⟨g,3,none⟩=some (.int .i64 ((pos:Int)+1))∧w'.cell? ⟨o,pos,none⟩=some (B8 Nu)) (by kernel_rfl) ⟨q2,q3,kc⟩ (fun hS=> ?_)
 refine tq 0 hS ?_
 refine tq 1 hS ?_
 refine tq 2 hS ?_
 refine tp 3 rfl (fun w hSw=>by obtain⟨j2,j3,j4⟩:=hSw;go_simp;all_goals(with_reducible rfl)) hS ?_
 refine tq 4 hS ?_
 refine tq 5 hS ?_
 refine tq 6 hS ?_
 refine tp 7 rfl (fun w hSw=>by obtain⟨j2,j3,j4⟩:=hSw;go_simp;all_goals(with_reducible rfl)) hS ?_
 refine tq 8 hS ?_
 refine tq 9 hS ?_
 refine tp 10 rfl (fun w hSw=>by obtain⟨j2,j3,j4⟩:=hSw;go_simp;all_goals(with_reducible rfl)) hS ?_
 refine tq 11 hS ?_
 refine wpAnyH_done (by kernel_rfl) ?_ _
 go_wp2_with fail
 go_ret
 exact⟨rfl,hE2.below (aK _),hon.drew⟩
theorem VX(g o cap:Nat)(l:List UInt8)(x y:Nat)(w:World)(hE:dZ w g o cap l x y l.length false):
  Calls Tryz.prog 266 #[.pointer (some ⟨g,0,none⟩)] w (Turned w g o cap l (.int .u8 0) x y l.length true):=by
 have k2:=c52 hE.blk
 have k3:=c53 hE.blk
 have Hz:=hE.below (aK w)
 have VW:Only [g] w w.drew:=(Only.refl _ _).drew
 have f4:=frozen_of_row w.drew g 4 _ _ Hz.blk
 have k4:=c54 Hz.blk
 have hE1:dZ (w.drew.setCell ⟨g,4,none⟩ (.bool true)) g o cap l x y l.length true:=⟨s54 Hz.blk _,fJ Hz.own Hz.ne _,Hz.ne,by simpa using Hz.lt⟩
 have hon:Only [g] w (w.drew.setCell ⟨g,4,none⟩ (.bool true)):=VW.setCell (.inl (by simp)) _
 generalize hL:l.length=L at*
 have HL:=Lib.hid hL
 clear hL Hz VW
 go_enter Tryz.func266,Tryz.ntmps266
 go_wp2_with fail
 refine wp_region_held_drew (S:=fun w'=>w'.cell? ⟨g,2,none⟩=some (.slice (some ⟨o,0,none⟩) L cap)∧w'.cell? ⟨g,3,none⟩=some (.int .i64 (L:Nat))) (by kernel_rfl) ⟨k2,k3⟩ (fun hS=> ?_)
 refine tq 0 hS ?_
 refine tq 1 hS ?_
 refine tq 2 hS ?_
 refine tp 3 rfl (fun w hSw=>by obtain⟨j2,j3⟩:=hSw;go_simp;all_goals(with_reducible rfl)) hS ?_
 refine tq 4 hS ?_
 refine tq 5 hS ?_
 refine tq 6 hS ?_
 refine tp 7 rfl (fun w hSw=>by obtain⟨j2,j3⟩:=hSw;go_simp;all_goals(with_reducible rfl)) hS ?_
 refine tq 8 hS ?_
 refine tq 9 hS ?_
 refine wpAnyH_done (by kernel_rfl) ?_ _
 clear hE k2 k3
 generalize w.drew=wd at*
 go_wp2_with fail
 go_ret
 exact⟨rfl,hE1,hon⟩
def ku(w:World)(g o cap:Nat)(l:List UInt8)(s:Rd.St):Prop:= ∃x y:Nat,(s.out=false→x=s.c∧y=s.r)∧dZ w g o cap l x y s.pos s.out
theorem Only.H7{X:List Nat}{a b:World}(h:Only X a.drew b):Only X a b:=⟨h.os,h.tape,h.output,h.size,h.block⟩
def Moved(w:World)(g o cap:Nat)(l:List UInt8)(s:Rd.St)(w':World):Prop:=ku w' g o cap l s∧Only [g] w w'
theorem aeh(c b:Nat)(hb:b<256):c*256%4294967296 ||| b=(256*c+b)%4294967296:=by
 have e1:c*256%4294967296=(c%16777216) <<< 8:=by rw[Nat.shiftLeft_eq];omega
 rw[e1,←Nat.shiftLeft_add_eq_or_of_lt (by simpa using hb),Nat.shiftLeft_eq];omega
theorem uD(c b:Nat)(hb:b<256):bits .or .u32 (IntKind.u32.wrap ((c:Int)*256)) (IntKind.u32.wrap (b:Int))=(((256*c+b)%4294967296:Nat):Int):=by
 have e1:IntKind.u32.wrap ((c:Int)*256)=((c*256%4294967296:Nat):Int):=by rw[IntKind.wrap_u32];omega
 have e2:IntKind.u32.wrap (b:Int)=(b:Int):=by rw[IntKind.wrap_u32];omega
 rw[e1,e2,u32_or_nat _ _ (Nat.mod_lt _ (by omega)) (by omega),aeh _ _ hb]
theorem qm(N g o cap:Nat)(l:List UInt8)(s:Rd.St)(w:World)(hE:ku w g o cap l s)(hf:s.fits l)(hl:l.length≤140737488355328)(hr:s.out=false→16777216≤s.r*256^N):
  Calls Tryz.prog 264 #[.pointer (some ⟨g,0,none⟩)] w (Did (Moved w g o cap l (Rd.scale l N s))):=by
 go_enter Tryz.func264,Tryz.ntmps264
 go_wp2_with fail
 go_loopg [16] N (fun gk s16 wr=> ∃(t:Rd.St),ku wr g o cap l t∧t.fits l∧Hid (t.out=false→16777216≤t.r*256^gk)∧Hid (Rd.scale l N s=Rd.scale l gk t)∧Only [g] w wr)
 case atStart=>exact⟨s,hE,hf,hr,rfl,Only.refl _ _⟩
 case round=>
  obtain⟨t,⟨x,y,hxy,hT⟩,hft,hrt,hsc,hon⟩:=hrel
  clear hE hf hr
  obtain⟨pos,c,r,out⟩:=t
  have k0:=Vu hT.blk
  have k1:=c51 hT.blk
  have k2:=c52 hT.blk
  have k3:=c53 hT.blk
  have k4:=c54 hT.blk
  have f0:=frozen_of_row wr g 0 _ _ hT.blk
  have f1:=frozen_of_row wr g 1 _ _ hT.blk
  simp only at k0 k1 k2 k3 k4
  cases out with
  | true=>
   have hst:Rd.scale l gk ⟨pos,c,r,true⟩=⟨pos,c,r,true⟩:=Rd.pq rfl
   have HST:=Lib.hid (hsc.out.trans hst)
   clear hst hxy hrt hsc hft
   by_cases hy:y<16777216
   ·have hy':(y:Int)<16777216:=by omega
    go_wp2_with fail
    go_end0
    exact⟨rfl,by rw[HST.out];exact⟨x,y,by simp,hT⟩,hon⟩
   ·have hy': ¬(y:Int)<16777216:=by omega
    go_wp2_with fail
    go_end0
    exact⟨rfl,by rw[HST.out];exact⟨x,y,by simp,hT⟩,hon⟩
  | false=>
   obtain rfl:c=x:=(hxy rfl).1.symm
   obtain rfl:r=y:=(hxy rfl).2.symm
   simp only at hT k0 k1 hft
   by_cases hy:r<16777216
   ·have hy':(r:Int)<16777216:=by omega
    cases gk with
    | zero=>have:=hrt.out rfl;simp at this;omega
    | succ gk=>
     have hstep:=Rd.vT (l:=l) (N:=gk) (s:=⟨pos,c,r,false⟩) rfl hy
     have HST:=Lib.hid (hsc.out.trans hstep)
     clear hstep
     have hT1:dZ (wr.setCell ⟨g,1,none⟩ (.int .u32 ((r*256:Nat):Int))) g o cap l c (r*256) pos false:=⟨s51 hT.blk _,fJ hT.own hT.ne _,hT.ne,by simpa using hT.lt⟩
     have kG:Only [g] w (wr.setCell ⟨g,1,none⟩ (.int .u32 ((r*256:Nat):Int))):=hon.setCell (.inl (by simp)) _
     have hmul:((r*256:Nat):Int)=(r:Int)*256:=by omega
     rw[hmul]at kG
     have hT2:dZ (wr.setCell ⟨g,1,none⟩ (.int .u32 ((r:Int)*256))) g o cap l c (r*256) pos false:=by rw[←hmul];exact hT1
     clear hT1
     generalize hw1:wr.setCell ⟨g,1,none⟩ (.int .u32 ((r:Int)*256))=w1 at*
     have HW1:=Lib.hid hw1
     have hnx:16777216≤r*256*256^gk:=by
      have:=hrt.out rfl
      rw[Nat.pow_succ,Nat.mul_comm (256^gk),←Nat.mul_assoc]at this;exact this
     have qR:=Lib.hid hnx
     clear hw1 hmul hxy hrt hsc hnx
     go_upto_region 3 with(fail)
     rw[HW1.out]
     have k0d:w1.drew.cell? ⟨g,0,none⟩=some (.int .u32 (c:Nat)):=Vu hT2.blk
     clear k0 k1 k2 k3 k4 f0 f1 hT HW1 hon
     by_cases hp:pos<l.length
     ·have hcall:=Lib.hid (RP g o cap l c (r*256) pos w1.drew (hT2.below (aK _)) hp hl)
      refine wp_region_held_drew (S:=fun _=>True) (by kernel_rfl) trivial (fun hS=> ?_)
      refine tq 0 hS ?_
      refine tq 1 hS ?_
      refine tq 2 hS ?_
      refine tq 3 hS ?_
      refine tq 6 hS ?_
      refine wpAnyH_ready (rs:=[4,7]) (by kernel_rfl) (by simp) ?_
      refine(AllReadyH.cons (o:={dst:=some 28,op:=Op.load 24 (Operand.tmp 27),type:=24,pos:= "rcdec.go:102",after:= #[{on:=3,ground:=Ground.data}],guard:=none}) rfl (fun K hK=> ?_) (AllReadyH.cons (o:={dst:=some 31,op:=Op.call {callee:=Callee.value (Operand.tmp 30),args:= #[],argTypes:= #[]},type:=5,pos:= "rcdec.go:102",after:= #[{on:=6,ground:=Ground.data}],guard:=none}) rfl (fun K hK=> ?_) AllReadyH.nil))
      ·skip
       go_simp
       refine hK.out _ _ trivial (fun _=> ?_)
       clear hK K
       refine tq 5 trivial ?_
       refine tr 7 (fun K hK=> ?_)
       go_simp
       refine hcall.out.mono ?_
       rintro e w3 ⟨rfl,oU,eU⟩
       have hj:=Vu oU.blk
       have fj:=frozen_of_row w3 g 0 _ _ oU.blk
       go_wp2_with fail
       refine hK.out _ _ trivial (fun _=> ?_)
       clear hK K
       refine tq 8 trivial ?_
       refine tq 9 trivial ?_
       refine tq 10 trivial ?_
       refine tq 11 trivial ?_
       refine tr 12 (fun K hK=> ?_)
       go_simp
       refine hK.out _ _ trivial (fun _=> ?_)
       clear hK K
       refine wpAnyH_done (by kernel_rfl) ?_ _
       have hbl:(l[pos]).toNat<256:=(l[pos]).toNat_lt
       rw[uD c (l[pos]).toNat hbl]
       have hfn:=Rd.pz hft hy
       have hnx:=Rd.wZ (l:=l) (s:=⟨pos,c,r,false⟩) hp
       rw[hnx]at hfn HST
       simp only at hfn HST
       generalize(256*c+(l[pos]).toNat)%4294967296=C at*
       have hT4:dZ (w3.setCell ⟨g,0,none⟩ (.int .u32 (C:Nat))) g o cap l C (r*256) (pos+1) false:=⟨s50 oU.blk _,fJ oU.own oU.ne _,oU.ne,by simpa using oU.lt⟩
       have kH:Only [g] w (w3.setCell ⟨g,0,none⟩ (.int .u32 (C:Nat))):=(kG.trans (eU.H7) (by simp)).setCell (.inl (by simp)) _
       clear hnx hcall oU eU hj fj k0d hT2 kG
       go_wp2_with fail
       go_roundg gk
       case measure=>omega
       case rel=>exact⟨⟨pos+1,C,r*256,false⟩,⟨C,r*256,fun _=>⟨rfl,rfl⟩,hT4⟩,hfn,fun _=>qR.out,HST.out,kH⟩
      ·skip
       go_simp
       refine hcall.out.mono ?_
       rintro e w3 ⟨rfl,oU,eU⟩
       have hj:=Vu oU.blk
       have fj:=frozen_of_row w3 g 0 _ _ oU.blk
       go_wp2_with fail
       refine hK.out _ _ trivial (fun _=> ?_)
       clear hK K
       refine tq 8 trivial ?_
       refine tr 4 (fun K hK=> ?_)
       go_simp
       refine hK.out _ _ trivial (fun _=> ?_)
       clear hK K
       refine tq 5 trivial ?_
       refine tq 9 trivial ?_
       refine tq 10 trivial ?_
       refine tq 11 trivial ?_
       refine tr 12 (fun K hK=> ?_)
       go_simp
       refine hK.out _ _ trivial (fun _=> ?_)
       clear hK K
       refine wpAnyH_done (by kernel_rfl) ?_ _
       have hbl:(l[pos]).toNat<256:=(l[pos]).toNat_lt
       rw[uD c (l[pos]).toNat hbl]
       have hfn:=Rd.pz hft hy
       have hnx:=Rd.wZ (l:=l) (s:=⟨pos,c,r,false⟩) hp
       rw[hnx]at hfn HST
       simp only at hfn HST
       generalize(256*c+(l[pos]).toNat)%4294967296=C at*
       have hT4:dZ (w3.setCell ⟨g,0,none⟩ (.int .u32 (C:Nat))) g o cap l C (r*256) (pos+1) false:=⟨s50 oU.blk _,fJ oU.own oU.ne _,oU.ne,by simpa using oU.lt⟩
       have kH:Only [g] w (w3.setCell ⟨g,0,none⟩ (.int .u32 (C:Nat))):=(kG.trans (eU.H7) (by simp)).setCell (.inl (by simp)) _
       clear hnx hcall oU eU hj fj k0d hT2 kG
       go_wp2_with fail
       go_roundg gk
       case measure=>omega
       case rel=>exact⟨⟨pos+1,C,r*256,false⟩,⟨C,r*256,fun _=>⟨rfl,rfl⟩,hT4⟩,hfn,fun _=>qR.out,HST.out,kH⟩
     ·obtain rfl:l.length=pos:=by have:pos≤l.length:=hft.1;omega
      have hcall:=Lib.hid (VX g o cap l c (r*256) w1.drew (hT2.below (aK _)))
      refine wp_region_held_drew (S:=fun _=>True) (by kernel_rfl) trivial (fun hS=> ?_)
      refine tq 0 hS ?_
      refine tq 1 hS ?_
      refine tq 2 hS ?_
      refine tq 3 hS ?_
      refine tq 6 hS ?_
      refine wpAnyH_ready (rs:=[4,7]) (by kernel_rfl) (by simp) ?_
      refine(AllReadyH.cons (o:={dst:=some 28,op:=Op.load 24 (Operand.tmp 27),type:=24,pos:= "rcdec.go:102",after:= #[{on:=3,ground:=Ground.data}],guard:=none}) rfl (fun K hK=> ?_) (AllReadyH.cons (o:={dst:=some 31,op:=Op.call {callee:=Callee.value (Operand.tmp 30),args:= #[],argTypes:= #[]},type:=5,pos:= "rcdec.go:102",after:= #[{on:=6,ground:=Ground.data}],guard:=none}) rfl (fun K hK=> ?_) AllReadyH.nil))
      ·skip
       go_simp
       refine hK.out _ _ trivial (fun _=> ?_)
       clear hK K
       refine tq 5 trivial ?_
       refine tr 7 (fun K hK=> ?_)
       go_simp
       refine hcall.out.mono ?_
       rintro e w3 ⟨rfl,oU,eU⟩
       have hj:=Vu oU.blk
       have fj:=frozen_of_row w3 g 0 _ _ oU.blk
       go_wp2_with fail
       refine hK.out _ _ trivial (fun _=> ?_)
       clear hK K
       refine tq 8 trivial ?_
       refine tq 9 trivial ?_
       refine tq 10 trivial ?_
       refine tq 11 trivial ?_
       refine tr 12 (fun K hK=> ?_)
       go_simp
       refine hK.out _ _ trivial (fun _=> ?_)
       clear hK K
       refine wpAnyH_done (by kernel_rfl) ?_ _
       have h0:bits .or .u32 (IntKind.u32.wrap ((c:Int)*256)) (IntKind.u32.wrap 0)=(((256*c+0)%4294967296:Nat):Int):=uD c 0 (by omega)
       rw[h0]
       have hfn:=Rd.pz hft hy
       have hnx:=Rd.rU (l:=l) (s:=⟨l.length,c,r,false⟩) hp
       rw[hnx]at hfn HST
       simp only at hfn HST
       generalize(256*c+0)%4294967296=C at*
       have hT4:dZ (w3.setCell ⟨g,0,none⟩ (.int .u32 (C:Nat))) g o cap l C (r*256) l.length true:=⟨s50 oU.blk _,fJ oU.own oU.ne _,oU.ne,by simpa using oU.lt⟩
       have kH:Only [g] w (w3.setCell ⟨g,0,none⟩ (.int .u32 (C:Nat))):=(kG.trans (eU.H7) (by simp)).setCell (.inl (by simp)) _
       clear hnx hcall oU eU hj fj k0d hT2 kG h0
       go_wp2_with fail
       go_roundg gk
       case measure=>omega
       case rel=>exact⟨⟨l.length,0,0,true⟩,⟨C,r*256,(fun h=>by cases h),hT4⟩,hfn,(fun h=>by cases h),HST.out,kH⟩
      ·skip
       go_simp
       refine hcall.out.mono ?_
       rintro e w3 ⟨rfl,oU,eU⟩
       have hj:=Vu oU.blk
       have fj:=frozen_of_row w3 g 0 _ _ oU.blk
       go_wp2_with fail
       refine hK.out _ _ trivial (fun _=> ?_)
       clear hK K
       refine tq 8 trivial ?_
       refine tr 4 (fun K hK=> ?_)
       go_simp
       refine hK.out _ _ trivial (fun _=> ?_)
       clear hK K
       refine tq 5 trivial ?_
       refine tq 9 trivial ?_
       refine tq 10 trivial ?_
       refine tq 11 trivial ?_
       refine tr 12 (fun K hK=> ?_)
       go_simp
       refine hK.out _ _ trivial (fun _=> ?_)
       clear hK K
       refine wpAnyH_done (by kernel_rfl) ?_ _
       have h0:bits .or .u32 (IntKind.u32.wrap ((c:Int)*256)) (IntKind.u32.wrap 0)=(((256*c+0)%4294967296:Nat):Int):=uD c 0 (by omega)
       rw[h0]
       have hfn:=Rd.pz hft hy
       have hnx:=Rd.rU (l:=l) (s:=⟨l.length,c,r,false⟩) hp
       rw[hnx]at hfn HST
       simp only at hfn HST
       generalize(256*c+0)%4294967296=C at*
       have hT4:dZ (w3.setCell ⟨g,0,none⟩ (.int .u32 (C:Nat))) g o cap l C (r*256) l.length true:=⟨s50 oU.blk _,fJ oU.own oU.ne _,oU.ne,by simpa using oU.lt⟩
       have kH:Only [g] w (w3.setCell ⟨g,0,none⟩ (.int .u32 (C:Nat))):=(kG.trans (eU.H7) (by simp)).setCell (.inl (by simp)) _
       clear hnx hcall oU eU hj fj k0d hT2 kG h0
       go_wp2_with fail
       go_roundg gk
       case measure=>omega
       case rel=>exact⟨⟨l.length,0,0,true⟩,⟨C,r*256,(fun h=>by cases h),hT4⟩,hfn,(fun h=>by cases h),HST.out,kH⟩
   ·have hy': ¬(r:Int)<16777216:=by omega
    have hst:Rd.scale l gk ⟨pos,c,r,false⟩=⟨pos,c,r,false⟩:=Rd.yP hy
    have HST:=Lib.hid (hsc.out.trans hst)
    clear hst hxy hrt hsc hy hft
    go_wp2_with fail
    go_end0
    exact⟨rfl,by rw[HST.out];exact⟨c,r,fun _=>⟨rfl,rfl⟩,hT⟩,hon⟩
end Go.Proofs.YtgfpocdiojifoaaGreatDoor
