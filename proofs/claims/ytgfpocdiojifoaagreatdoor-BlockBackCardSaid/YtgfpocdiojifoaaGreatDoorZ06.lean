import Derived.Test.YtgfpocdiojifoaaGreatDoorZ05
import Derived.Laws.CopyRow
import Derived.Laws.BitsLemmas
namespace Go.Proofs.YtgfpocdiojifoaaGreatDoor
set_option maxRecDepth 100000
set_option maxHeartbeats 8000000
open Go.RowKit
section
theorem jT{P:Program}{ops:Array Oper}{o:Oper}{a:Act}{w:World}{K:Act→World→Prop}{Q:Exit→Act→World→Prop}{E:Prop}(hgd:o.guard=none)(d s:Operand)(dT sT:TypeId)
  (ho:o.op= .call {callee:= .builtin .copy,args:= #[d,s],argTypes:= #[dT,sT]}) (elem:TypeId) (hu:P.underlying dT=some (.slice elem)) (hsz:(P.info? elem).map (·.size)=some 1)
  (g off RX n dCap sCap:Nat) (hd:a.eval d= .slice (some ⟨g,off,none⟩) n dCap) (hs:a.eval s= .slice (some ⟨g,RX,none⟩) n sCap) (cur:List Value) (t:TypeId) (hg:w.heap[g]? =some (.cells cur.toArray t (0,0)))
  (cs:List Value) (hn:cs.length=n) (hsrc: ∀j,j<cs.length→cs[j]? =cur[RX+j]?) (hfit:off+cs.length≤cur.length) (h1: ∀v∈cs,v.oneCell'=true)
  (h: ∀w',w'.heap[g]? =some (.cells (cur.take off++cs++cur.drop (off+cs.length)).toArray t (0,0))→Only [g] w w'→K (a.put o.dst (goInt cs.length)) w'):
  if Region.wanted o (yielded ops a.tmps)=true then Oper.wp P o a w K Q else E:=by
 have hw:Region.wanted o (yielded ops a.tmps)=true:=by simp[Region.wanted,hgd]
 rw[if_pos hw]
 by_cases h0:cs.length=0
 ·obtain rfl:cs=[]:=List.eq_nil_of_length_eq_zero h0
  have hrun:=run_copy_none (P:=P) w dT sT o.type elem (some ⟨g,off,none⟩) (some ⟨g,RX,none⟩) n dCap n sCap hu hsz (by simp at hn;rw[←hn];rfl)
  unfold Oper.wp
  simp[execOp,ho,resolve,invoke,builtin,hd,hs,hrun,Result.andThen]
  exact h w (by simpa using hg) (Only.refl _ _)
 ·have hrun:=run_copy_row (P:=P) w dT sT o.type elem g off n dCap ⟨g,RX,none⟩ n sCap cur.toArray t cs hu hsz hg (by rw[hn];exact(Nat.min_self n).symm) (by
   intro j v hj
   have hjl:j<cs.length:=(List.getElem?_eq_some_iff.1 hj).1
   have e:((⟨g,RX,none⟩:Addr).add j)=⟨g,RX+j,none⟩:=by unfold Addr.add;split<;>simp_all
   rw[e,cell_of_row w g _ _ _ _ hg,List.getElem?_toArray,←hsrc j hjl,hj]) (by simpa using hfit) h1
  unfold Oper.wp
  simp[execOp,ho,resolve,invoke,builtin,hd,hs,hrun,Result.andThen]
  refine h _ (by simpa using setRow_heap w g _ _ t _ hg) ⟨rfl,rfl,rfl,by simp,fun i _ hX=>setRow_other w g i _ (by simpa using hX)⟩
section
variable{w w':World}{C L lc lp pb st st':Nat}{r r':R4}{P:Nat→Nat}
theorem bg.AZ(h:bg w C L lc lp pb st r P){T:List Value}(hT:w.heap[C]? =some (.cells (dD lc lp pb st r++T).toArray 146 (0,0)))(hT':w'.heap[C]? =some (.cells (dD lc lp pb st' r'++T).toArray 146 (0,0)))(hL:w'.heap[L]? =w.heap[L]?):bg w' C L lc lp pb st' r' P:=by
 obtain⟨T2,hT2,hTl⟩:=h.box
 obtain⟨l,hl,hll⟩:=h.lits
 have hTT:T.length=2053:=by
  rw[hT]at hT2
  injection hT2 with h1
  injection h1 with h1 _ _
  have:=congrArg Array.size h1
  simp at this
  omega
 have hsame: ∀k,8≤k→w'.cell? ⟨C,k,none⟩=w.cell? ⟨C,k,none⟩:=fun k hk=>by
  rw[cell_of_row w' _ _ _ _ _ hT',cell_of_row w _ _ _ _ _ hT,List.getElem?_toArray,List.getElem?_toArray,List.getElem?_append_right (by simpa using hk),List.getElem?_append_right (by simpa using hk)];rfl
 refine⟨⟨T,hT',hTT⟩,⟨l,hL.trans hl,hll⟩,(hsame 440 (by decide)).trans h.lit,h.ne,fun i hi=> ?_,h.fair⟩
 obtain⟨c,hc,he⟩:=h.chance i hi
 refine⟨c,?_,he⟩
 rw[←hc]
 by_cases h3:i<2180
 ·have ha:Md.rG C L i=⟨C,Md.iT i,none⟩:=by unfold Md.rG Md.jm;rw[if_pos h3]
  rw[ha]
  exact hsame _ (by unfold Md.iT Md.used at*;by_cases a1:i<432<;>by_cases a2:i<1844<;>simp only[a1,a2,h3,if_true,if_false]<;>omega)
 ·have ha:Md.rG C L i=⟨L,Md.iT i,none⟩:=by unfold Md.rG Md.jm;rw[if_neg h3]
  rw[ha]
  unfold World.cell?
  rw[hL]
end
theorem Ba(g n:Nat)(h:n≤3)(w:World):(Instr.sliceAt 127 (.pointer (some ⟨g,4,none⟩)) (some (.int .i64 1)) (some (.int .i64 (n+1:Nat))) none).run Tryz.prog w= .ok (.slice (some ⟨g,5,none⟩) n 3) w:=by
 have hs:(sizeOf (Tryz.prog.elem 127)).run Tryz.prog w= .ok 1 w:=by kernel_rfl
 rw[run_sliceAt_array_lh w 127 ⟨g,4,none⟩ aaM .i64 .i64 1 (n+1:Nat) (by decide) (by omega) (by rw[JC];omega),hs,JC]
 simp only[Result.andThen,slicedAt,Int.toNat_natCast,Nat.mul_one]
 rw[if_neg (by decide),show(1:Int).toNat=1 from rfl,Addr.add_mid,Nat.add_sub_cancel]
theorem Ie(g n:Nat)(h:n≤4)(w:World):(Instr.sliceAt 127 (.pointer (some ⟨g,4,none⟩)) none (some (.int .i64 (n:Nat))) none).run Tryz.prog w= .ok (.slice (some ⟨g,4,none⟩) n 4) w:=by
 have hs:(sizeOf (Tryz.prog.elem 127)).run Tryz.prog w= .ok 1 w:=by kernel_rfl
 rw[run_sliceAt_array_h w 127 ⟨g,4,none⟩ aaM .i64 (n:Nat) (by omega) (by rw[JC];omega),hs,JC]
 simp only[Result.andThen,slicedAt,Int.toNat_natCast,Nat.mul_one,Nat.sub_zero]
 rw[if_neg (by decide)]
 simp[Addr.add]
def aS(r:R4)(which:Nat)(d:Int):R4:=match which with
 | 0=>(d,r.2.1,r.2.2.1,r.2.2.2)
 | 1=>(d,r.1,r.2.2.1,r.2.2.2)
 | 2=>(d,r.1,r.2.1,r.2.2.2)
 | _=>(d,r.1,r.2.1,r.2.2.1)
def pF(C L lc lp pb st:Nat)(r:R4)(P:Nat→Nat)(w:World)(e:Ending)(w':World):Prop:=e= .returned (.tuple #[])∧bg w' C L lc lp pb st r P∧Only [C] w w'
theorem aaW{C L lc lp pb st:Nat}{r:R4}{P:Nat→Nat}{w:World}(hM:bg w C L lc lp pb st r P)(d:Int):Calls Tryz.prog 226 #[PF C,.int .i64 0,.int .i64 d] w (pF C L lc lp pb st (d,r.2.1,r.2.2.1,r.2.2.2) P w):=by
 obtain⟨T,hT,hTl⟩:=hM.box
 have HT:=Lib.hid hT
 have HTL:=Lib.hid hTl
 have HM:=Lib.hid hM
 have q1: ∀w,(Instr.sliceAt 127 (.pointer (some ⟨C,4,none⟩)) (some (.int .i64 1)) (some (.int .i64 1)) none).run Tryz.prog w= .ok (.slice (some ⟨C,5,none⟩) 0 3) w:=fun w=>Ba C 0 (by decide) w
 have q2: ∀w,(Instr.sliceAt 127 (.pointer (some ⟨C,4,none⟩)) none (some (.int .i64 0)) none).run Tryz.prog w= .ok (.slice (some ⟨C,4,none⟩) 0 4) w:=fun w=>Ie C 0 (by decide) w
 have hwr:IntKind.i64.wrap 1=1:=by decide
 have zO:w.drew.heap[C]? =some (.cells (dD lc lp pb st r++T).toArray 146 (0,0)):=hT
 have hlen:(dD lc lp pb st r++T).length=2061:=by simp[hTl]
 have hfit:5+0≤(dD lc lp pb st r++T).length:=by omega
 clear hM hT hTl hlen
 go_enter Tryz.func226,Tryz.ntmps226
 go_upto_region 0 with fail
 refine wp_region_held_drew (S:=fun _=>True) (by kernel_rfl) trivial (fun hS=> ?_)
 refine tq 0 hS ?_
 refine tq 1 hS ?_
 refine tq 2 hS ?_
 refine tq 3 hS ?_
 refine tq 4 hS ?_
 refine tq 5 hS ?_
 refine tq 6 hS ?_
 refine tq 7 hS ?_
 refine tq 8 hS ?_
 refine tq 9 hS ?_
 refine tq 10 hS ?_
 refine tr 11 (fun K hK=> ?_)
 refine jT rfl (.tmp 11) (.tmp 16) 147 147 rfl 3 Tryz.underlying147 (by kernel_rfl) C 5 4 0 _ _ rfl rfl (dD lc lp pb st r++T) 146 zO ([]) rfl (by simp) hfit (by simp) ?_
 intro w4 hg4 fE
 simp only[Act.put]
 refine hK.out _ _ trivial (fun _=> ?_)
 clear hK K
 refine wpAnyH_done (by kernel_rfl) ?_ _
 have hg5:w4.heap[C]? =some (.cells (dD lc lp pb st (r.1,r.2.1,r.2.2.1,r.2.2.2)++T).toArray 146 (0,0)):=hg4
 have hon:Only [C] w w4:=⟨fE.os,fE.tape,fE.output,fE.size,fE.block⟩
 have hm4:bg w4 C L lc lp pb st (r.1,r.2.1,r.2.2.1,r.2.2.2) P:=HM.out.AZ HT.out hg5 (hon.block L HM.out.BN (by simp;exact fun e=>HM.out.ne e.symm))
 obtain⟨_,_,_,_,c4,_⟩:=hm4.cells
 have f4:=hm4.kS 4
 have JV:=Lib.hid hm4
 have lW:=Lib.hid hon
 clear zO hfit hg4 fE hg5 hon hm4 q1 q2 hwr
 go_wp2_with fail
 refine bodyPost_ret_by (results_none rfl _ _ _) rfl ⟨rfl,?_,?_⟩
 ·exact JV.out.setHead (k:=4) (st':=st) (r':=(d,r.2.1,r.2.2.1,r.2.2.2)) (by decide) rfl
 ·exact lW.out.setCell (p:=⟨C,4,none⟩) (.inl (by simp)) _
theorem aaX{C L lc lp pb st:Nat}{r:R4}{P:Nat→Nat}{w:World}(hM:bg w C L lc lp pb st r P)(d:Int):Calls Tryz.prog 226 #[PF C,.int .i64 1,.int .i64 d] w (pF C L lc lp pb st (d,r.1,r.2.2.1,r.2.2.2) P w):=by
 obtain⟨T,hT,hTl⟩:=hM.box
 have HT:=Lib.hid hT
 have HTL:=Lib.hid hTl
 have HM:=Lib.hid hM
 have q1: ∀w,(Instr.sliceAt 127 (.pointer (some ⟨C,4,none⟩)) (some (.int .i64 1)) (some (.int .i64 2)) none).run Tryz.prog w= .ok (.slice (some ⟨C,5,none⟩) 1 3) w:=fun w=>Ba C 1 (by decide) w
 have q2: ∀w,(Instr.sliceAt 127 (.pointer (some ⟨C,4,none⟩)) none (some (.int .i64 1)) none).run Tryz.prog w= .ok (.slice (some ⟨C,4,none⟩) 1 4) w:=fun w=>Ie C 1 (by decide) w
 have hwr:IntKind.i64.wrap 2=2:=by decide
 have zO:w.drew.heap[C]? =some (.cells (dD lc lp pb st r++T).toArray 146 (0,0)):=hT
 have hlen:(dD lc lp pb st r++T).length=2061:=by simp[hTl]
 have hfit:5+1≤(dD lc lp pb st r++T).length:=by omega
 clear hM hT hTl hlen
 go_enter Tryz.func226,Tryz.ntmps226
 go_upto_region 0 with fail
 refine wp_region_held_drew (S:=fun _=>True) (by kernel_rfl) trivial (fun hS=> ?_)
 refine tq 0 hS ?_
 refine tq 1 hS ?_
 refine tq 2 hS ?_
 refine tq 3 hS ?_
 refine tq 4 hS ?_
 refine tq 5 hS ?_
 refine tq 6 hS ?_
 refine tq 7 hS ?_
 refine tq 8 hS ?_
 refine tq 9 hS ?_
 refine tq 10 hS ?_
 refine tr 11 (fun K hK=> ?_)
 refine jT rfl (.tmp 11) (.tmp 16) 147 147 rfl 3 Tryz.underlying147 (by kernel_rfl) C 5 4 1 _ _ rfl rfl (dD lc lp pb st r++T) 146 zO ([Value.int .i64 r.1]) rfl (by intro j hj;match j,hj with | 0,_=>rfl) hfit (by intro v hv;simp at hv;subst hv;rfl) ?_
 intro w4 hg4 fE
 simp only[Act.put]
 refine hK.out _ _ trivial (fun _=> ?_)
 clear hK K
 refine wpAnyH_done (by kernel_rfl) ?_ _
 have hg5:w4.heap[C]? =some (.cells (dD lc lp pb st (r.1,r.1,r.2.2.1,r.2.2.2)++T).toArray 146 (0,0)):=hg4
 have hon:Only [C] w w4:=⟨fE.os,fE.tape,fE.output,fE.size,fE.block⟩
 have hm4:bg w4 C L lc lp pb st (r.1,r.1,r.2.2.1,r.2.2.2) P:=HM.out.AZ HT.out hg5 (hon.block L HM.out.BN (by simp;exact fun e=>HM.out.ne e.symm))
 obtain⟨_,_,_,_,c4,_⟩:=hm4.cells
 have f4:=hm4.kS 4
 have JV:=Lib.hid hm4
 have lW:=Lib.hid hon
 clear zO hfit hg4 fE hg5 hon hm4 q1 q2 hwr
 go_wp2_with fail
 refine bodyPost_ret_by (results_none rfl _ _ _) rfl ⟨rfl,?_,?_⟩
 ·exact JV.out.setHead (k:=4) (st':=st) (r':=(d,r.1,r.2.2.1,r.2.2.2)) (by decide) rfl
 ·exact lW.out.setCell (p:=⟨C,4,none⟩) (.inl (by simp)) _
theorem aaY{C L lc lp pb st:Nat}{r:R4}{P:Nat→Nat}{w:World}(hM:bg w C L lc lp pb st r P)(d:Int):Calls Tryz.prog 226 #[PF C,.int .i64 2,.int .i64 d] w (pF C L lc lp pb st (d,r.1,r.2.1,r.2.2.2) P w):=by
 obtain⟨T,hT,hTl⟩:=hM.box
 have HT:=Lib.hid hT
 have HTL:=Lib.hid hTl
 have HM:=Lib.hid hM
 have q1: ∀w,(Instr.sliceAt 127 (.pointer (some ⟨C,4,none⟩)) (some (.int .i64 1)) (some (.int .i64 3)) none).run Tryz.prog w= .ok (.slice (some ⟨C,5,none⟩) 2 3) w:=fun w=>Ba C 2 (by decide) w
 have q2: ∀w,(Instr.sliceAt 127 (.pointer (some ⟨C,4,none⟩)) none (some (.int .i64 2)) none).run Tryz.prog w= .ok (.slice (some ⟨C,4,none⟩) 2 4) w:=fun w=>Ie C 2 (by decide) w
 have hwr:IntKind.i64.wrap 3=3:=by decide
 have zO:w.drew.heap[C]? =some (.cells (dD lc lp pb st r++T).toArray 146 (0,0)):=hT
 have hlen:(dD lc lp pb st r++T).length=2061:=by simp[hTl]
 have hfit:5+2≤(dD lc lp pb st r++T).length:=by omega
 clear hM hT hTl hlen
 go_enter Tryz.func226,Tryz.ntmps226
 go_upto_region 0 with fail
 refine wp_region_held_drew (S:=fun _=>True) (by kernel_rfl) trivial (fun hS=> ?_)
 refine tq 0 hS ?_
 refine tq 1 hS ?_
 refine tq 2 hS ?_
 refine tq 3 hS ?_
 refine tq 4 hS ?_
 refine tq 5 hS ?_
 refine tq 6 hS ?_
 refine tq 7 hS ?_
 refine tq 8 hS ?_
 refine tq 9 hS ?_
 refine tq 10 hS ?_
 refine tr 11 (fun K hK=> ?_)
 refine jT rfl (.tmp 11) (.tmp 16) 147 147 rfl 3 Tryz.underlying147 (by kernel_rfl) C 5 4 2 _ _ rfl rfl (dD lc lp pb st r++T) 146 zO ([Value.int .i64 r.1,Value.int .i64 r.2.1]) rfl (by intro j hj;match j,hj with | 0,_ | 1,_=>rfl) hfit (by intro v hv;simp at hv;rcases hv with rfl | rfl<;>rfl) ?_
 intro w4 hg4 fE
 simp only[Act.put]
 refine hK.out _ _ trivial (fun _=> ?_)
 clear hK K
 refine wpAnyH_done (by kernel_rfl) ?_ _
 have hg5:w4.heap[C]? =some (.cells (dD lc lp pb st (r.1,r.1,r.2.1,r.2.2.2)++T).toArray 146 (0,0)):=hg4
 have hon:Only [C] w w4:=⟨fE.os,fE.tape,fE.output,fE.size,fE.block⟩
 have hm4:bg w4 C L lc lp pb st (r.1,r.1,r.2.1,r.2.2.2) P:=HM.out.AZ HT.out hg5 (hon.block L HM.out.BN (by simp;exact fun e=>HM.out.ne e.symm))
 obtain⟨_,_,_,_,c4,_⟩:=hm4.cells
 have f4:=hm4.kS 4
 have JV:=Lib.hid hm4
 have lW:=Lib.hid hon
 clear zO hfit hg4 fE hg5 hon hm4 q1 q2 hwr
 go_wp2_with fail
 refine bodyPost_ret_by (results_none rfl _ _ _) rfl ⟨rfl,?_,?_⟩
 ·exact JV.out.setHead (k:=4) (st':=st) (r':=(d,r.1,r.2.1,r.2.2.2)) (by decide) rfl
 ·exact lW.out.setCell (p:=⟨C,4,none⟩) (.inl (by simp)) _
theorem aaZ{C L lc lp pb st:Nat}{r:R4}{P:Nat→Nat}{w:World}(hM:bg w C L lc lp pb st r P)(d:Int):Calls Tryz.prog 226 #[PF C,.int .i64 3,.int .i64 d] w (pF C L lc lp pb st (d,r.1,r.2.1,r.2.2.1) P w):=by
 obtain⟨T,hT,hTl⟩:=hM.box
 have HT:=Lib.hid hT
 have HTL:=Lib.hid hTl
 have HM:=Lib.hid hM
 have q1: ∀w,(Instr.sliceAt 127 (.pointer (some ⟨C,4,none⟩)) (some (.int .i64 1)) (some (.int .i64 4)) none).run Tryz.prog w= .ok (.slice (some ⟨C,5,none⟩) 3 3) w:=fun w=>Ba C 3 (by decide) w
 have q2: ∀w,(Instr.sliceAt 127 (.pointer (some ⟨C,4,none⟩)) none (some (.int .i64 3)) none).run Tryz.prog w= .ok (.slice (some ⟨C,4,none⟩) 3 4) w:=fun w=>Ie C 3 (by decide) w
 have hwr:IntKind.i64.wrap 4=4:=by decide
 have zO:w.drew.heap[C]? =some (.cells (dD lc lp pb st r++T).toArray 146 (0,0)):=hT
 have hlen:(dD lc lp pb st r++T).length=2061:=by simp[hTl]
 have hfit:5+3≤(dD lc lp pb st r++T).length:=by omega
 clear hM hT hTl hlen
 go_enter Tryz.func226,Tryz.ntmps226
 go_upto_region 0 with fail
 refine wp_region_held_drew (S:=fun _=>True) (by kernel_rfl) trivial (fun hS=> ?_)
 refine tq 0 hS ?_
 refine tq 1 hS ?_
 refine tq 2 hS ?_
 refine tq 3 hS ?_
 refine tq 4 hS ?_
 refine tq 5 hS ?_
 refine tq 6 hS ?_
 refine tq 7 hS ?_
 refine tq 8 hS ?_
 refine tq 9 hS ?_
 refine tq 10 hS ?_
 refine tr 11 (fun K hK=> ?_)
 refine jT rfl (.tmp 11) (.tmp 16) 147 147 rfl 3 Tryz.underlying147 (by kernel_rfl) C 5 4 3 _ _ rfl rfl (dD lc lp pb st r++T) 146 zO ([Value.int .i64 r.1,Value.int .i64 r.2.1,Value.int .i64 r.2.2.1]) rfl (by intro j hj;match j,hj with | 0,_ | 1,_ | 2,_=>rfl) hfit (by intro v hv;simp at hv;rcases hv with rfl | rfl | rfl<;>rfl) ?_
 intro w4 hg4 fE
 simp only[Act.put]
 refine hK.out _ _ trivial (fun _=> ?_)
 clear hK K
 refine wpAnyH_done (by kernel_rfl) ?_ _
 have hg5:w4.heap[C]? =some (.cells (dD lc lp pb st (r.1,r.1,r.2.1,r.2.2.1)++T).toArray 146 (0,0)):=hg4
 have hon:Only [C] w w4:=⟨fE.os,fE.tape,fE.output,fE.size,fE.block⟩
 have hm4:bg w4 C L lc lp pb st (r.1,r.1,r.2.1,r.2.2.1) P:=HM.out.AZ HT.out hg5 (hon.block L HM.out.BN (by simp;exact fun e=>HM.out.ne e.symm))
 obtain⟨_,_,_,_,c4,_⟩:=hm4.cells
 have f4:=hm4.kS 4
 have JV:=Lib.hid hm4
 have lW:=Lib.hid hon
 clear zO hfit hg4 fE hg5 hon hm4 q1 q2 hwr
 go_wp2_with fail
 refine bodyPost_ret_by (results_none rfl _ _ _) rfl ⟨rfl,?_,?_⟩
 ·exact JV.out.setHead (k:=4) (st':=st) (r':=(d,r.1,r.2.1,r.2.2.1)) (by decide) rfl
 ·exact lW.out.setCell (p:=⟨C,4,none⟩) (.inl (by simp)) _
theorem yS{C L lc lp pb st:Nat}{r:R4}{P:Nat→Nat}{w:World}(hM:bg w C L lc lp pb st r P)(n:Nat)(hn:n≤3)(d:Int):Calls Tryz.prog 226 #[PF C,.int .i64 (n:Nat),.int .i64 d] w (pF C L lc lp pb st (aS r n d) P w):=by
 rcases(by omega:n=0∨n=1∨n=2∨n=3)with rfl | rfl | rfl | rfl
 ·exact aaW hM d
 ·exact aaX hM d
 ·exact aaY hM d
 ·exact aaZ hM d
end
theorem rV(n:Int)(k:Nat)(hk:k≤62):bits .and .i64 n ((2^k-1:Nat):Int)=n%((2^k:Nat):Int):=by
 have h1:1≤2^k:=Nat.one_le_two_pow
 have h2:2^k≤2^62:=Nat.pow_le_pow_right (by omega) hk
 have hm:(BitVec.ofInt 64 ((2^k-1:Nat):Int)).toNat=2^k-1:=by rw[BitVec.toNat_ofInt];omega
 have hd:(18446744073709551616:Int)=((2^k:Nat):Int)*((2^(64-k):Nat):Int):=by
  have:2^k*2^(64-k)=18446744073709551616:=by rw[←Nat.pow_add,show k+(64-k)=64 by omega]
  rw[←Int.natCast_mul,this];rfl
 have key:((BitVec.ofInt 64 n &&& BitVec.ofInt 64 ((2^k-1:Nat):Int)).toNat:Int)=n%((2^k:Nat):Int):=by
  rw[BitVec.toNat_and,hm,Nat.and_two_pow_sub_one_eq_mod,BitVec.toNat_ofInt]
  rw[Int.natCast_emod,Int.toNat_of_nonneg (Int.emod_nonneg _ (by decide))]
  exact Int.emod_emod_of_dvd n ⟨_,hd⟩
 show IntKind.i64.wrap ((BitVec.ofInt 64 n &&& BitVec.ofInt 64 ((2^k-1:Nat):Int)).toNat:Nat)=n%((2^k:Nat):Int)
 have h3:0≤n%((2^k:Nat):Int):=Int.emod_nonneg _ (by omega)
 have h4:n%((2^k:Nat):Int)<((2^k:Nat):Int):=Int.emod_lt_of_pos _ (by omega)
 rw[key,IntKind.wrap_i64]
 omega
theorem og(n:Int):bits .and .i64 n 1=n%2:=rV n 1 (by decide)
namespace Md
def aG(v:Int)(i:Nat):Bool:=decide (v/2^i%2=1)
def dF(io:Io)(at_:Nat)(v:Int):Nat→Nat→io.S→Nat×io.S
 | 0,m,x=>(m,x)
 | n+1,m,x=>dF io at_ v n (2*m+(io.au (at_+m) (aG v n) x).1.toNat) (io.au (at_+m) (aG v n) x).2
def tree(io:Io)(at_:Nat)(n:Nat)(v:Int)(x:io.S):Nat×io.S:=((dF io at_ v n 1 x).1-2^n,(dF io at_ v n 1 x).2)
theorem vg(io:Io)(at_:Nat)(v:Int): ∀n m x,m*2^n≤(dF io at_ v n m x).1∧(dF io at_ v n m x).1<(m+1)*2^n
 | 0,m,x=>by unfold dF;omega
 | n+1,m,x=>by
  unfold dF
  obtain⟨h1,h2⟩:=vg io at_ v n (2*m+(io.au (at_+m) (aG v n) x).1.toNat) (io.au (at_+m) (aG v n) x).2
  have hb:(io.au (at_+m) (aG v n) x).1.toNat≤1:=by cases(io.au (at_+m) (aG v n) x).1<;>decide
  refine⟨Nat.le_trans ?_ h1,Nat.lt_of_lt_of_le h2 ?_⟩
  ·rw[Nat.pow_succ,Nat.mul_comm (2^n) 2,←Nat.mul_assoc];exact Nat.mul_le_mul_right _ (by omega)
  ·rw[Nat.pow_succ,Nat.mul_comm (2^n) 2,←Nat.mul_assoc];exact Nat.mul_le_mul_right _ (by omega)
theorem QE(io:Io)(at_:Nat)(n:Nat)(v:Int)(x:io.S):2^n≤(dF io at_ v n 1 x).1∧(tree io at_ n v x).1<2^n:=by
 have h:=vg io at_ v n 1 x
 unfold tree
 omega
def jo(io:Io)(at_:Nat)(v:Int):Nat→Nat→Nat→Nat→io.S→Nat×io.S
 | 0,_,_,g,x=>(g,x)
 | k+1,i,m,g,x=>jo io at_ v k (i+1) (2*m+(io.au (at_+m) (aG v i) x).1.toNat) (g+(io.au (at_+m) (aG v i) x).1.toNat*2^i) (io.au (at_+m) (aG v i) x).2
def rev(io:Io)(at_:Nat)(n:Nat)(v:Int)(x:io.S):Nat×io.S:=jo io at_ v n 0 1 0 x
theorem JW(io:Io)(at_:Nat)(v:Int): ∀k i m g x,g<2^i→(jo io at_ v k i m g x).1<2^(i+k)
 | 0,i,m,g,x,h=>h
 | k+1,i,m,g,x,h=>by
  unfold jo
  have:=JW io at_ v k (i+1) (2*m+(io.au (at_+m) (aG v i) x).1.toNat) (g+(io.au (at_+m) (aG v i) x).1.toNat*2^i) (io.au (at_+m) (aG v i) x).2 (by
   rw[Nat.pow_succ]
   cases(io.au (at_+m) (aG v i) x).1<;>simp<;>omega)
  rw[show i+(k+1)=i+1+k by omega];exact this
theorem aem(io:Io)(at_:Nat)(n:Nat)(v:Int)(x:io.S):(rev io at_ n v x).1<2^n:=by
 have:=JW io at_ v n 0 1 0 x (by decide)
 rw[Nat.zero_add]at this;exact this
structure Seg(C L n2 at_ len b off:Nat):Prop where
 used: ∀m,m<len→Md.used n2 (at_+m)
 rG: ∀m,m<len→Md.rG C L (at_+m)=⟨b,off+m,none⟩
end Md
theorem Io.uF(io:Io){x:io.S}{i:Nat}{b:Bool}{n:Nat}(h:io.ok x.2 (n+1))(hf:1≤x.1 i∧x.1 i≤2047):io.ok (io.au i b x).2.2 n:=io.V7 h hf.1 hf.2
theorem aa0(io:Io){C L lc lp pb st:Nat}{r:R4}{x:io.S}{X:List Nat}{w:World}(hM:MS io w C L lc lp pb st r x X){at_ len b off cp n:Nat}(hok:io.ok x.2 n)(hseg:Md.Seg C L (2^(lc+lp)) at_ len b off)(hn:n≤8)(hl:2^n≤len)(hc:len≤cp)(hcp:cp≤9223372036854775807)(v:Int):
  Calls Tryz.prog 234 #[io.v,.slice (some ⟨b,off,none⟩) len cp,.int .i64 (n:Nat),.int .i64 v] w (lN (.int .i64 ((Md.tree io at_ n v x).1:Nat)) io C L lc lp pb st r (Md.tree io at_ n v x).2 X w):=by
 have hni:(n:Int)≤8:=by omega
 have hone:=fun y=>og y
 go_enter Tryz.func234,Tryz.ntmps234
 go_wp2_with fail
 go_loopw [9,10] (fun ms i wr=> ∃(j m:Nat) (x':io.S) (X':List Nat),j≤n∧ms= .int .i64 (m:Nat)∧i= .int .i64 ((j:Int)-1)∧2^(n-j)≤m∧m<2^(n-j)*2∧Hid (io.ok x'.2 j)∧Hid (Md.dF io at_ v j m x'=Md.dF io at_ v n 1 x)∧Hid (MS io wr C L lc lp pb st r x' X'∧Only (C::L::X) w wr∧ ∀i∈X',i∈X∨w.heap.size≤i)) (fun _ i _=>(intOf i+1).toNat)
 case atStart=>exact⟨n,1,x,X,Nat.le_refl _,rfl,by go_num,by simp,by simp,Lib.hid hok,Lib.hid rfl,Lib.hid ⟨hM,Only.refl _ _,fun i hi=> .inl hi⟩⟩
 case round=>
  obtain⟨j,m,x',X',hj,rfl,rfl,hm1,hm2,Nh,HT,HM⟩:=hrel
  cases j with
  | zero=>
   have h256:2^n≤2^8:=Nat.pow_le_pow_right (by omega) hn
   rw[Nat.sub_zero]at hm1 hm2
   have HR:Hid ((Md.tree io at_ n v x).1=m-2^n∧(Md.tree io at_ n v x).2=x'):=Lib.hid (by unfold Md.tree;rw[←HT.out];exact⟨rfl,rfl⟩)
   have HI:Hid (wrap64 ((m:Int)-wrap64 (2^n))=((m-2^n:Nat):Int)):=Lib.hid (by
    have e:(2:Int)^n=((2^n:Nat):Int):=by simp
    rw[e]
    have e1:wrap64 ((2^n:Nat):Int)=((2^n:Nat):Int):=by unfold wrap64;omega
    rw[e1]
    unfold wrap64
    omega)
   clear h256 hm1 hm2
   go_wp2_with fail
   go_ret
   rw[HR.out.1,HR.out.2,HI.out]
   exact⟨rfl,X',HM.out.1,HM.out.2.1,HM.out.2.2⟩
  | succ j=>
   have hml:m<len:=by
    have e:2^(n-(j+1))*2=2^(n-j):=by rw[←Nat.pow_succ];congr 1;omega
    have:2^(n-j)≤2^n:=Nat.pow_le_pow_right (by omega) (by omega)
    omega
   have h256:m<2^8*2:=Nat.lt_of_lt_of_le hm2 (Nat.mul_le_mul_right _ (Nat.pow_le_pow_right (by omega) (by omega)))
   have vk:=Lib.hid (Ic io HM.out.1 (io.le Nh.out (by omega)) (hseg.used m hml) (hseg.rG m hml) hml hc hcp (Md.aG v j))
   have hfr:=HM.out.1.mod.fair (at_+m)
   have mZ:=Lib.hid (io.uF (i:=at_+m) (b:=Md.aG v j) Nh.out hfr)
   have HT2:Hid (Md.dF io at_ v j (2*m+(io.au (at_+m) (Md.aG v j) x').1.toNat) (io.au (at_+m) (Md.aG v j) x').2=Md.dF io at_ v n 1 x):=Lib.hid (by rw[←HT.out];rfl)
   have uT:=Lib.hid hm1
   have EX:=Lib.hid hm2
   obtain⟨⟨B,y⟩,hy⟩: ∃z,io.au (at_+m) (Md.aG v j) x'=z:=⟨_,rfl⟩
   rw[hy]at vk mZ HT2
   simp only at vk mZ HT2
   clear hy hm1 hm2 hfr
   go_wp2_with fail
   refine vk.out.mono ?_
   rintro e w2 ⟨rfl,X2,hM2,iQ,hX2⟩
   have hw:jd io C L lc lp pb st r y X w w2:=jd.trans HM.out.2.1 HM.out.2.2 ⟨X2,hM2,iQ,hX2⟩
   have HW:=Lib.hid hw
   have hB:dK B=(B.toNat:Int):=by cases B<;>rfl
   have hBl:B.toNat≤1:=by cases B<;>decide
   rw[hB]
   have Nj:(m:Int)<512:=by omega
   have hBi:(B.toNat:Int)≤1:=by omega
   clear hM2 iQ hX2 hw hB
   go_wp2_with fail
   obtain⟨X3,EY,eU,EZ⟩:=HW.out
   have e2:2^(n-j)=2^(n-(j+1))*2:=by rw[←Nat.pow_succ];congr 1;omega
   exact⟨⟨j,2*m+B.toNat,y,X3,by omega,by go_num,by go_num,by have:=uT.out;omega,by have:=EX.out;omega,mZ,HT2,Lib.hid ⟨EY,eU,EZ⟩⟩,by simp[intOf]<;>omega⟩
theorem ND(g i:Nat)(B:Bool)(hg:g<2^i)(hi:i≤8):bits .or .i64 (g:Int) (((B.toNat*2^i:Nat)):Int)=((g+B.toNat*2^i:Nat):Int):=by
 have h2:2^i≤2^8:=Nat.pow_le_pow_right (by omega) hi
 have hB:B.toNat*2^i≤256:=by cases B<;>simp<;>omega
 have e1:(BitVec.ofInt 64 (g:Int)).toNat=g:=by rw[BitVec.toNat_ofInt];omega
 have e2:(BitVec.ofInt 64 ((B.toNat*2^i:Nat):Int)).toNat=B.toNat*2^i:=by rw[BitVec.toNat_ofInt];omega
 show IntKind.i64.wrap ((BitVec.ofInt 64 (g:Int) ||| BitVec.ofInt 64 ((B.toNat*2^i:Nat):Int)).toNat:Nat)=_
 rw[BitVec.toNat_or,e1,e2,Nat.or_comm,Nat.mul_comm,←Nat.two_pow_add_eq_or_of_lt hg,IntKind.wrap_i64,Nat.mul_comm,Nat.add_comm]
 omega
theorem aen(io:Io){C L lc lp pb st:Nat}{r:R4}{x:io.S}{X:List Nat}{w:World}(hM:MS io w C L lc lp pb st r x X){at_ len b off cp n:Nat}(hok:io.ok x.2 n)(hseg:Md.Seg C L (2^(lc+lp)) at_ len b off)(hn:n≤5)(hl:2^n≤len)(hc:len≤cp)(hcp:cp≤9223372036854775807)(v:Int):
  Calls Tryz.prog 236 #[io.v,.slice (some ⟨b,off,none⟩) len cp,.int .i64 (n:Nat),.int .i64 v] w (lN (.int .i64 ((Md.rev io at_ n v x).1:Nat)) io C L lc lp pb st r (Md.rev io at_ n v x).2 X w):=by
 have hni:(n:Int)≤5:=by omega
 have hone:=fun y=>og y
 go_enter Tryz.func236,Tryz.ntmps236
 go_wp2_with fail
 go_loopw [9,10,14] (fun ms gs i wr=> ∃(j m g:Nat) (x':io.S) (X':List Nat),j≤n∧ms= .int .i64 (m:Nat)∧gs= .int .i64 (g:Nat)∧i= .int .i64 (j:Nat)∧2^j≤m∧m<2^j*2∧g<2^j∧Hid (io.ok x'.2 (n-j))∧Hid (Md.jo io at_ v (n-j) j m g x'=Md.rev io at_ n v x)∧Hid (MS io wr C L lc lp pb st r x' X'∧Only (C::L::X) w wr∧ ∀i∈X',i∈X∨w.heap.size≤i)) (fun _ _ i _=>n-(intOf i).toNat)
 case atStart=>exact⟨0,1,0,x,X,Nat.zero_le _,rfl,rfl,rfl,by simp,by simp,by simp,Lib.hid hok,Lib.hid rfl,Lib.hid ⟨hM,Only.refl _ _,fun i hi=> .inl hi⟩⟩
 case round=>
  obtain⟨j,m,g,x',X',hj,rfl,rfl,rfl,hm1,hm2,hg,Nh,HT,HM⟩:=hrel
  by_cases hjn:j<n
  ·have hji:(j:Int)<(n:Int):=by omega
   have h32:2^j*2≤2^n:=by rw[←Nat.pow_succ];exact Nat.pow_le_pow_right (by omega) (by omega)
   have lI:2^n≤2^5:=Nat.pow_le_pow_right (by omega) hn
   have hml:m<len:=by omega
   have vk:=Lib.hid (Ic io HM.out.1 (io.le Nh.out (by omega)) (hseg.used m hml) (hseg.rG m hml) hml hc hcp (Md.aG v j))
   have hfr:=HM.out.1.mod.fair (at_+m)
   have ho:=Nh.out
   rw[show n-j=(n-(j+1))+1 by omega]at ho
   have mZ:=Lib.hid (io.uF (i:=at_+m) (b:=Md.aG v j) ho hfr)
   have HT2:Hid (Md.jo io at_ v (n-(j+1)) (j+1) (2*m+(io.au (at_+m) (Md.aG v j) x').1.toNat) (g+(io.au (at_+m) (Md.aG v j) x').1.toNat*2^j) (io.au (at_+m) (Md.aG v j) x').2=Md.rev io at_ n v x):=Lib.hid (by rw[←HT.out,show n-j=(n-(j+1))+1 by omega];rfl)
   have HB1:=Lib.hid (And.intro hm1 (And.intro hm2 hg))
   have aqF:m<32:=by omega
   have aqG:g<32:=by omega
   obtain⟨⟨B,y⟩,hy⟩: ∃z,io.au (at_+m) (Md.aG v j) x'=z:=⟨_,rfl⟩
   rw[hy]at vk mZ HT2
   simp only at vk mZ HT2
   clear hy hm1 hm2 hfr ho h32 lI hg
   have aqH:(j:Int)≤5:=by omega
   go_wp2_with fail
   refine vk.out.mono ?_
   rintro e w2 ⟨rfl,X2,hM2,iQ,hX2⟩
   have hw:jd io C L lc lp pb st r y X w w2:=jd.trans HM.out.2.1 HM.out.2.2 ⟨X2,hM2,iQ,hX2⟩
   have HW:=Lib.hid hw
   have hB:dK B=(B.toNat:Int):=by cases B<;>rfl
   have hBl:B.toNat≤1:=by cases B<;>decide
   rw[hB]
   have Nj:(m:Int)<32:=by omega
   have hBi:(B.toNat:Int)≤1:=by omega
   clear hM2 iQ hX2 hw hB
   go_wp2_with fail
   obtain⟨X3,EY,eU,EZ⟩:=HW.out
   have hb:=HB1.out
   have hp8:2^j≤2^5:=Nat.pow_le_pow_right (by omega) (by omega)
   have e2:2^(j+1)=2^j*2:=Nat.pow_succ _ _
   have e3:wrap64 ((B.toNat:Int)*2^j)=((B.toNat*2^j:Nat):Int):=by
    have:B.toNat*2^j≤32:=by cases B<;>simp<;>omega
    rw[show(2:Int)^j=((2^j:Nat):Int) by simp,←Int.natCast_mul]
    unfold wrap64;omega
   have hBj:B.toNat*2^j≤2^j:=by cases B<;>simp
   exact⟨⟨j+1,2*m+B.toNat,g+B.toNat*2^j,y,X3,by omega,by go_num,by rw[e3,ND g j B hb.2.2 (by omega)],by go_num,by omega,by omega,by omega,mZ,HT2,Lib.hid ⟨EY,eU,EZ⟩⟩,by simp[intOf]<;>omega⟩
  ·obtain rfl:j=n:=by omega
   have hR:=HT.out
   rw[Nat.sub_self]at hR
   have HR:Hid (Md.rev io at_ j v x=(g,x')):=Lib.hid hR.symm
   clear hR hm1 hm2 hg
   go_wp2_with fail
   go_ret
   rw[HR.out]
   exact⟨rfl,X',HM.out.1,HM.out.2.1,HM.out.2.2⟩
theorem Io.F8(io:Io)(at_:Nat)(v:Int): ∀n k m (x:io.S),io.ok x.2 (n+k)→(∀i,1≤x.1 i∧x.1 i≤2047)→io.ok (Md.dF io at_ v n m x).2.2 k
 | 0,k,m,x,h,hf=>by rw[Nat.zero_add]at h;exact h
 | n+1,k,m,x,h,hf=>by
  unfold Md.dF
  have h2:io.ok (io.au (at_+m) (Md.aG v n) x).2.2 (n+k):=io.uF (by rw[show n+k+1=n+1+k by omega];exact h) (hf _)
  refine Io.F8 io at_ v n k _ _ h2 (fun i=> ?_)
  have hn:=Rc.nZ (hf (at_+m)).1 (hf (at_+m)).2 (io.bit x.2 (x.1 (at_+m)) (Md.aG v n)).1
  have hi:=hf i
  unfold Io.au Md.put
  simp only
  split
  ·exact hn
  ·exact hi
theorem Io.JX(io:Io)(at_:Nat)(v:Int): ∀n k i m g (x:io.S),io.ok x.2 (n+k)→(∀i,1≤x.1 i∧x.1 i≤2047)→io.ok (Md.jo io at_ v n i m g x).2.2 k
 | 0,k,i,m,g,x,h,hf=>by rw[Nat.zero_add]at h;exact h
 | n+1,k,i,m,g,x,h,hf=>by
  unfold Md.jo
  have h2:io.ok (io.au (at_+m) (Md.aG v i) x).2.2 (n+k):=io.uF (by rw[show n+k+1=n+1+k by omega];exact h) (hf _)
  refine Io.JX io at_ v n k _ _ _ _ h2 (fun j=> ?_)
  have hn:=Rc.nZ (hf (at_+m)).1 (hf (at_+m)).2 (io.bit x.2 (x.1 (at_+m)) (Md.aG v i)).1
  have hi:=hf j
  unfold Io.au Md.put
  simp only
  split
  ·exact hn
  ·exact hi
theorem Bc(io:Io){C L lc lp pb st:Nat}{r:R4}{x:io.S}{X:List Nat}{w:World}(hM:MS io w C L lc lp pb st r x X){at_ len b off cp n k:Nat}{v:Int}{tv:Nat}{z:io.S}(hz:Md.tree io at_ n v x=(tv,z))(hok:io.ok x.2 (n+k))(hseg:Md.Seg C L (2^(lc+lp)) at_ len b off)(hn:n≤8)(hl:2^n≤len)(hc:len≤cp)(hcp:cp≤9223372036854775807):
  Calls Tryz.prog 234 #[io.v,.slice (some ⟨b,off,none⟩) len cp,.int .i64 (n:Nat),.int .i64 v] w (lN (.int .i64 (tv:Nat)) io C L lc lp pb st r z X w)∧tv<2^n∧io.ok z.2 k:=by
 have h:=aa0 io hM (io.le hok (by omega)) hseg hn hl hc hcp v
 have h2:=(Md.QE io at_ n v x).2
 have h3:=Io.F8 io at_ v n k 1 x hok hM.mod.fair
 have h4:(Md.dF io at_ v n 1 x).2=z:=congrArg Prod.snd hz
 rw[hz]at h h2
 rw[h4]at h3
 exact⟨h,h2,h3⟩
theorem V9(io:Io){C L lc lp pb st:Nat}{r:R4}{x:io.S}{X:List Nat}{w:World}(hM:MS io w C L lc lp pb st r x X){at_ len b off cp n k:Nat}{v:Int}{tv:Nat}{z:io.S}(hz:Md.rev io at_ n v x=(tv,z))(hok:io.ok x.2 (n+k))(hseg:Md.Seg C L (2^(lc+lp)) at_ len b off)(hn:n≤5)(hl:2^n≤len)(hc:len≤cp)(hcp:cp≤9223372036854775807):
  Calls Tryz.prog 236 #[io.v,.slice (some ⟨b,off,none⟩) len cp,.int .i64 (n:Nat),.int .i64 v] w (lN (.int .i64 (tv:Nat)) io C L lc lp pb st r z X w)∧tv<2^n∧io.ok z.2 k:=by
 have h:=aen io hM (io.le hok (by omega)) hseg hn hl hc hcp v
 have h2:=Md.aem io at_ n v x
 have h3:=Io.JX io at_ v n k 0 1 0 x hok hM.mod.fair
 have h4:(Md.jo io at_ v n 0 1 0 x).2=z:=congrArg Prod.snd hz
 rw[hz]at h h2
 rw[h4]at h3
 exact⟨h,h2,h3⟩
theorem qp(io:Io){C L lc lp pb st:Nat}{r:R4}{x:io.S}{X:List Nat}{w:World}(hM:MS io w C L lc lp pb st r x X){at_ i len b off cp j k:Nat}{one B:Bool}{y:io.S}(hz:io.au i one x=(B,y))(hi:i=at_+j)(hok:io.ok x.2 (k+1))(hseg:Md.Seg C L (2^(lc+lp)) at_ len b off)(hj:j<len)(hn:len≤cp)(hcp:cp≤9223372036854775807):
  Calls Tryz.prog 203 #[io.v,.slice (some ⟨b,off,none⟩) len cp,.int .i64 (j:Nat),.bool one] w (lN (.int .i64 (dK B)) io C L lc lp pb st r y X w)∧io.ok y.2 k:=by
 subst hi
 have h:=Ic io hM (io.le hok (by omega)) (hseg.used j hj) (hseg.rG j hj) hj hn hcp one
 have h3:=io.uF (i:=at_+j) (b:=one) hok (hM.mod.fair _)
 rw[hz]at h h3
 exact⟨h,h3⟩
theorem Wh(io:Io){C L lc lp pb st:Nat}{r:R4}{x:io.S}{X:List Nat}{w:World}(hM:MS io w C L lc lp pb st r x X){v m q k:Nat}{s2:io.σ}(hz:io.plain x.2 (v%2^m) m=(q,s2))(hok:io.ok x.2 (k+32))(hv:v<4294967296)(hm:m≤32):
  Calls Tryz.prog io.F #[.pointer (some ⟨io.g,0,none⟩),.int .u32 (v:Nat),.int .i64 (m:Nat)] w (lN (.int .u32 (q:Nat)) io C L lc lp pb st r (x.1,s2) X w)∧q<2^m∧io.ok s2 k:=by
 have h:=io.NC w x.2 X v m hM.io (io.le hok (by omega)) hv hm
 have h2:=io.AY (x:=v%2^m) hok hm
 have h3:=io.Ib (x:=v%2^m) (m:=m) hok (Nat.mod_lt _ (Nat.pow_pos (by decide)))
 rw[hz]at h h2 h3
 refine⟨h.mono ?_,h3,h2⟩
 rintro e w' ⟨rfl,X',hon,hat,hX'⟩
 have hC:w'.heap[C]? =w.heap[C]? :=hon.block C hM.mod.EW hM.vU
 have hL:w'.heap[L]? =w.heap[L]? :=hon.block L hM.mod.BN hM.yR
 refine⟨rfl,X',⟨hM.mod.keep hC hL,hat,fun h=> ?_,fun h=> ?_⟩,⟨hon.os,hon.tape,hon.output,hon.size,fun i hi hX=>hon.block i hi (fun h=>hX (by simp[h]))⟩,hX'⟩
 ·rcases hX' C h with h | h
  ·exact hM.vU h
  ·have:=hM.mod.EW;omega
 ·rcases hX' L h with h | h
  ·exact hM.yR h
  ·have:=hM.mod.BN;omega
theorem Md.pG{C L n2 at_ len off:Nat}(ho:off=8+at_)(h2:at_+len≤432):Md.Seg C L n2 at_ len C off:=
 ⟨fun m hm=> .inl (by omega),fun m hm=>by
  unfold Md.rG Md.jm Md.iT
  rw[if_pos (by omega),if_pos (by omega)]
  rw[show 8+(at_+m)=off+m by omega]⟩
theorem Md.uG{C L n2 at_ len off:Nat}(ho:off=9+at_)(h1:432≤at_)(h2:at_+len≤1716):Md.Seg C L n2 at_ len C off:=
 ⟨fun m hm=> .inl (by omega),fun m hm=>by
  unfold Md.rG Md.jm Md.iT
  rw[if_pos (by omega),if_neg (by omega),if_pos (by omega)]
  rw[show 9+(at_+m)=off+m by omega]⟩
theorem Md.JY{C L n2 at_ len off:Nat}(ho:off+119=at_)(h1:1844≤at_)(h2:at_+len≤2180):Md.Seg C L n2 at_ len C off:=
 ⟨fun m hm=> .inr ⟨by omega,by omega⟩,fun m hm=>by
  unfold Md.rG Md.jm Md.iT
  rw[if_pos (by omega),if_neg (by omega),if_neg (by omega),if_pos (by omega)]
  rw[show at_+m-119=off+m by omega]⟩
theorem Md.Wi{C L n2 at_ len off:Nat}(ho:off+2180=at_)(h2:at_+len≤2180+768*n2):Md.Seg C L n2 at_ len L off:=
 ⟨fun m hm=> .inr ⟨by omega,by omega⟩,fun m hm=>by
  unfold Md.rG Md.jm Md.iT
  rw[if_neg (by omega),if_neg (by omega),if_neg (by omega),if_neg (by omega)]
  rw[show at_+m-2180=off+m by omega]⟩
end Go.Proofs.YtgfpocdiojifoaaGreatDoor
