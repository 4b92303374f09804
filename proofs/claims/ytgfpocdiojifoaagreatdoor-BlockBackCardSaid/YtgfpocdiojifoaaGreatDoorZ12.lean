import Derived.Test.YtgfpocdiojifoaaGreatDoorZ09
import Derived.Test.YtgfpocdiojifoaaGreatDoorZ11
import Derived.Deep.RegionHeld3
namespace Go.Proofs.YtgfpocdiojifoaaGreatDoor
set_option maxRecDepth 100000
set_option maxHeartbeats 8000000
open Go.RowKit
def lenOf(v:Value):Nat:=match v with | .slice _ n _=>n | _=>0
theorem QK:(Tryz.prog.info? 5).map (·.size)=some 1:=by kernel_rfl
theorem Xg(W8:List Value)(h8:W8.length=8)(blk ch:List UInt8)(x:Value)(o:Nat)(hb:blk.length=64)(ho:o+ch.length≤64):
  (W8++(blk.map B8++[x])).take (8+o)++(ch.map B8++(W8++(blk.map B8++[x])).drop (8+o+ch.length))=W8++((lay blk o ch).map B8++[x]):=by
 unfold lay
 rw[List.take_append,List.drop_append,h8]
 rw[List.take_of_length_le (by omega),show 8+o-8=o by omega,List.drop_eq_nil_of_le (by omega),show 8+o+ch.length-8=o+ch.length by omega]
 rw[List.take_append_of_le_length (by simp;omega),List.drop_append_of_le_length (by simp;omega)]
 simp
theorem Xh(W8:List Value)(h8:W8.length=8)(blk:List UInt8)(x y:Value)(hb:blk.length=64):(W8++(blk.map B8++[x])).set 72 y=W8++(blk.map B8++[y]):=by
 rw[List.set_append_right _ _ (by omega),h8,List.set_append_right _ _ (by simp[hb])]
 simp[hb]
theorem Sl(t:St)(o:Nat)(ch:List UInt8)(hb:t.blk.length=64)(ho:o+ch.length≤64):
  t.cells.toArray.toList.take (8+o)++((ch.map B8)++t.cells.toArray.toList.drop (8+o+(ch.map B8).length))=(St.mk t.ws (lay t.blk o ch) t.n).cells:=by
 rw[List.length_map]
 exact Xg t.ws.agg.toList rfl t.blk ch _ o hb ho
theorem bZ.count{w:World}{g:Nat}{s:St}(h:bZ w g s)(m:Nat):bZ (w.setCell ⟨g,72,none⟩ (.int .u64 (m:Nat))) g ⟨s.ws,s.blk,m⟩:=by
 refine⟨?_,h.len⟩
 have e:s.cells.set 72 (.int .u64 (m:Nat))=(St.mk s.ws s.blk m).cells:=Xh s.ws.agg.toList rfl s.blk _ _ h.len
 unfold World.setCell
 simp[Array.getElem?_modify,h.at_,e]
theorem bZ.words{w:World}{g:Nat}{s:St}(h:bZ w g s)(r:R8):bZ (w.setCells g 0 r.agg.toList) g ⟨r,s.blk,s.n⟩:=by
 refine⟨?_,h.len⟩
 have h0:=heap_set h.at_ 0 (aQ r.a)
 have h1:=heap_set h0 1 (aQ r.b)
 have h2:=heap_set h1 2 (aQ r.c)
 have h3:=heap_set h2 3 (aQ r.d)
 have h4:=heap_set h3 4 (aQ r.e)
 have h5:=heap_set h4 5 (aQ r.f)
 have h6:=heap_set h5 6 (aQ r.g)
 have h7:=heap_set h6 7 (aQ r.h)
 exact h7
theorem bZ.Il{w:World}{g:Nat}{s:St}(h:bZ w g s):w.rangeAt g 0 s.ws.agg.toList:=by
 intro j v hv
 rw[Nat.zero_add,h.cellAt]
 have hj:j<s.ws.agg.toList.length:=by
  rcases Nat.lt_or_ge j s.ws.agg.toList.length with h | h
  ·exact h
  ·rw[List.getElem?_eq_none h]at hv;cases hv
 unfold St.cells
 rw[List.getElem?_append_left hj];exact hv
theorem bZ.yX{w:World}{g:Nat}{s:St}(h:bZ w g s):w.rangeAt g 8 (s.blk.map B8):=by
 intro j v hv
 rw[h.cellAt]
 have hj:j<(s.blk.map B8).length:=by
  rcases Nat.lt_or_ge j (s.blk.map B8).length with h | h
  ·exact h
  ·rw[List.getElem?_eq_none h]at hv;cases hv
 have h8:s.ws.agg.toList.length=8:=rfl
 unfold St.cells
 generalize s.ws.agg.toList=W8 at*
 rw[List.getElem?_append_right (by omega),h8,show 8+j-8=j by omega,List.getElem?_append_left hj];exact hv
theorem bZ.Xi{w:World}{g:Nat}{s:St}(h:bZ w g s):w.there g 0 8:=by
 intro j hj
 refine⟨?_,?_⟩
 ·rw[Nat.zero_add,h.cellAt,List.getElem?_eq_getElem (by rw[s.qA h.len];omega)];rfl
 ·simp[World.frozen?,h.at_]
theorem bZ.Ip{w w':World}{g B:Nat}{s:St}(h:bZ w g s)(hb:Below B w w')(hg:g<B):bZ w' g s:=⟨(hb.block g hg).trans h.at_,h.len⟩
theorem oL{X:List Nat}{a:World}(g:Nat)(hg:g∈X): ∀(vs:List Value) (o:Nat) (b:World),Only X a b→Only X a (b.setCells g o vs)
 | [],_,_,h=>h
 | _::vs,o,_,h=>oL g hg vs (o+1) _ (h.setCell (p:=⟨g,o,none⟩) (.inl hg) _)
theorem vW{a b:World}(h:Below a.heap.size a b):Only [] a b:=⟨h.os,h.tape,h.output,h.size,fun i hi _=>h.block i hi⟩
theorem qV{B:Nat}{a b:World}(h:Below B a.drew b):Below B a b:=⟨h.os,h.tape,h.output,h.size,h.block⟩
theorem Iq(D:List UInt8)(n:Nat):D.take (D.take n).length=D.take n:=by
 rw[List.length_take]
 rcases Nat.le_total n D.length with h | h
 ·rw[Nat.min_eq_left h]
 ·rw[Nat.min_eq_right h,List.take_length,List.take_of_length_le h]
theorem Sm(g o:Nat)(h:o<64)(w:World):(Instr.sliceAt 251 (.pointer (some ⟨g,8,none⟩)) (some (.int .i64 (o:Nat))) none none).run Tryz.prog w= .ok (.slice (some ⟨g,8+o,none⟩) (64-o) (64-o)) w:=by
 have ha:Tryz.prog.arrayLen 251=64:=by kernel_rfl
 have hu:Tryz.prog.underlying 251=some (.array (Tryz.prog.arrayLen 251) (Tryz.prog.elem 251)):=by kernel_rfl
 have hs:(sizeOf (Tryz.prog.elem 251)).run Tryz.prog w= .ok 1 w:=by kernel_rfl
 rw[run_sliceAt_array_l w 251 ⟨g,8,none⟩ hu .i64 (o:Nat) (by omega) (by rw[ha];omega),hs,ha]
 simp only[Result.andThen,slicedAt,Int.toNat_natCast,Nat.mul_one]
 rw[if_neg (by omega),Addr.add_mid]
theorem write_any(g:Nat)(s:St)(A:Option Addr)(l:List UInt8)(c:Nat)(w:World)(hH:bZ w g s)(hB:Bytes w A l)(hA:0<l.length→ ∀a,A=some a→a.block≠g)(hg:g<w.heap.size)(hK: ∀i,i<64→w.cell? ⟨2,i,none⟩=some (aQ (Kc i)))(h1:2<g)(hc:l.length≤c)(_hm:c≤9223372036854775807)(hn:s.n+l.length≤1000000000):
  Calls Tryz.prog 130 #[.pointer (some ⟨g,0,none⟩),.slice A l.length c] w fun e w'=>e= .returned (.tuple #[])∧bZ w' g (s.puts l)∧Only [g] w w':=by
 have HK:=Lib.hid hK
 have HN:=Lib.hid hn
 clear hK hn
 go_enter Tryz.func130,Tryz.ntmps130
 go_wp2_with fail
 go_loopw [1] (fun v wr=> ∃(k:Nat) (Ak:Option Addr),k≤l.length∧v= .slice Ak (l.length-k) (c-k)∧Bytes wr Ak (l.drop k)∧(k<l.length→ ∀a,Ak=some a→a.block≠g)∧bZ wr g (s.puts (l.take k))∧Only [g] w wr) (fun v _=>lenOf v)
 case atStart=>exact⟨0,A,by omega,rfl,hB,hA,hH,Only.refl _ _⟩
 case round=>
  obtain⟨k,Ak,hk,rfl,hBk,hAk,hHk,hon⟩:=hrel
  clear hB hA hH
  by_cases hlt:k<l.length
  ·have hlen:(l.drop k).length=l.length-k:=List.length_drop ..
   obtain⟨bb,off,rfl,hbl,hcell⟩:=hBk.addr (by omega)
   have hbg:bb≠g:=hAk hlt _ rfl
   have htn:=St.Xb (l.take k) s
   have htk:(l.take k).length=k:=by rw[List.length_take];omega
   rw[htk]at htn
   have HT:Hid (∀m,k+m≤l.length→s.puts (l.take (k+m))=(s.puts (l.take k)).puts ((l.drop k).take m)):=Lib.hid (fun m _=>by rw[List.take_add,St.Ko])
   generalize hst:s.puts (l.take k)=t at*
   have Kq:=hHk.len
   have ahH:=(hHk.cellAt 72).trans (t.NV Kq)
   have htb:t.n≤1000000000:=by have:=HN.out;omega
   have hat:=hHk.at_
   have hmod:(t.n:Int)%64=((t.n%64:Nat):Int):=by omega
   have ho:t.n%64<64:=by omega
   have hnn:(t.n:Int)≤1000000000:=by omega
   have hpos:(0:Int)<((l.length-k:Nat):Int):=by omega
   have HTN:=Lib.hid htn
   have HST:=Lib.hid hst
   clear htn hst htk
   generalize hD:l.drop k=D at*
   have HD:=Lib.hid hD
   clear hD
   generalize hL:l.length-k=L at*
   have HL:=Lib.hid hL
   clear hL
   generalize hCK:c-k=ck at*
   have HCK:=Lib.hid hCK
   clear hCK
   generalize hO:t.n%64=o at*
   have HO:=Lib.hid hO
   clear hO
   have hcut:=Sm g o ho
   have hm1:Nat.min L (64-o)=(D.take (64-o)).length:=by rw[List.length_take,hlen,Nat.min_comm]
   have ahI:=Iq D (64-o)
   generalize hch:D.take (64-o)=ch at*
   have aqW:ch.length≤64-o:=by rw[←hch,List.length_take];omega
   have aqX:0<ch.length:=by rw[←hch,List.length_take];omega
   have hsrc: ∀j v,(ch.map B8)[j]? =some v→wr.cell? ((⟨bb,off,none⟩:Addr).add j)=some v:=by
    intro j v hv
    rw[List.getElem?_map]at hv
    have hj:j<ch.length:=by
     rcases Nat.lt_or_ge j ch.length with h | h
     ·exact h
     ·rw[List.getElem?_eq_none h]at hv;simp at hv
    have hjD:j<D.length:=by
     have:ch.length≤D.length:=by rw[←hch,List.length_take];omega
     omega
    rw[List.getElem?_eq_getElem hj]at hv
    simp at hv
    rw[Addr.add_mid,hcell j hjD,←hv]
    have:ch[j]=D[j]:=by simp only[←hch,List.getElem_take]
    rw[this]
   have hcl:=t.qA Kq
   have hfit:8+o+(ch.map B8).length≤t.cells.toArray.size:=by simp[hcl];omega
   have HL1:Hid ((t.cells.toArray.toList.take (8+o)++((ch.map B8)++t.cells.toArray.toList.drop (8+o+(ch.map B8).length)))=(St.mk t.ws (lay t.blk o ch) t.n).cells):=Lib.hid (Sl t o ch Kq (by omega))
   have hW1:=setRow_heap wr g t.cells.toArray (St.mk t.ws (lay t.blk o ch) t.n).cells.toArray _ _ hat
   have Xj:(lay t.blk o ch).length=64:=by rw[NT _ _ _ (by omega),Kq]
   have hH1:bZ (wr.setRow g (St.mk t.ws (lay t.blk o ch) t.n).cells.toArray) g (St.mk t.ws (lay t.blk o ch) t.n):=⟨hW1,Xj⟩
   have hO1:Only [g] wr (wr.setRow g (St.mk t.ws (lay t.blk o ch) t.n).cells.toArray):=⟨rfl,rfl,rfl,by simp[World.setRow],fun i _ hi=>setRow_other wr g i _ (by simpa using hi)⟩
   have c1:=(hH1.cellAt 72).trans ((St.mk t.ws (lay t.blk o ch) t.n).NV Xj)
   have f1:(wr.setRow g (St.mk t.ws (lay t.blk o ch) t.n).cells.toArray).frozen? ⟨g,72,none⟩=false:=by simp[World.frozen?,hW1]
   have hH2:=hH1.count (t.n+ch.length)
   have hO2:=hO1.setCell (p:=⟨g,72,none⟩) (by simp) (.int .u64 ((t.n+ch.length:Nat):Int))
   have hsum:(t.n:Int)+(ch.length:Int)=((t.n+ch.length:Nat):Int):=by omega
   have Kr:=Lib.hid (St.NU ch t Kq (by rw[HO.out];omega))
   clear hW1 hcl hnn hsum
   simp only at c1
   generalize hS1:(St.mk t.ws (lay t.blk o ch) t.n).cells=cs1 at*
   have hnn:(t.n:Int)≤1000000000:=by omega
   have hmm:(ch.length:Int)≤64:=by omega
   have hLm:ch.length≤L:=by rw[←hlen,←hch,List.length_take];omega
   by_cases hfull:o+ch.length=64
   ·have hfb:((o:Int)+(ch.length:Int)==64)=true:=by simp;omega
    have hq:=Kr.out
    rw[HO.out,if_pos hfull]at hq
    have HQ:Hid (s.puts (l.take (k+ch.length))=⟨vV t.ws (lay t.blk o ch),lay t.blk o ch,t.n+ch.length⟩):=Lib.hid (by rw[HT.out ch.length (by have:=HL.out;omega),ahI,hq])
    clear hq hch hcell
    have hgl:g<wr.heap.size:=Nat.lt_of_lt_of_le hg hon.size
    have iQ:=hon.trans hO2 (by simp)
    simp only[Int.natCast_add]at hH2 hO2 iQ
    have ahJ:g<(wr.setRow g cs1.toArray |>.setCell ⟨g,72,none⟩ (.int .u64 ((t.n:Int)+(ch.length:Int)))).heap.size:=Nat.lt_of_lt_of_le hgl hO2.size
    have ahK:=Lib.hid (fun(w':World) h h'=>abl t.ws (lay t.blk o ch) Xj w' h h')
    generalize hlb:lay t.blk o ch=lb at*
    by_cases hck:ck=ch.length
    ·go_wp2_with (refine wpList_copy_own rfl (.tmp 21) (.tmp 22) 22 22 rfl 5 Tryz.underlying22 QK g (8+o) (64-o) (64-o) ⟨bb,off,none⟩ L ck rfl rfl t.cells.toArray 253 hat (ch.map B8) (by rw[List.length_map,hm1]) hsrc hfit (oJ ch) ?_;rw[HL1.out];generalize wr.setRow g cs1.toArray=w1 at*)
     generalize w1.setCell ⟨g,72,none⟩ (.int .u64 ((t.n:Int)+(ch.length:Int)))=w2 at*
     have aeL:bZ w2.drew g ⟨t.ws,lb,t.n+ch.length⟩:=⟨hH2.at_,hH2.len⟩
     have hr0:w2.drew.rangeAt g 8 (lb.map B8):=hH2.yX
     have hKL:2<w2.drew.heap.size:=by show 2<w2.heap.size;omega
     have hKK: ∀i,i<64→w2.drew.cell? ⟨2,i,none⟩=some (aQ (Kc i)):=fun i hi=>by
      have e:w2.drew.cell? ⟨2,i,none⟩=w.cell? ⟨2,i,none⟩:=by
       show World.cell? w2 _=_
       unfold World.cell?
       rw[iQ.block 2 (by omega) (by simp;omega)]
      rw[e];exact HK.out i hi
     refine wp_region_held_drew (S:=fun w'=>w'.rangeAt g 8 (lb.map B8)) (by kernel_rfl) hr0 (fun hS=> ?_)
     refine tq 0 hS ?_
     refine tq 1 hS ?_
     refine tq 2 hS ?_
     refine tq 3 hS ?_
     refine tq 5 hS ?_
     refine tq 6 hS ?_
     refine tq 7 hS ?_
     refine wpAnyH_take (i:=8) (oi:={dst:=some 48,op:=Op.load 251 (Operand.tmp 47),type:=251,pos:= "sha256.go:46",after:= #[{on:=7,ground:=Ground.data}],guard:=none}) (v:= .agg (lb.map B8).toArray) rfl (by kernel_rfl) (by kernel_rfl) (by kernel_rfl) (fun _ _ _ h=>h) (yieldsIf_load_mid (by rfl) 251 (.tmp 47) rfl g 8 rfl (lb.map B8) _ (fun w h=>h) Tryz.underlying251 rfl (by rw[NR,List.length_map,Xj])) hS ?_
     simp only[Act.put,List.setIfInBounds_toArray,List.set_cons_zero,List.set_cons_succ]
     refine tr 4 (fun K hK=> ?_)
     refine wp_load_mid 250 (.tmp 43) rfl g 0 rfl t.ws.agg.toList _ hH2.Il Tryz.underlying250 rfl (by rw[qy];rfl) ?_
     simp only[Act.put,List.setIfInBounds_toArray,List.set_cons_zero,List.set_cons_succ]
     refine hK.out _ _ hS (fun _=> ?_)
     clear hK K
     refine tr 9 (fun K hK=> ?_)
     go_simp
     refine(ahK.out _ hKK hKL).mono ?_
     rintro e w3 ⟨rfl,hb3⟩
     have hH3:=aeL.Ip hb3 ahJ
     have hS3:=hH3.yX
     go_wp2_with fail
     refine hK.out _ _ hS3 (fun _=> ?_)
     clear hK K
     refine tq 10 hS3 ?_
     refine tq 11 hS3 ?_
     refine tr 12 (fun K hK=> ?_)
     refine wp_store_mid 250 (.tmp 51) (.tmp 49) rfl g 0 (vV t.ws lb).agg rfl rfl hH3.Xi (by rw[qy];rfl) (Cb _) ?_
     simp only[Act.put]
     refine hK.out _ _ (hH3.words _).yX (fun _=> ?_)
     clear hK K
     refine wpAnyH_done (by kernel_rfl) ?_ _
     have kH:Only [g] wr (w3.setCells g 0 (vV t.ws lb).agg.toList):=oL g (by simp) _ _ _ ((hO2.trans (vW (show Below w2.heap.size w2 w3 from(qV hb3))) (by simp)))
     have Xk:=hH3.words (vV t.ws lb)
     go_wp2_with fail
     go_roundw
     case rel=>
      refine⟨k+ch.length,some ⟨bb,off,none⟩,by have:=HL.out;omega,?_,?_,?_,?_,?_⟩
      ·have:=HL.out
       have:=HCK.out
       rw[show l.length-(k+ch.length)=L-ch.length by omega,show c-(k+ch.length)=ck-ch.length by omega,show ck-ch.length=0 by omega]
      ·rw[List.drop_eq_nil_of_le (by have:=HL.out;have:=HCK.out;omega)];exact .nil
      ·intro _ a e;injection e with e;subst e;exact hbg
      ·rw[HQ.out];exact Xk
      ·exact hon.trans kH (by simp)
     case measure=>simp[lenOf];omega
    ·go_wp2_with (refine wpList_copy_own rfl (.tmp 21) (.tmp 22) 22 22 rfl 5 Tryz.underlying22 QK g (8+o) (64-o) (64-o) ⟨bb,off,none⟩ L ck rfl rfl t.cells.toArray 253 hat (ch.map B8) (by rw[List.length_map,hm1]) hsrc hfit (oJ ch) ?_;rw[HL1.out];generalize wr.setRow g cs1.toArray=w1 at*)
     generalize w1.setCell ⟨g,72,none⟩ (.int .u64 ((t.n:Int)+(ch.length:Int)))=w2 at*
     have aeL:bZ w2.drew g ⟨t.ws,lb,t.n+ch.length⟩:=⟨hH2.at_,hH2.len⟩
     have hr0:w2.drew.rangeAt g 8 (lb.map B8):=hH2.yX
     have hKL:2<w2.drew.heap.size:=by show 2<w2.heap.size;omega
     have hKK: ∀i,i<64→w2.drew.cell? ⟨2,i,none⟩=some (aQ (Kc i)):=fun i hi=>by
      have e:w2.drew.cell? ⟨2,i,none⟩=w.cell? ⟨2,i,none⟩:=by
       show World.cell? w2 _=_
       unfold World.cell?
       rw[iQ.block 2 (by omega) (by simp;omega)]
      rw[e];exact HK.out i hi
     refine wp_region_held_drew (S:=fun w'=>w'.rangeAt g 8 (lb.map B8)) (by kernel_rfl) hr0 (fun hS=> ?_)
     refine tq 0 hS ?_
     refine tq 1 hS ?_
     refine tq 2 hS ?_
     refine tq 3 hS ?_
     refine tq 5 hS ?_
     refine tq 6 hS ?_
     refine tq 7 hS ?_
     refine wpAnyH_take (i:=8) (oi:={dst:=some 48,op:=Op.load 251 (Operand.tmp 47),type:=251,pos:= "sha256.go:46",after:= #[{on:=7,ground:=Ground.data}],guard:=none}) (v:= .agg (lb.map B8).toArray) rfl (by kernel_rfl) (by kernel_rfl) (by kernel_rfl) (fun _ _ _ h=>h) (yieldsIf_load_mid (by rfl) 251 (.tmp 47) rfl g 8 rfl (lb.map B8) _ (fun w h=>h) Tryz.underlying251 rfl (by rw[NR,List.length_map,Xj])) hS ?_
     simp only[Act.put,List.setIfInBounds_toArray,List.set_cons_zero,List.set_cons_succ]
     refine tr 4 (fun K hK=> ?_)
     refine wp_load_mid 250 (.tmp 43) rfl g 0 rfl t.ws.agg.toList _ hH2.Il Tryz.underlying250 rfl (by rw[qy];rfl) ?_
     simp only[Act.put,List.setIfInBounds_toArray,List.set_cons_zero,List.set_cons_succ]
     refine hK.out _ _ hS (fun _=> ?_)
     clear hK K
     refine tr 9 (fun K hK=> ?_)
     go_simp
     refine(ahK.out _ hKK hKL).mono ?_
     rintro e w3 ⟨rfl,hb3⟩
     have hH3:=aeL.Ip hb3 ahJ
     have hS3:=hH3.yX
     go_wp2_with fail
     refine hK.out _ _ hS3 (fun _=> ?_)
     clear hK K
     refine tq 10 hS3 ?_
     refine tq 11 hS3 ?_
     refine tr 12 (fun K hK=> ?_)
     refine wp_store_mid 250 (.tmp 51) (.tmp 49) rfl g 0 (vV t.ws lb).agg rfl rfl hH3.Xi (by rw[qy];rfl) (Cb _) ?_
     simp only[Act.put]
     refine hK.out _ _ (hH3.words _).yX (fun _=> ?_)
     clear hK K
     refine wpAnyH_done (by kernel_rfl) ?_ _
     have kH:Only [g] wr (w3.setCells g 0 (vV t.ws lb).agg.toList):=oL g (by simp) _ _ _ ((hO2.trans (vW (show Below w2.heap.size w2 w3 from(qV hb3))) (by simp)))
     have Xk:=hH3.words (vV t.ws lb)
     go_wp2_with fail
     go_roundw
     case rel=>
      refine⟨k+ch.length,some ⟨bb,off+ch.length,none⟩,by have:=HL.out;omega,?_,?_,?_,?_,?_⟩
      ·have:=HL.out
       have:=HCK.out
       rw[show l.length-(k+ch.length)=L-ch.length by omega,show c-(k+ch.length)=ck-ch.length by omega]
      ·rw[←List.drop_drop,HD.out]
       have h:=(hBk.only kH (fun a e=>by injection e with e;subst e;simpa using hbg)).cutFrom (k:=ch.length) (by omega) (show D.length≤ck by have:=HL.out;have:=HCK.out;omega)
       rw[if_neg hck]at h
       simpa only[Option.map_some,Addr.add_mid]using h
      ·intro _ a e;injection e with e;subst e;exact hbg
      ·rw[HQ.out];exact Xk
      ·exact hon.trans kH (by simp)
     case measure=>simp[lenOf];omega
   ·have hfb:((o:Int)+(ch.length:Int)==64)=false:=by simp;omega
    have hq:=Kr.out
    rw[HO.out,if_neg hfull]at hq
    have HQ:Hid (s.puts (l.take (k+ch.length))=⟨t.ws,lay t.blk o ch,t.n+ch.length⟩):=Lib.hid (by rw[HT.out ch.length (by have:=HL.out;omega),ahI,hq])
    have hBn:=(hBk.keep hO2.size (fun p hp hlt=>by
     have hpb:bb=p.block:=by simpa using hp
     show World.cell? _ _=_
     unfold World.cell?
     rw[hO2.block p.block hlt (by simp;omega)])).cutFrom (k:=ch.length) (by omega) (show D.length≤ck by have:=HL.out;have:=HCK.out;omega)
    clear hq hch hBk hcell
    by_cases hck:ck=ch.length
    ·rw[if_pos hck]at hBn
     go_wp2_with (refine wpList_copy_own rfl (.tmp 21) (.tmp 22) 22 22 rfl 5 Tryz.underlying22 QK g (8+o) (64-o) (64-o) ⟨bb,off,none⟩ L ck rfl rfl t.cells.toArray 253 hat (ch.map B8) (by rw[List.length_map,hm1]) hsrc hfit (oJ ch) ?_;rw[HL1.out];generalize wr.setRow g cs1.toArray=w1 at*)
     go_roundw
     case rel=>
      refine⟨k+ch.length,some ⟨bb,off,none⟩,by have:=HL.out;omega,?_,?_,?_,?_,?_⟩
      ·have:=HL.out
       have:=HCK.out
       rw[show l.length-(k+ch.length)=L-ch.length by omega,show c-(k+ch.length)=ck-ch.length by omega,show ck-ch.length=0 by omega]
      ·rw[←List.drop_drop,HD.out];exact hBn
      ·intro _ a e;injection e with e;subst e;exact hbg
      ·rw[HQ.out];exact hH2
      ·exact hon.trans hO2 (by simp)
     case measure=>simp[lenOf];omega
    ·rw[if_neg hck]at hBn
     simp only[Option.map_some,Addr.add_mid]at hBn
     go_wp2_with (refine wpList_copy_own rfl (.tmp 21) (.tmp 22) 22 22 rfl 5 Tryz.underlying22 QK g (8+o) (64-o) (64-o) ⟨bb,off,none⟩ L ck rfl rfl t.cells.toArray 253 hat (ch.map B8) (by rw[List.length_map,hm1]) hsrc hfit (oJ ch) ?_;rw[HL1.out];generalize wr.setRow g cs1.toArray=w1 at*)
     go_roundw
     case rel=>
      refine⟨k+ch.length,some ⟨bb,off+ch.length,none⟩,by have:=HL.out;omega,?_,?_,?_,?_,?_⟩
      ·have:=HL.out
       have:=HCK.out
       rw[show l.length-(k+ch.length)=L-ch.length by omega,show c-(k+ch.length)=ck-ch.length by omega]
      ·rw[←List.drop_drop,HD.out];exact hBn
      ·intro _ a e;injection e with e;subst e;exact hbg
      ·rw[HQ.out];exact hH2
      ·exact hon.trans hO2 (by simp)
     case measure=>simp[lenOf];omega
  ·obtain rfl:k=l.length:=by omega
   have hst:s.puts (l.take l.length)=s.puts l:=by rw[List.take_length]
   rw[hst]at hHk
   go_wp2_with fail
   go_end0
   exact⟨rfl,hHk,hon⟩
def be4(x:BitVec 32):List UInt8:=[UInt8.ofNat (x.toNat/16777216%256),UInt8.ofNat (x.toNat/65536%256),UInt8.ofNat (x.toNat/256%256),UInt8.ofNat (x.toNat%256)]
theorem Cc(n:Nat):((UInt8.ofNat (n%256)).toNat:Nat)=n%256:=by
 have:n%256<256:=by omega
 simp[Nat.mod_eq_of_lt this]
def AA(L:List Value)(o:Nat)(vs:List Value):List Value:=L.take o++(vs++L.drop (o+vs.length))
theorem abn(R t:List Value)(a x:Value)(o:Nat)(h:R.length=o):(R++a::t).set o x=R++x::t:=by subst h;simp
theorem alJ(L:List Value)(o:Nat)(a b c d:Value)(h:o+4≤L.length):((((L.set o a).set (o+1) b).set (o+2) c).set (o+3) d)=AA L o [a,b,c,d]:=by
 have hl:(L.drop o).length=L.length-o:=List.length_drop ..
 obtain⟨x0,x1,x2,x3,t,e⟩: ∃x0 x1 x2 x3 t,L.drop o=x0::x1::x2::x3::t:=by
  match hd:L.drop o with
  | x0::x1::x2::x3::t=>exact⟨x0,x1,x2,x3,t,rfl⟩
  | []=>rw[hd]at hl;simp at hl;omega
  | [_]=>rw[hd]at hl;simp at hl;omega
  | [_,_]=>rw[hd]at hl;simp at hl;omega
  | [_,_,_]=>rw[hd]at hl;simp at hl;omega
 have hL:L=L.take o++x0::x1::x2::x3::t:=by rw[←e,List.take_append_drop]
 have ht:(L.take o).length=o:=by rw[List.length_take];omega
 have hdr:L.drop (o+4)=t:=by rw[←List.drop_drop,e];rfl
 unfold AA
 rw[show o+[a,b,c,d].length=o+4 from rfl,hdr]
 generalize L.take o=R at*
 subst hL
 subst ht
 simp
theorem Kt(L vs:List Value)(o:Nat)(h:o+vs.length≤L.length):(AA L o vs).length=L.length:=by
 unfold AA;simp;omega
theorem rY(g off n c:Nat)(x:BitVec 32)(L:List Value)(t:TypeId)(w:World)(hg:w.heap[g]? =some (.cells L.toArray t (0,0)))(h4:off+4≤L.length)(hn:4≤n):
  Calls Tryz.prog 170 #[.slice (some ⟨g,off,none⟩) n c,.int .u32 x.toNat] w fun e w'=>e= .returned (.tuple #[])∧w'.heap[g]? =some (.cells (AA L off ((be4 x).map B8)).toArray t (0,0))∧Only [g] w w':=by
 have hx:=x.isLt
 have hc: ∀j,j<L.length→ ∃v,w.cell? ⟨g,j,none⟩=some v:=fun j hj=>⟨_,by rw[cell_of_row _ _ _ _ _ _ hg,List.getElem?_toArray,List.getElem?_eq_getElem hj]⟩
 have hf: ∀j,w.frozen? ⟨g,j,none⟩=false:=fun j=>by simp[World.frozen?,hg]
 obtain⟨y0,h0⟩:=hc off (by omega)
 obtain⟨y1,h1⟩:=hc (off+1) (by omega)
 obtain⟨y2,h2⟩:=hc (off+2) (by omega)
 obtain⟨y3,h3⟩:=hc (off+3) (by omega)
 have f0:=hf off
 have f1:=hf (off+1)
 have f2:=hf (off+2)
 have f3:=hf (off+3)
 have hbe:be4 x=[UInt8.ofNat (x.toNat/16777216%256),UInt8.ofNat (x.toNat/65536%256),UInt8.ofNat (x.toNat/256%256),UInt8.ofNat (x.toNat%256)]:=rfl
 have e0:(x.toNat:Int)/16777216%256=((UInt8.ofNat (x.toNat/16777216%256)).toNat:Int):=by rw[Cc (x.toNat/16777216)];omega
 have e0':(x.toNat:Int)/16777216=((UInt8.ofNat (x.toNat/16777216%256)).toNat:Int):=by rw[Cc (x.toNat/16777216)];omega
 have e1:(x.toNat:Int)/65536%256=((UInt8.ofNat (x.toNat/65536%256)).toNat:Int):=by rw[Cc (x.toNat/65536)];omega
 have e2:(x.toNat:Int)/256%256=((UInt8.ofNat (x.toNat/256%256)).toNat:Int):=by rw[Cc (x.toNat/256)];omega
 have e3:(x.toNat:Int)%256=((UInt8.ofNat (x.toNat%256)).toNat:Int):=by rw[Cc x.toNat];omega
 generalize UInt8.ofNat (x.toNat/16777216%256)=b0 at*
 generalize UInt8.ofNat (x.toNat/65536%256)=b1 at*
 generalize UInt8.ofNat (x.toNat/256%256)=b2 at*
 generalize UInt8.ofNat (x.toNat%256)=b3 at*
 have q0:=heap_set hg off (B8 b0)
 have q1:=heap_set q0 (off+1) (B8 b1)
 have q2:=heap_set q1 (off+2) (B8 b2)
 have q3:=heap_set q2 (off+3) (B8 b3)
 rw[alJ L off _ _ _ _ h4]at q3
 have HQ:=Lib.hid q3
 have hon:Only [g] w ((((w.setCell ⟨g,off,none⟩ (B8 b0)).setCell ⟨g,off+1,none⟩ (B8 b1)).setCell ⟨g,off+2,none⟩ (B8 b2)).setCell ⟨g,off+3,none⟩ (B8 b3)):=
  ((((Only.refl [g] w).setCell (by simp) _).setCell (by simp) _).setCell (by simp) _).setCell (by simp) _
 rw[hbe]
 clear hbe hc hf hg q0 q1 q2 q3
 go_enter Tryz.func170,Tryz.ntmps170
 go_wp2_with fail
 go_end0
 exact⟨rfl,HQ.out,hon⟩
def oh(n:Nat):Nat:=(119-n%64)%64
def padding(n:Nat):List UInt8:=128::(List.replicate (oh n) 0++(be4 (BitVec.ofNat 32 (8*n/4294967296))++be4 (BitVec.ofNat 32 (8*n))))
theorem NW(n:Nat):oh n<64:=by unfold oh;omega
theorem jG(x:BitVec 32):(be4 x).length=4:=rfl
theorem Ce(n:Nat):(padding n).length=9+oh n:=by unfold padding;simp[jG];omega
theorem xB{w:World}{base n:Nat}{t:TypeId}{g:Nat}{xs:List Value}(h:w.ownsRow base t 1 (.slice (some ⟨g,0,none⟩) n n) n xs):w.heap[g]? =some (.cells xs.toArray t (0,0)):=by
 obtain⟨hl,⟨h,_⟩ | ⟨g',cap,cur,e,_,hg,_,_,hsz,ht⟩⟩:=h
 ·cases h
 ·injection e with e1 _ e3
  injection e1 with e1
  injection e1 with e1
  subst e1;subst e3
  rw[Nat.mul_one]at hl hsz ht
  have:cur.toList=xs:=by rw[←ht,List.take_of_length_le (by simp;omega)]
  rw[hg,←this]
theorem Xl(n:Nat):(madeCells (Value.int .u8 0).cells (n*1)).toList=List.replicate n (Value.int .u8 0):=by
 rw[Nat.mul_one,show(Value.int .u8 0).cells= #[Value.int .u8 0]from rfl,toList_madeCells_one]
theorem Xm(z:Nat)(x y:BitVec 32):AA (AA ((List.replicate (1+z+8) (Value.int .u8 0)).set 0 (.int .u8 128)) (1+z) ((be4 x).map B8)) (1+z+4) ((be4 y).map B8)=(128::(List.replicate z 0++(be4 x++be4 y)):List UInt8).map B8:=by
 have e:(List.replicate (1+z+8) (Value.int .u8 0)).set 0 (.int .u8 128)=(.int .u8 128:Value)::(List.replicate z (.int .u8 0)++List.replicate 8 (.int .u8 0)):=by
  rw[show 1+z+8=(z+8)+1 by omega,List.replicate_succ,List.set_cons_zero,←List.replicate_append_replicate]
 rw[e]
 have h1:AA ((.int .u8 128:Value)::(List.replicate z (.int .u8 0)++List.replicate 8 (.int .u8 0))) (1+z) ((be4 x).map B8)=(.int .u8 128:Value)::(List.replicate z (.int .u8 0)++((be4 x).map B8++List.replicate 4 (.int .u8 0))):=by
  unfold AA
  rw[List.length_map,jG,show 1+z=z+1 by omega,show z+1+4=(z+4)+1 by omega,List.take_succ_cons,List.drop_succ_cons,List.take_append_of_le_length (by simp),List.drop_append]
  simp[List.take_of_length_le]
 rw[h1]
 unfold AA
 rw[List.length_map,jG,show 1+z+4=(z+4)+1 by omega,show z+4+1+4=(z+8)+1 by omega,List.take_succ_cons,List.drop_succ_cons,List.take_append,List.drop_append]
 simp[jG,List.drop_eq_nil_of_le,List.take_of_length_le]
theorem made_cell{w:World}{g n:Nat}{t:TypeId}(h:w.heap[g]? =some (.cells (List.replicate n (Value.int .u8 0)).toArray t (0,0)))(hn:0<n):w.cell? ⟨g,0,none⟩=some (.int .u8 0):=by
 rw[cell_of_row _ _ _ _ _ _ h,List.getElem?_toArray,List.getElem?_replicate,if_pos hn]
theorem zQ{w:World}{g:Nat}{C:Array Value}{t:TypeId}(h:w.heap[g]? =some (.cells C t (0,0)))(j:Nat):w.frozen? ⟨g,j,none⟩=false:=by simp[World.frozen?,h]
theorem lt_of_heap{w:World}{g:Nat}{o:Obj}(h:w.heap[g]? =some o):g<w.heap.size:=by
 rcases Nat.lt_or_ge g w.heap.size with h' | h'
 ·exact h'
 ·rw[Array.getElem?_eq_none h']at h;cases h
theorem abo(g:Nat)(s:St)(w:World)(hH:bZ w g s)(hg:g<w.heap.size)(hK: ∀i,i<64→w.cell? ⟨2,i,none⟩=some (aQ (Kc i)))(h1:2<g)(hn:s.n≤100000000):
  Calls Tryz.prog 169 #[.pointer (some ⟨g,0,none⟩)] w fun e w'=>e= .returned (.tuple #[])∧bZ w' g (s.puts (padding s.n))∧Only [g] w w':=by
 obtain⟨i,hi,hz0,hz1,hz2⟩:=info_parts wW
 have ahH:=(hH.cellAt 72).trans (s.NV hH.len)
 have hz:(119-(s.n:Int)%64)%64=((oh s.n:Nat):Int):=by unfold oh;omega
 have hzl:=NW s.n
 have hpl:=Ce s.n
 have NY:Hid (padding s.n=128::(List.replicate (oh s.n) 0++(be4 (BitVec.ofNat 32 (8*s.n/4294967296))++be4 (BitVec.ofNat 32 (8*s.n))))):=Lib.hid rfl
 have hx0:((BitVec.ofNat 32 (8*s.n/4294967296)).toNat:Int)=(s.n:Int)*8/4294967296:=by rw[BitVec.toNat_ofNat];omega
 have hx1:((BitVec.ofNat 32 (8*s.n)).toNat:Int)=(s.n:Int)*8:=by rw[BitVec.toNat_ofNat];omega
 generalize BitVec.ofNat 32 (8*s.n/4294967296)=x0 at*
 generalize BitVec.ofNat 32 (8*s.n)=x1 at*
 generalize oh s.n=z at*
 have HX0:=Lib.hid hx0
 have HX1:=Lib.hid hx1
 have HK:=Lib.hid hK
 have HZ:=Lib.hid hz
 have hnn:(s.n:Int)≤100000000:=by omega
 have hn0:(0:Int)≤(s.n:Int):=by omega
 have hmk:i.bytes*(1+z+8)≤281474976710656:=by rw[hz2];omega
 have hml:1+z+8≤maxLen:=by unfold maxLen;omega
 clear hx0 hx1 hK hn
 go_enter Tryz.func169,Tryz.ntmps169
 go_wp2_with (refine wpList_make_full _ rfl _ _ 22 rfl w.heap.size 5 i (.int .u8 0) 1 Tryz.underlying22 hi hz0 hz1 _ _ _ _ (1+z+8) rfl rfl (by omega) (by omega) hmk hml (Nat.le_refl _) ?_;intro w1 hown1 hg1;rw[Xl]at hown1;have hh1:=xB hown1;have c0:=made_cell hh1 (by omega);have f0:=zQ hh1 0)
 have hb1:Below w.heap.size w w1:=below_grown (Below.refl _ _) hg1 (Nat.le_refl _) (by simp)
 have hh2:=heap_set hh1 0 (.int .u8 128)
 have hb2:=hb1.setCell (p:=⟨w.heap.size,0,none⟩) (Nat.le_refl _) (.int .u8 128)
 have hs2:w.heap.size<(w1.setCell ⟨w.heap.size,0,none⟩ (.int .u8 128)).heap.size:=lt_of_heap hh2
 clear hh1 c0 f0 hown1 hg1 hb1
 generalize w1.setCell ⟨w.heap.size,0,none⟩ (.int .u8 128)=w2 at*
 rw[←HX0.out]
 refine(rY _ _ _ _ x0 _ _ w2 hh2 (by simp) (by omega)).mono ?_
 rintro e w3 ⟨rfl,hh3,ho3⟩
 go_wp2_with fail
 rw[←HX1.out]
 refine(rY _ _ _ _ x1 _ _ w3 hh3 (by rw[Kt _ _ _ (by simp[jG])];simp) (by omega)).mono ?_
 rintro e w4 ⟨rfl,hh4,fE⟩
 rw[Xm,←NY.out]at hh4
 have hb3:=hb2.trans (ho3.below (by omega) (by simp))
 have hb4:=hb3.trans (fE.below hb3.size (by simp))
 have Xk:=hH.Ip hb4 hg
 have hB4:Bytes w4 (some ⟨w.heap.size,0,none⟩) (padding s.n):=by
  refine .inr ⟨_,_,rfl,lt_of_heap hh4,fun k hk=> ?_⟩
  rw[cell_of_row _ _ _ _ _ _ hh4,Nat.zero_add,List.getElem?_toArray,List.getElem?_map,List.getElem?_eq_getElem hk];rfl
 have e9:1+z+8=(padding s.n).length:=by omega
 have HWR:=Lib.hid (write_any g s _ (padding s.n) (padding s.n).length w4 Xk hB4 (fun _ a e=>by injection e with e;subst e;simp;omega) (Nat.lt_of_lt_of_le hg hb4.size) (fun i hi=>(hb4.cell (p:=⟨2,i,none⟩) (by show 2<w.heap.size;omega)).trans (HK.out i hi)) h1 (Nat.le_refl _) (by omega) (by omega))
 have kH:Only [g] w w4:=⟨hb4.os,hb4.tape,hb4.output,hb4.size,fun i hi _=>hb4.block i hi⟩
 have E9:=Lib.hid e9
 clear e9 hh3 hh4 ho3 fE hb3 hh2 hb2 ahH hpl NY hB4 Xk
 go_wp2_with fail
 rw[E9.out]
 refine HWR.out.mono ?_
 rintro e w5 ⟨rfl,hH5,qj⟩
 go_wp2_with fail
 go_end0
 exact⟨rfl,hH5,kH.trans qj (by simp)⟩
def jH:R8:=⟨1779033703,3144134277,1013904242,2773480762,1359893119,2600822924,528734635,1541459225⟩
def St.new:St:=⟨jH,List.replicate 64 0,0⟩
def xC:Array Value:=(List.replicate 8 (Value.int .u32 0)++(List.replicate 64 (Value.int .u8 0)++[Value.int .u64 0])).toArray
theorem ado:(Tryz.prog.info? 253).map (fun i=>(i.zero,i.size))=some (some (.agg xC),73):=by kernel_rfl
theorem Ci:xC.size=73:=by simp[xC]
theorem Sr:((((((((xC.setIfInBounds 0 (aQ jH.a)).setIfInBounds 1 (aQ jH.b)).setIfInBounds 2 (aQ jH.c)).setIfInBounds 3 (aQ jH.d)).setIfInBounds 4 (aQ jH.e)).setIfInBounds 5 (aQ jH.f)).setIfInBounds 6 (aQ jH.g)).setIfInBounds 7 (aQ jH.h))=St.new.cells.toArray:=by
 simp[xC,St.cells,St.new,B8,List.replicate]
theorem Sv(tt:TypeId)(fr:Nat×Nat)(w:World)(hf:w.heap[1]? =some (.cells jH.agg tt fr)):
  Calls Tryz.prog 129 #[] w fun e w'=>e= .returned (.pointer (some ⟨w.heap.size,0,none⟩))∧bZ w' w.heap.size St.new∧Below w.heap.size w w':=by
 have hz:=(zero_of_info ado).1
 have hzs:=Ci
 have HNC:=Lib.hid Sr
 generalize xC=Z at*
 go_enter Tryz.func129,Tryz.ntmps129
 go_wp2_with (refine wpList_load_row rfl 250 _ rfl 1 rfl tt jH.agg _ _ hf Tryz.underlying250 rfl (by rw[qy];rfl) ?_)
 rw[HNC.out]
 go_ret
 exact⟨rfl,⟨heap_alloc_last _ _,by simp[St.new]⟩,dL _ _⟩
def kY(r:R8):Nat→List UInt8
 | 0=>[]
 | k+1=>kY r k++be4 (r.get k)
theorem lX(r:R8)(k:Nat):(kY r k).length=4*k:=by
 induction k with
 | zero=>rfl
 | succ k ih=>simp only[kY,List.length_append,ih,jG];omega
def St.digest(s:St):List UInt8:=kY (s.puts (padding s.n)).ws 8
theorem oM(s:St):s.digest.length=32:=lX _ 8
def zero32:Array Value:=(List.replicate 32 (Value.int .u8 0)).toArray
theorem Cj:(Tryz.prog.info? 124).map (fun i=>(i.zero,i.size))=some (some (.agg zero32),32):=by kernel_rfl
theorem uI:(Tryz.prog.info? 124).map (·.size)=some 32:=by kernel_rfl
theorem Xn:(Tryz.prog.info? 253).map (·.size)=some 73:=by kernel_rfl
theorem ahL(g o:Nat)(h:o<32)(w:World):(Instr.sliceAt 124 (.pointer (some ⟨g,0,none⟩)) (some (.int .i64 (o:Nat))) none none).run Tryz.prog w= .ok (.slice (some ⟨g,o,none⟩) (32-o) (32-o)) w:=by
 have ha:Tryz.prog.arrayLen 124=32:=by kernel_rfl
 have hu:Tryz.prog.underlying 124=some (.array (Tryz.prog.arrayLen 124) (Tryz.prog.elem 124)):=by kernel_rfl
 have hs:(sizeOf (Tryz.prog.elem 124)).run Tryz.prog w= .ok 1 w:=by kernel_rfl
 rw[run_sliceAt_array_l w 124 ⟨g,0,none⟩ hu .i64 (o:Nat) (by omega) (by rw[ha];omega),hs,ha]
 simp only[Result.andThen,slicedAt,Int.toNat_natCast,Nat.mul_one]
 rw[if_neg (by omega),Addr.add_mid,Nat.zero_add]
theorem Xo(r:R8)(k:Nat)(hk:k<8):AA ((kY r k).map B8++List.replicate (32-4*k) (Value.int .u8 0)) (4*k) ((be4 (r.get k)).map B8)=(kY r (k+1)).map B8++List.replicate (32-4*(k+1)) (Value.int .u8 0):=by
 have hl:=lX r k
 obtain⟨m,hm⟩: ∃m,32-4*k=4+m:=⟨28-4*k,by omega⟩
 unfold AA
 rw[List.length_map,jG,List.take_append_of_le_length (by simp[hl]),List.take_of_length_le (by simp[hl]),List.drop_append,hm]
 simp only[kY,List.map_append,List.append_assoc,List.length_map,hl]
 rw[List.drop_eq_nil_of_le (by simp[hl]),show 4*k+4-4*k=4 by omega,show 32-4*(k+1)=m by omega]
 simp
end Go.Proofs.YtgfpocdiojifoaaGreatDoor
