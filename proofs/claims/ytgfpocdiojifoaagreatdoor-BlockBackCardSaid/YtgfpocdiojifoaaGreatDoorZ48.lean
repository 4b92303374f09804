import Derived.Test.YtgfpocdiojifoaaGreatDoorZ47
namespace Go.Proofs.YtgfpocdiojifoaaGreatDoor
set_option maxRecDepth 100000
set_option maxHeartbeats 8000000
open Go.RowKit
def aae(w:World)(a k n:Nat)(L:List UInt8)(e:Ending)(w':World):Prop:= ∃A' c',e= .returned (.slice A' n c')∧(n≤c'∧c'≤9223372036854775807)∧w'=w.setCell ⟨a,0,none⟩ (.int .i64 ((k+n:Nat):Int))∧Bytes w' A' L
theorem Qq(a b:Nat)(A:Option Addr)(B:List UInt8)(c k n:Nat)(w:World)(ha:w.heap[a]? =some (.cells #[.int .i64 (k:Nat)] 3 (0,0)))(hb:w.cell? ⟨b,0,none⟩=some (.slice A B.length c))(hne:b≠a)(hB:Bytes w A B)(hA: ∀x,A=some x→x.block<a)(hkn:k+n≤B.length)(hc:B.length≤c)(hm:c≤9223372036854775807)(hl:B.length≤1000000):
  Calls Tryz.prog 34 #[.int .i64 (n:Nat),.pointer (some ⟨a,0,none⟩),.pointer (some ⟨b,0,none⟩)] w (aae w a k n ((B.drop k).take n)):=by
 have h0:w.cell? ⟨a,0,none⟩=some (.int .i64 (k:Nat)):=by rw[cell_of_row w _ _ _ _ _ ha];rfl
 have hf:=frozen_of_row w a 0 _ _ ha
 obtain⟨q,hq⟩: ∃q,k+n=q:=⟨_,rfl⟩
 have hsum:(k:Int)+(n:Int)=(q:Int):=by omega
 have auq:(q:Int)-(n:Int)=(k:Int):=by omega
 have hkq:(k:Int)≤(q:Int):=by omega
 have hqc:(q:Int)≤(c:Int):=by omega
 have hqi:(q:Int)≤1000000:=by omega
 have hci:(c:Int)≤9223372036854775807:=by omega
 have HT:Hid (Bytes (w.setCell ⟨a,0,none⟩ (.int .i64 (q:Int))) (if c=k then A else A.map fun x=>x.add k) ((B.drop k).take n)):=Lib.hid (by
  have hbl:Below a w (w.setCell ⟨a,0,none⟩ (.int .i64 (q:Int))):=Below.setCell (p:=⟨a,0,none⟩) (Below.refl _ _) (Nat.le_refl _) _
  exact((hB.low hbl hA).cutFrom (by omega) hc).take n)
 have HN:=Lib.hid (show n≤c-k∧c-k≤9223372036854775807 by omega)
 have HQ:=Lib.hid hq
 have HKN:=Lib.hid (show q-k=n by omega)
 clear ha hB hA hkn hc hm hl hq
 go_enter Tryz.func34,Tryz.ntmps34
 go_wp2_with fail
 case inl=>
  go_ret
  have hT:=HT.out
  rw[if_pos h]at hT
  exact⟨A,0,by rw[←HKN.out];rfl,by have:=HN.out;omega,by rw[HQ.out],hT⟩
 case inr=>
  go_ret
  have hT:=HT.out
  rw[if_neg h]at hT
  exact⟨_,c-k,by rw[←HKN.out];rfl,HN.out,by rw[HQ.out],hT⟩
def Qr(B:List UInt8)(check:Int)(mem:Nat)(r:List UInt8×Nat×(Nat×Nat)×Nat):Prop:=
 (∃er,Qp B mem ([],0,er)∧er≠0∧r=([],0,(0,0),er))∨
 (∃D u,Qp B mem (D,u,0)∧u≤1000000000∧D.length≤1000000∧((B.length<u+aY u+dS check∧u≤B.length∧r=([],0,(0,0),2))∨
  (u+aY u+dS check≤B.length∧(B.drop u).take (aY u)=List.replicate (aY u) 0∧(B.drop (u+aY u)).take (dS check)=tZ check D∧r=(D,u+aY u+dS check,(u+dS check,D.length),0))))
theorem Bytes.aaf{W:World}{R:Nat}{A:Option Addr}{l:List UInt8}{x y:Int}{t:TypeId}(h:Bytes W A l)(hr:W.heap[R]? =some (.cells [Value.int .i64 x,Value.int .i64 y].toArray t (0,0)))(i:Nat)(v:Value):Bytes (W.setCell ⟨R,i,none⟩ v) A l:=by
 rcases h with h | ⟨b,off,rfl,h2,h3⟩
 ·exact .inl h
 ·by_cases h0:l.length=0
  ·exact .inl (List.eq_nil_of_length_eq_zero h0)
  ·have hb:b≠R:=by
    rintro rfl
    have h4:=h3 0 (by omega)
    rw[cell_of_row W _ _ _ _ _ hr]at h4
    match off,h4 with
    | 0,h4=>simp at h4
    | 1,h4=>simp at h4
    | n+2,h4=>simp at h4
   exact .inr ⟨b,off,rfl,by simpa using h2,fun k hk=>(World.cell?_of_block (a:=⟨b,_,none⟩) (ah _ _ _ _ hb)).trans (h3 k hk)⟩
def wU(w:World)(r:List UInt8×Nat×(Nat×Nat)×Nat)(e:Ending)(w':World):Prop:=
 ∃A c,e= .returned (.tuple #[.slice A r.1.length c,.int .i64 (r.2.1:Nat),agf r.2.2.1,.int .i64 (r.2.2.2:Nat)])∧(r.1.length≤c∧c≤9223372036854775807)∧Bytes w' A r.1∧Below w.heap.size w w'
def NX(a:Nat)(w2:World)(k:Nat)(W:World):Prop:=W.heap[a]? =some (.cells #[.int .i64 (k:Nat)] 3 (0,0))∧Below a w2 W
theorem NX.below{a k:Nat}{w2 W W':World}(h:NX a w2 k W)(hb:Below W.heap.size W W'):NX a w2 k W':=
 have hl:=Nat.le_of_lt (Array.getElem?_eq_some_iff.1 h.1).1
 ⟨(hb.block _ (Array.getElem?_eq_some_iff.1 h.1).1).trans h.1,h.2.trans (hb.mono hl)⟩
def agl(a:Nat)(w2 W:World)(k n:Nat)(L:List UInt8)(e:Ending)(w':World):Prop:= ∃A' c',e= .returned (.slice A' n c')∧(n≤c'∧c'≤9223372036854775807)∧NX a w2 (k+n) w'∧Bytes w' A' L∧ ∀g l,g≠a→Bytes W (some ⟨g,0,none⟩) l→Bytes w' (some ⟨g,0,none⟩) l
theorem Bytes.ac4{W W':World}{g:Nat}{l:List UInt8}(h:Bytes W (some ⟨g,0,none⟩) l)(hs:W.heap.size≤W'.heap.size)(he:W'.heap[g]? =W.heap[g]?):Bytes W' (some ⟨g,0,none⟩) l:=by
 rcases h with h | ⟨b,off,e,h2,h3⟩
 ·exact .inl h
 ·injection e with e;injection e with e1 e2;subst e1;subst e2
  exact .inr ⟨_,_,rfl,Nat.lt_of_lt_of_le h2 hs,fun k hk=>(World.cell?_of_block (a:=⟨_,_,none⟩) he).trans (h3 k hk)⟩
theorem wU.err{w w':World}{er:Nat}(hb:Below w.heap.size w w'):wU w ([],0,(0,0),er) (.returned (.tuple #[.slice none 0 0,.int .i64 0,.agg #[.int .i64 0,.int .i64 0],.int .i64 (er:Nat)])) w':=⟨none,0,rfl,⟨Nat.le_refl _,by omega⟩,.nil,hb⟩
theorem wV(A B:Option Addr)(l m:List UInt8)(c d n:Nat)(w:World)(h1:Bytes w A l)(h2:Bytes w B m)(hl:l.length=n)(hm:m.length=n)(he:l=m):Calls Tryz.prog 36 #[.slice A n c,.slice B n d] w fun e w'=>e= .returned (.bool true)∧w=w':=by
 have h:=zN A B l m c d w h1 h2
 rw[hl,hm,he,beq_self_eq_true]at h
 exact h
theorem ER(A:Option Addr)(B:List UInt8)(c:Nat)(check:Int)(mem:Nat)(w:World)(r:List UInt8×Nat×(Nat×Nat)×Nat)(hr:Qr B check mem r)(hck:iD check=true)(hT:Tabs w)(hB:Bytes w A B)(hA: ∀a,A=some a→a.block<w.heap.size)(hc:B.length≤c)(hm:c≤9223372036854775807)(hl:B.length≤1000000)(hme:mem<18446744073709551616):
  Calls Tryz.prog 11 #[.slice A B.length c,.int .i64 check,.int .u64 (mem:Nat)] w (wU w r):=by
 obtain⟨W,hW⟩: ∃W,(w.alloc (.cells #[.slice A B.length c] 22)).alloc (.cells #[.int .i64 0,.int .i64 0] 29)=W:=⟨_,rfl⟩
 obtain⟨hrow,hrec,hbW,hzW⟩:=ad6 (vs:=[.slice A B.length c]) (us:=[.int .i64 0,.int .i64 0]) hW
 have HRW:=Lib.hid (fun(W':World) (h:Below W.heap.size W W')=>(h.block _ (Array.getElem?_eq_some_iff.1 hrec).1).trans hrec)
 have HCB:Hid (∀W':World,Below W.heap.size W W'→W'.cell? ⟨w.heap.size,0,none⟩=some (.slice A B.length c)):=Lib.hid (fun W' h=>by
  have h2:=(h.block _ (Array.getElem?_eq_some_iff.1 hrow).1).trans hrow
  rw[cell_of_row W' _ _ _ _ _ h2];rfl)
 have Fh:=Lib.hid (Ei check W)
 have HRP:=Lib.hid (fun(W':World) (h:Below W.heap.size W W') (q:List UInt8×Nat×Nat) (hq:Qp B mem q)=>MX A B c mem W' q hq ((hB.below hbW).below h) (fun a ha=>Nat.lt_of_lt_of_le (hA a ha) (Nat.le_trans hbW.size h.size)) hc hm hl hme)
 have HTA:=Lib.hid (fun(W':World) (h:Below W.heap.size W W')=>(hT.below hbW).below h)
 have HW:=Lib.hid hW
 have fV:=Lib.hid hbW
 have HZ:=Lib.hid hzW
 have HB:=Lib.hid (And.intro hB (And.intro hA (And.intro hc (And.intro hm hl))))
 have hrz:=HRW.out W (Below.refl _ _)
 rw[hck]at Fh
 have hx:=HCB.out W (Below.refl _ _)
 clear hrow hrec hW hbW hzW hB hA hc hm hl hme hck hT hrz
 rcases hr with⟨er,h1,hne,rfl⟩ | ⟨D,u,h1,hu,hD,hr⟩
 ·have HP:=Lib.hid (fun W' h=>HRP.out W' h _ h1)
  obtain⟨ei,VF⟩: ∃x:Int,(er:Int)=x:=⟨_,rfl⟩
  have hneb:(ei==0)=false:=by rw[beq_eq_false_iff_ne];omega
  have HEI:=Lib.hid VF
  clear h1 hne VF HRP
  go_enter Tryz.func11,Tryz.ntmps11
  go_upto_region 1 with fail
  rw[HW.out]
  clear HW
  go_wp2_with fail
  refine Fh.out.mono ?_
  rintro e w1 ⟨rfl,hb1⟩
  have HB1:=Lib.hid hb1
  clear hb1 hx
  have hx:=HCB.out w1 HB1.out
  go_wp2_with fail
  refine(HP.out w1 HB1.out).mono ?_
  rintro e w2 ⟨A2,c2,rfl,_,_,hb2⟩
  have HB2:=Lib.hid (HB1.out.trans (hb2.mono HB1.out.size))
  obtain⟨x0,x1,xf⟩:=lV (HRW.out w2 HB2.out)
  have xf0:=xf 0
  have xf1:=xf 1
  rw[HEI.out]
  clear hb2 xf hx
  obtain⟨e0,e1,_⟩:=lV (heap_set (heap_set (HRW.out w2 HB2.out) 0 (.int .i64 0)) 1 (.int .i64 0))
  have HFB:=Lib.hid (Below.setCell (p:=⟨w.heap.size+1,1,none⟩) (Below.setCell (p:=⟨w.heap.size+1,0,none⟩) (fV.out.trans (HB2.out.mono fV.out.size)) (by simp) (.int .i64 0)) (by simp) (.int .i64 0))
  go_wp2_with fail
  exact bodyPost_ret (v:= .tuple #[.slice none 0 0,.int .i64 0,.agg #[.int .i64 0,.int .i64 0],.int .i64 ei]) (by simp[results,Tryz.results11,go_sem,e0,e1]) rfl (by rw[←HEI.out];exact wU.err HFB.out)
 ·have HP:=Lib.hid (fun W' h=>HRP.out W' h _ h1)
  obtain⟨z,hz⟩: ∃n,aY u=n:=⟨_,rfl⟩
  obtain⟨y,hy⟩: ∃n,dS check=n:=⟨_,rfl⟩
  have hz3:z≤3:=by rw[←hz];unfold aY;omega
  have hy32:y≤32:=by
   rw[←hy];unfold dS
   split
   ·omega
   ·split
    ·omega
    ·split<;>omega
  rw[hz,hy]at hr
  have HZE:=Lib.hid (fun W=>Ap u hu W)
  have HSI:=Lib.hid (fun(W':World) (h:Below W.heap.size W W')=>size_any check W' (HTA.out W' h))
  rw[hz]at HZE
  rw[hy]at HSI
  have Hw:=Lib.hid (And.intro hu (And.intro hD (And.intro hz3 (And.intro hy32 hy))))
  have hui:(u:Int)≤1000000000:=by omega
  have hzi:(z:Int)≤3:=by omega
  have hyi:(y:Int)≤32:=by omega
  have hBi:(B.length:Int)≤1000000:=by have:=HB.out.2.2.2.2;omega
  clear h1 HRP hu hD hz3 hy32 hz hy
  go_enter Tryz.func11,Tryz.ntmps11
  go_upto_region 1 with fail
  rw[HW.out]
  clear HW
  go_wp2_with fail
  refine Fh.out.mono ?_
  rintro e w1 ⟨rfl,hb1⟩
  have HB1:=Lib.hid hb1
  clear hb1 hx
  have hx:=HCB.out w1 HB1.out
  go_wp2_with fail
  refine(HP.out w1 HB1.out).mono ?_
  rintro e w2 ⟨A2,c2,rfl,⟨hc2,hm2⟩,hB2,hb2⟩
  have HB2:=Lib.hid (HB1.out.trans (hb2.mono HB1.out.size))
  have H2:=Lib.hid (And.intro hB2 (And.intro hc2 hm2))
  clear hb2 hx hc2 hm2 hB2 HP Fh
  go_upto_region 8 with fail
  obtain⟨w3,hw3⟩: ∃W',w2.alloc (.cells #[.int .i64 (u:Nat)] 3)=W':=⟨_,rfl⟩
  obtain⟨hrow3,hb3⟩:=gY (vs:=[.int .i64 (u:Nat)]) hw3
  rw[hw3]
  obtain⟨a,ha⟩: ∃n,w2.heap.size=n:=⟨_,rfl⟩
  rw[ha]at hrow3 hb3 ⊢
  have HA:=Lib.hid ha
  have HN3:=Lib.hid (show NX a w2 u w3 from⟨hrow3,hb3⟩)
  have HB3:=Lib.hid (HB2.out.trans (hb3.mono (by rw[←ha];exact HB2.out.size)))
  clear hw3 hrow3 hb3 ha
  go_wp2_with fail
  refine(HZE.out _).mono ?_
  rintro e x3 ⟨rfl,rfl⟩
  go_wp2_with fail
  refine(HSI.out w3 HB3.out).mono ?_
  rintro e w4 ⟨rfl,hb4⟩
  have HN4:=Lib.hid (HN3.out.below hb4)
  have HB4:=Lib.hid (HB3.out.trans (hb4.mono HB3.out.size))
  have hx:=HCB.out w4 HB4.out
  have hat:w4.cell? ⟨a,0,none⟩=some (.int .i64 (u:Nat)):=by rw[cell_of_row w4 _ _ _ _ _ HN4.out.1];rfl
  clear hb4
  rcases hr with⟨hlt,hub,rfl⟩ | ⟨hle,aj6,hsum,rfl⟩
  ·have Om:(B.length:Int)-(u:Int)<(z:Int)+(y:Int):=by omega
   have aj7:(u:Int)≤(B.length:Int):=by omega
   obtain⟨x0,x1,xf⟩:=lV (HRW.out w4 HB4.out)
   have xf0:=xf 0
   have xf1:=xf 1
   obtain⟨e0,e1,_⟩:=lV (heap_set (heap_set (HRW.out w4 HB4.out) 0 (.int .i64 0)) 1 (.int .i64 0))
   have HFB:=Lib.hid (Below.setCell (p:=⟨w.heap.size+1,1,none⟩) (Below.setCell (p:=⟨w.heap.size+1,0,none⟩) (fV.out.trans (HB4.out.mono fV.out.size)) (by simp) (.int .i64 0)) (by simp) (.int .i64 0))
   clear hlt hub xf
   go_wp2_with fail
   exact bodyPost_ret (v:= .tuple #[.slice none 0 0,.int .i64 0,.agg #[.int .i64 0,.int .i64 0],.int .i64 2]) (by simp[results,Tryz.results11,go_sem,e0,e1]) rfl (wU.err HFB.out)
  ·have aon:(z:Int)+(y:Int)≤(B.length:Int)-(u:Int):=by omega
   have aj7:(u:Int)≤(B.length:Int):=by omega
   have HLE:=Lib.hid hle
   have NY:=Lib.hid aj6
   have HSU:=Lib.hid hsum
   have qR:Hid (∀(k n:Nat) (W':World),NX a w2 k W'→k+n≤B.length→Calls Tryz.prog 34 #[.int .i64 (n:Nat),.pointer (some ⟨a,0,none⟩),.pointer (some ⟨w.heap.size,0,none⟩)] W' (agl a w2 W' k n ((B.drop k).take n))):=Lib.hid (fun k n W' h hk=>by
    have hb2:Below w2.heap.size w2 W':=by rw[HA.out];exact h.2
    have hbw:=HB2.out.trans (hb2.mono HB2.out.size)
    have hlt:w.heap.size<a:=by rw[←HA.out];have h1:=HB2.out.size;have h2:=HZ.out;omega
    refine(Qq a w.heap.size A B c k n W' h.1 (HCB.out W' hbw) (by omega) (HB.out.1.below (fV.out.trans (hbw.mono fV.out.size))) (fun x hx=>Nat.lt_trans (HB.out.2.1 x hx) hlt) hk HB.out.2.2.1 HB.out.2.2.2.1 HB.out.2.2.2.2).mono ?_
    rintro e w' ⟨A',c',e1,h1,rfl,h3⟩
    exact⟨A',c',e1,h1,⟨heap_set (L:=[.int .i64 (k:Nat)]) h.1 0 (.int .i64 ((k+n:Nat):Int)),h.2.trans (Below.setCell (p:=⟨a,0,none⟩) (Below.refl _ _) (Nat.le_refl _) _)⟩,h3,fun g l hg hl=>hl.ac4 (by simp) (ah _ _ _ _ hg)⟩)
   have HSM:=Lib.hid (fun(W':World) (h:NX a w2 (u+z+y) W')=>(show Calls Tryz.prog 18 #[.int .i64 check,.slice A2 D.length c2] W' (dO W' (tZ check D))from by
    have hb2:Below w2.heap.size w2 W':=by rw[HA.out];exact h.2
    exact Jd check A2 D c2 W' (HTA.out W' (HB2.out.trans (hb2.mono HB2.out.size))) (H2.out.1.below hb2) H2.out.2.1 H2.out.2.2 (by have:=Hw.out.2.1;omega)))
   have HAL:=Lib.hid (show a≤w4.heap.size from Nat.le_of_lt (Array.getElem?_eq_some_iff.1 HN4.out.1).1)
   clear hle aj6 hsum
   go_upto_region 11 with fail
   clear aon aj7 hx hat
   go_cut [53]from 47 (fun s53 wx=>s53= .bool false∧NX a w2 (u+z) wx)
   case first=>
    refine wp_region_held_drew (S:=fun _=>True) (by kernel_rfl) trivial (fun hS=> ?_)
    refine tq 0 hS ?_
    refine tq 1 hS ?_
    refine tq 3 hS ?_
    refine wpAnyH_ready (rs:=[2,4]) (by kernel_rfl) (by simp) ?_
    refine(AllReadyH.cons (o:={dst:=some 49,op:=Op.call {callee:=Callee.value (Operand.tmp 47),args:= #[Operand.tmp 48],argTypes:= #[3]},type:=22,pos:= "block.go:67",after:= #[{on:=0,ground:=Ground.data},{on:=1,ground:=Ground.data}],guard:=none}) rfl (fun K hK=> ?_) (AllReadyH.cons (o:={dst:=some 51,op:=Op.makeSlice 22 (Operand.tmp 50) (Operand.tmp 50),type:=22,pos:= "block.go:67",after:= #[{on:=3,ground:=Ground.data},{on:=3,ground:=Ground.data}],guard:=none}) rfl (fun K hK=> ?_) AllReadyH.nil))
    ·skip
     go_simp
     refine(qR.out u z w4.drew (HN4.out.below (aK w4)) (by have:=HLE.out;omega)).mono ?_
     rintro e x2 ⟨A5,c5,rfl,hc5,hn5,PE,_⟩
     have H5:=Lib.hid (And.intro hn5 PE)
     clear hc5 hn5 PE
     go_wp2_with fail
     refine hK.out _ _ trivial (fun _=> ?_)
     clear hK K
     refine tr 4 (fun K hK=> ?_)
     refine jF rfl (.tmp 50) (.tmp 50) rfl a z x2 rfl rfl (by have:=Hw.out.2.2.1;omega) (Nat.le_of_lt (Array.getElem?_eq_some_iff.1 H5.out.1.1).1) ?_
     intro x4 fE hg4
     have hb4:Below x2.heap.size x2 x4:=below_grown (Below.refl _ _) hg4 (Nat.le_refl _) (fun g e=>by cases e)
     have Oh:=Lib.hid (wV A5 (some ⟨x2.heap.size,0,none⟩) _ _ c5 z z x4 (H5.out.2.below hb4) (oI fE) (by rw[NY.out,List.length_replicate]) (by rw[List.length_replicate]) NY.out)
     have HN6:=Lib.hid (H5.out.1.below hb4)
     clear fE hg4 hb4
     simp only[Act.put,List.setIfInBounds_toArray,List.set_cons_zero,List.set_cons_succ]
     refine hK.out _ _ trivial (fun _=> ?_)
     clear hK K
     refine tr 5 (fun K hK=> ?_)
     go_simp
     refine Oh.out.mono ?_
     rintro e x5 ⟨rfl,rfl⟩
     go_wp2_with fail
     refine hK.out _ _ trivial (fun _=> ?_)
     clear hK K
     refine tq 6 trivial ?_
     refine wpAnyH_done (by kernel_rfl) ?_ _
     go_wp2_with fail
     go_meet
     exact⟨rfl,HN6.out⟩
    ·skip
     refine jF rfl (.tmp 50) (.tmp 50) rfl a z w4.drew rfl rfl (by have:=Hw.out.2.2.1;omega) HAL.out ?_
     intro x2 fE hg4
     have hb4:Below w4.drew.heap.size w4.drew x2:=below_grown (Below.refl _ _) hg4 (Nat.le_refl _) (fun g e=>by cases e)
     have HN5:=Lib.hid ((HN4.out.below (aK w4)).below hb4)
     have J5:=Lib.hid fE
     clear fE hg4 hb4
     simp only[Act.put,List.setIfInBounds_toArray,List.set_cons_zero,List.set_cons_succ]
     refine hK.out _ _ trivial (fun _=> ?_)
     clear hK K
     refine tr 2 (fun K hK=> ?_)
     go_simp
     refine(qR.out u z x2 HN5.out (by have:=HLE.out;omega)).mono ?_
     rintro e x4 ⟨A5,c5,rfl,hc5,hn5,PE,hkp⟩
     have HN6:=Lib.hid hn5
     have Oh:=Lib.hid (wV A5 (some ⟨w4.drew.heap.size,0,none⟩) _ _ c5 z z x4 PE (hkp _ _ (Nat.ne_of_gt (Array.getElem?_eq_some_iff.1 HN4.out.1).1) (oI J5.out)) (by rw[NY.out,List.length_replicate]) (by rw[List.length_replicate]) NY.out)
     clear hc5 hn5 PE
     go_wp2_with fail
     refine hK.out _ _ trivial (fun _=> ?_)
     clear hK K
     refine tr 5 (fun K hK=> ?_)
     go_simp
     refine Oh.out.mono ?_
     rintro e x5 ⟨rfl,rfl⟩
     go_wp2_with fail
     refine hK.out _ _ trivial (fun _=> ?_)
     clear hK K
     refine tq 6 trivial ?_
     refine wpAnyH_done (by kernel_rfl) ?_ _
     go_wp2_with fail
     go_meet
     exact⟨rfl,HN6.out⟩
   case rest=>
   obtain⟨h53,hnx⟩:=hcut
   subst h53
   have HN7:=Lib.hid hnx
   clear hnx
   go_wp2_with fail
   refine(qR.out (u+z) y wc HN7.out HLE.out).mono ?_
   rintro e w8 ⟨A8,c8,rfl,hc8,hn8,hB8,_⟩
   have HN8:=Lib.hid hn8
   have OM:=Lib.hid hB8
   clear hc8 hn8 hB8
   go_wp2_with fail
   refine(HSM.out w8 HN8.out).mono ?_
   rintro e w9 ⟨A9,c9,rfl,hc9,_,hB9,Jy⟩
   have HN9:=Lib.hid (HN8.out.below Jy)
   have hy:=Hw.out.2.2.2.2
   have hsl:(tZ check D).length=y:=by rw[jQ];exact hy
   rw[hsl]
   have Oh:=Lib.hid (wV A8 A9 _ _ c8 c9 y w9 (OM.out.below Jy) hB9 (by rw[HSU.out];exact hsl) hsl HSU.out)
   clear Jy hB9 hc9 hy hsl
   go_wp2_with fail
   refine Oh.out.mono ?_
   rintro e w10 ⟨rfl,rfl⟩
   obtain⟨uy,huy⟩: ∃n,u+y=n:=⟨_,rfl⟩
   have hsum:(u:Int)+(y:Int)=(uy:Int):=by omega
   have aoo:(uy:Int)≤1000000100:=by omega
   have HUY:=Lib.hid huy
   obtain⟨t,ht⟩: ∃n,u+z+y=n:=⟨_,rfl⟩
   have Wn:=Lib.hid ht
   have aag:w9.cell? ⟨a,0,none⟩=some (.int .i64 (t:Nat)):=by rw[←ht,cell_of_row w9 _ _ _ _ _ HN9.out.1];rfl
   have agm:Below w2.heap.size w2 w9:=by rw[HA.out];exact HN9.out.2
   have FQ:=Lib.hid (HB2.out.trans (agm.mono HB2.out.size))
   obtain⟨x0,x1,xf⟩:=lV (HRW.out w9 FQ.out)
   have xf0:=xf 0
   have xf1:=xf 1
   have Jv:Hid (∀(W':World) (i:Nat) (v:Value),(W'.setCell ⟨w.heap.size+1,i,none⟩ v).cell? ⟨a,0,none⟩=W'.cell? ⟨a,0,none⟩):=Lib.hid (fun W' i v=>World.cell?_of_block (a:=⟨a,0,none⟩) (ah _ _ _ _ (by have h1:=HA.out;have h2:=HB2.out.size;have h3:=HZ.out;show a≠w.heap.size+1;omega)))
   have HC9:=Lib.hid aag
   have aoq:=Lib.hid agm
   clear huy ht xf agm hui hzi hyi hBi
   go_upto_region 15 with fail
   clear hsum aoo aag
   have hsum:IntKind.i64.wrap ((u:Int)+(y:Int))=(uy:Int):=by have h1:=HUY.out;have h2:=Hw.out;rw[IntWalk.i64_in _ (by omega)];omega
   refine wp_region_held_drew (S:=fun W=>W.cell? ⟨a,0,none⟩=some (.int .i64 (t:Nat))) (by kernel_rfl) HC9.out (fun hS=> ?_)
   refine tq 0 hS ?_
   refine tq 1 hS ?_
   refine tq 2 hS ?_
   refine tq 3 hS ?_
   refine tq 4 hS ?_
   refine tq 5 hS ?_
   refine tq 6 hS ?_
   refine tq 7 hS ?_
   refine tq 8 hS ?_
   refine tq 9 hS ?_
   refine tr 10 (fun K hK=> ?_)
   go_simp
   refine hK.out _ _ ((Jv.out _ _ _).trans ((Jv.out _ _ _).trans HC9.out)) (fun _=> ?_)
   clear hK K
   refine tq 11 ((Jv.out _ _ _).trans ((Jv.out _ _ _).trans HC9.out)) ?_
   refine wpAnyH_done (by kernel_rfl) ?_ _
   clear hS x0 x1 xf0 xf1
   obtain⟨e0,e1,_⟩:=lV (heap_set (heap_set (HRW.out w9 FQ.out) 0 (.int .i64 (uy:Nat))) 1 (.int .i64 (D.length:Nat)))
   have HFB:=Lib.hid (Below.setCell (p:=⟨w.heap.size+1,1,none⟩) (Below.setCell (p:=⟨w.heap.size+1,0,none⟩) (fV.out.trans (FQ.out.mono fV.out.size)) (by simp) (.int .i64 (uy:Nat))) (by simp) (.int .i64 (D.length:Nat)))
   have HU2:=Lib.hid (H2.out.1.below aoq.out)
   go_wp2_with fail
   refine bodyPost_ret (v:= .tuple #[.slice A2 D.length c2,.int .i64 (t:Nat),.agg #[.int .i64 (uy:Nat),.int .i64 (D.length:Nat)],.int .i64 0]) (by simp[results,Tryz.results11,go_sem,e0,e1]) rfl ⟨A2,c2,by rw[←HUY.out,←Wn.out];rfl,⟨H2.out.2.1,H2.out.2.2⟩,?_,HFB.out.drew⟩
   exact(Bytes.aaf (x:=(uy:Nat)) (y:=0) (Bytes.aaf (x:=0) (y:=0) HU2.out (HRW.out w9 FQ.out) 0 _) (heap_set (HRW.out w9 FQ.out) 0 (.int .i64 (uy:Nat))) 1 _).drew
theorem ES{o:Op}(h:o.Ok)(D:List UInt8)(hD:D.length≤100000)(hf: ∀f∈o.l,f.ok)(E:List UInt8):jD (gB (o.head D)++E)=(o.head D,(gB (o.head D)).length,0):=
 Vp _ _ (o.iZ h D hD).1 hf (o.iZ h D hD).2
theorem RD{o:Op}(h:o.Ok)(D:List UInt8)(hD:D.length≤100000)(hf: ∀f∈o.l,f.ok)(E:List UInt8)(mem:Nat)(hm:aJ (aV o.dict)≤mem):Qp (o.lM D++E) mem (D,(o.lM D).length,0):=by
 have hd:=qh o.dict h.dict.2
 have h4:=h.dict.1
 have hall:=(EN _ h.may).1
 have hpl:=o.nT h D
 have hhl:=o.EO h D hD hf
 have hB:o.lM D++E=gB (o.head D)++(o.packed D++E):=by unfold Op.lM;rw[List.append_assoc]
 have hk:(o.k (dW o.l D)).D=dW o.l D:=rfl
 have hsl:=dR o.l D
 obtain⟨b1,b2⟩:=U6 (k:=o.k (dW o.l D)) (dict:=((aJ (aV o.dict):Nat):Int)) (h.bk _ (by rw[hsl];exact hD)) h.chunk (by show((o.dict:Nat):Int)≤_;omega) E (fuel:=(o.lM D++E).length+1) (by rw[hB];simp only[List.length_append];have e:(dU (o.k (dW o.l D))).length=(o.packed D).length:=rfl;omega)
 rw[hk]at b1
 refine .inr (.inr ⟨o.head D,(gB (o.head D)).length,dW o.l D,(o.packed D).length,0,(o.lM D++E).length+1,?_,?_,?_,.inr ⟨rfl,h.may,rfl,?_,?_,?_,?_,?_⟩⟩)
 ·rw[hB];exact ES h D hD hf _
 ·rw[hB,List.length_append]
  show 1≤aJ (aV o.dict)∧aJ (aV o.dict)<4294967296∧aJ (aV o.dict)≤mem∧_
  omega
 ·refine⟨Nat.lt_succ_self _,?_,?_⟩
  ·rw[hB]at b1 ⊢;rw[List.drop_left];exact b1
  ·rw[hB]at b2 ⊢;rw[List.drop_left];exact b2
 ·show((D.length:Nat):Int)=((dW o.l D).length:Nat);rw[hsl]
 ·rw[hsl];omega
 ·omega
 ·omega
 ·show(D,(o.lM D).length,0)=(oz o.l (dW o.l D),(gB (o.head D)).length+(o.packed D).length,0)
  rw[LJ _ _ hall];unfold Op.lM;rw[List.length_append]
theorem agn{o:Op}(h:o.Ok)(D:List UInt8)(hD:D.length≤100000)(hf: ∀f∈o.l,f.ok)(E:List UInt8)(mem:Nat)(hm:mem<o.dict):Qp (gB (o.head D)++E) mem ([],0,9):=by
 have hd:=qh o.dict h.dict.2
 exact .inr (.inl ⟨o.head D,_,ES h D hD hf _,by show aJ (aV o.dict)<4294967296;omega,by show mem<aJ (aV o.dict);omega,rfl⟩)
theorem agp{o:Op}(h:o.Ok)(D:List UInt8)(hD:D.length≤100000)(hf: ∀f∈o.l,f.ok)(mem:Nat)(hm:aJ (aV o.dict)≤mem):Qp ((o.lM D).take ((o.lM D).length-1)) mem ([],0,2):=by
 have hd:=qh o.dict h.dict.2
 have h4:=h.dict.1
 have hpl:=o.nT h D
 have hB:(o.lM D).take ((o.lM D).length-1)=gB (o.head D)++(o.packed D).take ((o.packed D).length-1):=by
  unfold Op.lM;rw[List.length_append,show(gB (o.head D)).length+(o.packed D).length-1=(gB (o.head D)).length+((o.packed D).length-1) by omega,List.take_length_add_append]
 obtain⟨b1,b2⟩:=ZY (k:=o.k (dW o.l D)) (dict:=((aJ (aV o.dict):Nat):Int)) (h.bk _ (by rw[dR];exact hD)) h.chunk (by show((o.dict:Nat):Int)≤_;omega) (fuel:=(o.lM D).length+1) (by unfold Op.lM;rw[List.length_append];show(dU (o.k (dW o.l D))).length≤_+(dU (o.k (dW o.l D))).length+1;omega)
 have hl:((o.lM D).take ((o.lM D).length-1)).length<(o.lM D).length+1:=by rw[List.length_take];omega
 rw[hB]at hl ⊢
 refine .inr (.inr ⟨o.head D,(gB (o.head D)).length,[],0,2,(o.lM D).length+1,ES h D hD hf _,?_,⟨hl,?_,?_⟩,.inl ⟨by decide,rfl⟩⟩)
 ·rw[List.length_append]
  show 1≤aJ (aV o.dict)∧aJ (aV o.dict)<4294967296∧aJ (aV o.dict)≤mem∧_
  omega
 ·rw[List.drop_left];exact b1
 ·rw[List.drop_left];exact b2
theorem Op.nU(o:Op)(D:List UInt8):(o.blk D).length=(o.lM D).length+aY (o.lM D).length+dS o.check:=by
 rw[←o.aad,List.length_append,List.length_append,List.length_replicate,jQ]
theorem Op.Jr{o:Op}(h:o.Ok)(D:List UInt8)(hD:D.length≤100000)(hf: ∀f∈o.l,f.ok):9≤(o.lM D).length∧(o.lM D).length≤500000:=by
 have h1:=o.nT h D;have h2:=o.EO h D hD hf
 have h3:=(lH (o.head D) (o.iZ h D hD).1 hf (o.iZ h D hD).2)
 unfold Op.lM;rw[List.length_append];omega
theorem RF{o:Op}(h:o.Ok)(D:List UInt8)(hD:D.length≤100000)(hf: ∀f∈o.l,f.ok)(E:List UInt8)(mem:Nat)(hm:aJ (aV o.dict)≤mem):Qr (o.blk D++E) o.check mem (D,(o.blk D).length,o.rc D,0):=by
 have hu:=o.Jr h D hD hf
 have hB:o.blk D++E=o.lM D++(List.replicate (aY (o.lM D).length) 0++(tZ o.check D++E)):=by unfold Op.blk;simp only[List.append_assoc]
 have hs:=jQ o.check D
 refine .inr ⟨D,(o.lM D).length,by rw[hB];exact RD h D hD hf _ mem hm,by omega,by omega,.inr ⟨?_,?_,?_,?_⟩⟩
 ·rw[List.length_append,o.nU];omega
 ·rw[hB,List.drop_left,List.take_left' (by rw[List.length_replicate])]
 ·rw[hB,←List.drop_drop,List.drop_left,List.drop_left' (by rw[List.length_replicate]),List.take_left' hs]
 ·rw[o.nU];rfl
theorem aah{o:Op}(h:o.Ok)(D:List UInt8)(hD:D.length≤100000)(hf: ∀f∈o.l,f.ok)(E:List UInt8)(mem:Nat)(hm:mem<o.dict):Qr (o.blk D++E) o.check mem ([],0,(0,0),9):=by
 have hB:o.blk D++E=gB (o.head D)++(o.packed D++(List.replicate (aY (o.lM D).length) 0++(tZ o.check D++E))):=by unfold Op.blk Op.lM;simp only[List.append_assoc]
 exact .inl ⟨9,by rw[hB];exact agn h D hD hf _ mem hm,by decide,rfl⟩
theorem agq{o:Op}(h:o.Ok)(D:List UInt8)(hD:D.length≤100000)(hf: ∀f∈o.l,f.ok)(mem:Nat)(hm:aJ (aV o.dict)≤mem):Qr ((o.blk D).take ((o.blk D).length-1)) o.check mem ([],0,(0,0),2):=by
 have hu:=o.Jr h D hD hf
 have hbl:=o.nU D
 by_cases h0:aY (o.lM D).length+dS o.check=0
 ·have e1:o.blk D=o.lM D:=by
   have hz:aY (o.lM D).length=0:=by omega
   have hs:tZ o.check D=[]:=List.eq_nil_of_length_eq_zero (by rw[jQ];omega)
   unfold Op.blk;rw[hz,hs];simp
  rw[e1]
  exact .inl ⟨2,agp h D hD hf mem hm,by decide,rfl⟩
 ·obtain⟨T,hT⟩: ∃T,(List.replicate (aY (o.lM D).length) 0++tZ o.check D).take ((o.blk D).length-1-(o.lM D).length)=T:=⟨_,rfl⟩
  have hB:(o.blk D).take ((o.blk D).length-1)=o.lM D++T:=by
   rw[←hT]
   conv=>lhs;arg 1;rw[show(o.blk D).length-1=(o.lM D).length+((o.blk D).length-1-(o.lM D).length) by omega]
   show(o.lM D++_).take _=_
   rw[List.take_length_add_append]
  have hl:((o.blk D).take ((o.blk D).length-1)).length=(o.blk D).length-1:=by rw[List.length_take];omega
  refine .inr ⟨D,(o.lM D).length,by rw[hB];exact RD h D hD hf _ mem hm,by omega,by omega,.inl ⟨by rw[hl];omega,by rw[hl];omega,rfl⟩⟩
def pO:Op:=⟨3,0,2,64,65536,65536,1,none,[],0,4096⟩
theorem Bv:pO.fine=true:=by decide
theorem Js(w:World):Calls Tryz.prog 12 #[] w fun e w'=>e= .returned pO.v∧Below w.heap.size w w':=by
 go_enter Tryz.func12,Tryz.ntmps12
 go_wp2_with fail
 refine bodyPost_ret (v:=pO.v) (by simp[results,Tryz.results12,go_sem,pO]) rfl ⟨rfl,?_⟩
 exact(Below.refl _ _).alloc (Nat.le_refl _) _
theorem aj9(w:World):L6 w pO:=⟨.inl rfl,by decide,by decide,by decide,by decide⟩
theorem RG: ∀f∈pO.l,f.ok:=fun f h=>by cases h
theorem Vq:pO.packed []=[0]:=rfl
theorem aai:(pO.lM []).length=13:=by
 have h1:=(lH (pO.head []) (pO.iZ (Op.Ok.of Bv) [] (by decide)).1 RG (pO.iZ (Op.Ok.of Bv) [] (by decide)).2).1
 have h2:(nJ (bH (pO.head []))).length=8:=by decide+kernel
 unfold Op.lM
 rw[List.length_append,h1,h2,Vq];rfl
theorem ad8:pO.rc []=(17,0):=by unfold Op.rc;rw[aai];rfl
theorem ET:(pO.blk []).length=20:=by rw[Op.nU,aai];rfl
theorem ac5:aJ (aV pO.dict)=4096:=by decide+kernel
theorem MZ(w:World)(hT:Tabs w):Calls Tryz.prog 5 #[] w (Holds w):=by
 have hok:=Op.Ok.of Bv
 have hPK:=Lib.hid (fun(W:World) (h:Below w.heap.size w W)=>EP pO none [] 0 W Bv (aj9 W) RG (hT.below h) .nil (by decide) (by decide) (by decide))
 have hRG:=Lib.hid (fun(W:World) (g c mem:Nat) (r:List UInt8×Nat×(Nat×Nat)×Nat) (h:Below w.heap.size w W) (hB:Bytes W (some ⟨g,0,none⟩) (pO.blk [])) (hg:g<W.heap.size) (hc:20≤c) (hm:c≤9223372036854775807) (hr:Qr (pO.blk []) pO.check mem r) (hme:mem≤4096)=>(show Calls Tryz.prog 11 #[.slice (some ⟨g,0,none⟩) 20 c,.int .i64 1,.int .u64 (mem:Nat)] W (wU W r)from by
  have h:=ER (some ⟨g,0,none⟩) (pO.blk []) c pO.check mem W r hr (by decide) (hT.below h) hB (fun a e=>by injection e with e;rw[←e];exact hg) (by rw[ET];exact hc) hm (by rw[ET];decide) (by omega)
  rw[ET]at h
  exact h))
 have hgood:=RF hok [] (by decide) RG [] 4096 (by rw[ac5];exact Nat.le_refl _)
 have hbad:=aah hok [] (by decide) RG [] 4095 (by decide)
 rw[List.append_nil]at hgood hbad
 rw[ET,ad8]at hgood
 have HG:=Lib.hid hgood
 have HM:=Lib.hid hbad
 clear hok hgood hbad hT
 go_enter Tryz.func5,Tryz.ntmps5
 go_wp2_with fail
 refine(Js w).mono ?_
 rintro e w1 ⟨rfl,hb1⟩
 have HB1:=Lib.hid hb1
 have agr:=hPK.out w1 hb1
 rw[ad8]at agr
 have HP1:=Lib.hid agr
 clear hb1 agr
 go_wp2_with fail
 refine HP1.out.mono ?_
 rintro e w2 ⟨g,c,rfl,hc,hm,⟨_,hg⟩,hF,hb2⟩
 have HB2:=Lib.hid (HB1.out.trans (hb2.mono HB1.out.size))
 rw[ET]at hc ⊢
 have H2:=Lib.hid (And.intro hc (And.intro hm (And.intro hg (hF.bytes hg))))
 clear hc hm hg hF hb2
 go_upto_region 2 with fail
 obtain⟨w3,hw3⟩: ∃W',w2.alloc (.cells #[.int .i64 17,.int .i64 0] 29)=W':=⟨_,rfl⟩
 obtain⟨hr3,hb3⟩:=gY (vs:=[.int .i64 17,.int .i64 0]) hw3
 rw[hw3]
 have H3:=Lib.hid (And.intro hr3 hb3)
 have HB3:=Lib.hid (HB2.out.trans (hb3.mono HB2.out.size))
 have hR1:=Lib.hid (hRG.out w3 g c 4096 _ HB3.out (H2.out.2.2.2.below hb3) (Nat.lt_of_lt_of_le H2.out.2.2.1 hb3.size) H2.out.1 H2.out.2.1 HG.out (Nat.le_refl _))
 clear hw3 hr3 hb3
 go_wp2_with fail
 refine hR1.out.mono ?_
 rintro e w4 ⟨A4,c4,rfl,_,_,hb4⟩
 have HB4:=Lib.hid (HB3.out.trans (hb4.mono HB3.out.size))
 have afc:=Lib.hid hb4
 clear hb4
 go_upto_region 3 with fail
 obtain⟨w5,hw5⟩: ∃W',w4.alloc (.cells #[.int .i64 17,.int .i64 0] 29)=W':=⟨_,rfl⟩
 obtain⟨hr5,hb5⟩:=gY (vs:=[.int .i64 17,.int .i64 0]) hw5
 rw[hw5]
 have H5:=Lib.hid (And.intro hr5 hb5)
 have zk:=Lib.hid (HB4.out.trans (hb5.mono HB4.out.size))
 have ags:=Lib.hid (afc.out.trans (hb5.mono afc.out.size))
 have akb:=Lib.hid (H3.out.2.trans (ags.out.mono H3.out.2.size))
 have hR2:=Lib.hid (hRG.out w5 g c 4095 _ zk.out (H2.out.2.2.2.below akb.out) (Nat.lt_of_lt_of_le H2.out.2.2.1 akb.out.size) H2.out.1 H2.out.2.1 HM.out (by decide))
 clear hw5 hr5 hb5
 go_wp2_with fail
 refine hR2.out.mono ?_
 rintro e w6 ⟨A6,c6,rfl,_,_,hb6⟩
 have Gv:=Lib.hid (zk.out.trans (hb6.mono zk.out.size))
 have akc:=Lib.hid hb6
 clear hb6
 go_upto_region 4 with fail
 obtain⟨w7,hw7⟩: ∃W',w6.alloc (.cells #[.int .i64 0,.int .i64 0] 29)=W':=⟨_,rfl⟩
 obtain⟨_,hb7⟩:=gY (vs:=[.int .i64 0,.int .i64 0]) hw7
 rw[hw7]
 have vJ:=Lib.hid (Gv.out.trans (hb7.mono Gv.out.size))
 have Qs:=Lib.hid (akc.out.trans (hb7.mono akc.out.size))
 have aaj:=Lib.hid (ags.out.trans (Qs.out.mono ags.out.size))
 obtain⟨x0,x1,_⟩:=lV ((aaj.out.block _ (Array.getElem?_eq_some_iff.1 H3.out.1).1).trans H3.out.1)
 obtain⟨y0,y1,_⟩:=lV ((Qs.out.block _ (Array.getElem?_eq_some_iff.1 H5.out.1).1).trans H5.out.1)
 clear hw7 hb7
 go_wp2_with fail
 go_ret
 exact⟨rfl,vJ.out⟩
theorem Vr{k:jv}(hc:1≤k.chunk){Q:Nat}(hQ:Q=(k.D.length+k.chunk.toNat-1)/k.chunk.toNat):(dU k).length≤k.D.length+3*Q+1:=by
 have hc1:1≤k.chunk.toNat:=by omega
 have h1:=qG (k:=k) (n:=k.D.length) hc1 rfl (k.D.length-0) 0 (none,false) (Nat.le_refl _)
 have h2:=Ag (n:=k.D.length) hc1 (k.D.length-0) 0 (Nat.le_refl _)
 have h3:(aT k.D.length k.chunk.toNat 0).length≤Q:=by
  rw[hQ]
  rw[Nat.le_div_iff_mul_le (by omega)]
  omega
 unfold dU
 rw[List.length_append]
 show _+1≤_
 omega
theorem aak(f:bK)(h:vS f):(zI f).length≤6:=by
 have h1:(Vl.put 9 f.id.toNat).length=1:=by rw[Vl.jh (by have:=h.2.1;have:=h.2.2.1;omega)];rfl
 have h2:(Vl.put 9 (fB f).length).length=1:=by rw[Vl.jh (by have:=h.2.2.2.2;omega)];rfl
 have h3:=h.2.2.2.2
 simp only[zI,List.length_append];omega
theorem Vs(l:List bK)(h: ∀f∈l,vS f):(fM l).length≤6*l.length:=by
 induction l with
 | nil=>simp[fM]
 | cons f l ih=>
  have h1:=aak f (h f (by simp))
  have h2:=ih (fun g hg=>h g (by simp[hg]))
  simp only[fM,List.flatMap_cons,List.length_append,List.length_cons]at h2 ⊢
  omega
theorem Qu(h:gU)(hok:h.ok)(hf: ∀f∈h.l,f.ok)(hv:jI h=true):(gB h).length≤54∧(gB h).length%4=0:=by
 obtain⟨hg,h3,_,_⟩:=uj h hok hf hv
 obtain⟨e1,e2,_,_⟩:=lH h hok hf hv
 have a1:=iW h.p
 have a2:=iW h.q
 have a3:=Vs _ hg
 have a6:(bH h).length=(kQ h.p).length+(kQ h.q).length+(fM (h.l++[bQ h.d])).length+2:=by
  simp only[bH,yE,List.length_cons,List.length_append]
 rw[List.length_append,List.length_singleton]at a3
 have e5:(nJ (bH h)).length≤(bH h).length+3:=by unfold nJ aY;rw[List.length_append,List.length_replicate];omega
 omega
theorem Vt(c:Int):dS c%4=0∧dS c≤32:=by
 unfold dS
 split
 ·decide
 ·split
  ·decide
  ·split<;>decide
theorem Op.aal{o:Op}(h:o.Ok)(D:List UInt8)(hD:D.length≤100000)(hf: ∀f∈o.l,f.ok){Q:Nat}(hQ:Q=(D.length+o.chunk.toNat-1)/o.chunk.toNat):
  (o.blk D).length≤D.length+3*Q+93∧(o.blk D).length%4=0∧9≤(o.blk D).length:=by
 have h1:=Qu (o.head D) (o.iZ h D hD).1 hf (o.iZ h D hD).2
 have h2:=Vr (k:=o.k (dW o.l D)) h.chunk.1 (Q:=Q) (by rw[hQ];show _=((dW o.l D).length+o.chunk.toNat-1)/o.chunk.toNat;rw[dR])
 have h3:=Vt o.check
 have h4:(o.k (dW o.l D)).D.length=D.length:=dR _ _
 have h5:=o.Jr h D hD hf
 have h6:(o.lM D).length=(gB (o.head D)).length+(dU (o.k (dW o.l D))).length:=by unfold Op.lM Op.packed;rw[List.length_append]
 rw[h4]at h2
 rw[o.nU]
 unfold aY
 omega
theorem Na(o:Op)(w:World)(hO:L6 w o):Calls Tryz.prog 7 #[o.v] w (xG o.fine w):=by
 obtain⟨W,hW⟩: ∃W,w.alloc (.cells #[.int .i64 o.lc,.int .i64 o.lp,.int .i64 o.pb,.int .i64 o.nice,.int .i64 o.chunk,.int .i64 o.block,.int .i64 o.check,o.ch,.int .u32 (o.dict:Nat)] 26)=W:=⟨_,rfl⟩
 obtain⟨hrow,hbW⟩:=gY (vs:=qB o.lc o.lp o.pb o.nice o.chunk o.block o.check o.ch o.dict) hW
 have HC:=Lib.hid (fun(W':World) (h:Below W.heap.size W W')=>oH (((h.block _ (Array.getElem?_eq_some_iff.1 hrow).1).trans hrow)))
 obtain⟨k0,k1,k2,k3,k4,k5,k6,k7,k8⟩:=HC.out W (Below.refl _ _)
 have H1:=Lib.hid (UK o.lc o.lp o.pb o.nice o.chunk o.block o.check o.ch o.dict W)
 have H2:=Lib.hid (fun(W':World) (h:Below W.heap.size W W')=>Ue o.A o.l o.c W' ((hO.Pv.below hbW).below h) hO.few)
 have H3:=Lib.hid (fun(W':World)=>Ur o.check W')
 have HW:=Lib.hid hW
 have fV:=Lib.hid hbW
 have HR:Hid (o.fine=(lT o.lc o.lp o.pb o.nice o.chunk o.dict&&lu o.l&&decide (0≤zG o.check))):=Lib.hid (by
  unfold Op.fine zG
  cases h:iD o.check
  ·rfl
  ·simp)
 generalize lT o.lc o.lp o.pb o.nice o.chunk o.dict=b1 at*
 generalize lu o.l=b2 at*
 generalize zG o.check=b3 at*
 generalize o.fine=b at*
 clear hrow hW hbW hO
 go_enter Tryz.func7,Tryz.ntmps7
 go_upto_region 1 with fail
 rw[HW.out]
 go_wp2_with fail
 refine H1.out.mono ?_
 rintro e w1 ⟨rfl,hb1⟩
 have HB1:=Lib.hid hb1
 clear hb1 k0 k1 k2 k3 k4 k5 k6 k7 k8
 obtain⟨k0,k1,k2,k3,k4,k5,k6,k7,k8⟩:=HC.out w1 HB1.out
 go_wp2_with fail
 refine(H2.out w1 HB1.out).mono ?_
 rintro e w2 ⟨rfl,hb2⟩
 have HB2:=Lib.hid (HB1.out.trans (hb2.mono HB1.out.size))
 clear hb2 k0 k1 k2 k3 k4 k5 k6 k7 k8
 obtain⟨k0,k1,k2,k3,k4,k5,k6,k7,k8⟩:=HC.out w2 HB2.out
 cases b1 with
 | false=>
  go_wp2_with fail
  go_ret
  exact⟨by rw[HR.out];rfl,fV.out.trans (HB2.out.mono fV.out.size)⟩
 | true=>
  cases b2 with
  | false=>
   go_wp2_with fail
   go_ret
   exact⟨by rw[HR.out];rfl,fV.out.trans (HB2.out.mono fV.out.size)⟩
  | true=>
   go_wp2_with fail
   refine(H3.out w2).mono ?_
   rintro e w3 ⟨rfl,rfl⟩
   have HR2:=Lib.hid (show b=decide (0≤b3) by rw[HR.out];rfl)
   go_wp2_with fail
   go_ret
   exact⟨by rw[HR2.out];rfl,fV.out.trans (HB2.out.mono fV.out.size)⟩
end Go.Proofs.YtgfpocdiojifoaaGreatDoor
