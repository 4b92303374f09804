import Derived.Test.YtgfpocdiojifoaaGreatDoorZ17
import Derived.Deep.RegionHeld3
import Derived.Deep.DeepCutAuto
namespace Go.Proofs.YtgfpocdiojifoaaGreatDoor
set_option maxRecDepth 100000
set_option maxHeartbeats 8000000
open Go.RowKit
section
open Go.RowKit Go.Maps Go.ChangeShapes
def uM(L:List Nat):DataW Unit:=if L=[]then .nil else .slice (lits .i32 (L.map Int.ofNat)) []
def bV(w:World)(b:Nat)(d:List UInt8)(n:Nat):Prop:=
 ∃D:DataW Unit,w.ownsGroups Tryz.prog 189 (b+1) 21 .i32 b n D∧ ∀x y:UInt8,D.atKey (SK x y) .nil=uM (places d x y n)
theorem XJ{q:IntKind}{a b:List Int}(h:lits (H:=Unit) q a=lits q b):a=b:=by
 unfold lits at h
 refine(List.map_inj_right (fun x y e=> ?_)).1 h
 simpa using e
theorem vH{w:World}{base:Nat}{e:TypeId}{v:Value}{zs:List Int}{L:List Nat}(h:w.ownsInts base e .i32 v zs)(he:uM L=rowDatum .i32 v zs):zs=L.map Int.ofNat:=by
 unfold uM at he
 split at he
 ·rename_i hL
  subst hL
  by_cases hz:zs=[]
  ·rw[hz];rfl
  ·rw[h.datum_pos hz]at he;cases he
 ·rcases h.datum (H:=Unit)with⟨h1,_⟩ | h1
  ·rw[h1]at he;cases he
  ·rw[h1]at he
   injection he with he
   exact(XJ he).symm
theorem zi{w:World}{base:Nat}{e:TypeId}{v:Value}{L:List Nat}(h:w.ownsInts base e .i32 v (L.map Int.ofNat))(hL:L≠[]):rowDatum .i32 v (L.map Int.ofNat)=uM L:=by
 unfold uM
 rw[if_neg hL,h.datum_pos (by simpa using hL)]
theorem bV.made(w:World)(d:List UInt8):bV (w.alloc (.map #[] 0)) w.heap.size d 0:=
 ⟨_,World.ownsGroups_made w Tryz.prog _ _ _,fun x y=>by simp only[uM,places,List.range_zero,List.filter_nil,if_true];rfl⟩
theorem IC{w:World}{P:Program}{k:TypeId}{base:Nat}{e:TypeId}{q:IntKind}{b n:Nat}{D:DataW Unit}(h:w.ownsGroups P k base e q b n D): ∃l,D= .map l:=by
 obtain⟨_,_,_,_,_,rfl,_⟩:=h
 exact⟨_,rfl⟩
theorem zY{w w':World}{P:Program}{k:TypeId}{base:Nat}{e:TypeId}{q:IntKind}{b n:Nat}{D:DataW Unit}{row:Option Nat}(h:w.ownsGroups P k base e q b n D)(hg:w.grownBy w' row)(hrow: ∀j,row=some j→j<b):w'.ownsGroups P k base e q b n D:=by
 obtain⟨es,clock,hb,F,hs,rfl,hbb,hlen,hap⟩:=h
 have hk: ∀{v:Value} {zs:List Int},w.ownsInts base e q v zs→w'.ownsInts base e q v zs:=fun{v zs} ho=>ho.kept hg (by
  cases hv:v.ownBlock with
  | none=>exact .inl rfl
  | some g=>
   refine .inr fun e1=> ?_
   have h1:=(ho.1.lt g hv).1
   have h2:=hrow g e1.symm
   omega)
 have hs1: ∀x∈es.toList,∀z,rowElem (H:=Unit) w base e q x.val=some z→rowElem w' base e q x.val=some z:=by
  intro x _ z hz
  obtain⟨ys,ho,rfl⟩:=rowElem_inv hz
  exact rowElem_mk (hk ho)
 obtain⟨F2,hmap2,_⟩:=F.stay hs1
 refine⟨es,clock,(hg.block b (Array.getElem?_eq_some_iff.1 hb).1 (fun e1=>by have:=hrow b e1.symm;omega)).trans hb,F2,hs,by rw[hmap2],hbb,fun x hx ys ho=> ?_,hap⟩
 obtain⟨y,hy⟩:=F.reads x hx
 obtain⟨z,hz,_⟩:=WideElems.rd_val hy
 obtain⟨ys',ho',_⟩:=rowElem_inv hz
 rw[ho.unique (hk ho')]
 exact hlen x hx ys' ho'
theorem bV.below{w w':World}{b n:Nat}{d:List UInt8}(h:bV w b d n)(hb:Below w.heap.size w w'):bV w' b d n:=by
 obtain⟨D,h1,h2⟩:=h
 exact⟨D,zY (row:=none) h1 ⟨hb.os,hb.tape,hb.output,hb.size,fun k hk _=>hb.block k hk⟩ (fun j e=>by cases e),h2⟩
theorem bV.set{w:World}{b n:Nat}{d:List UInt8}(h:bV w b d n)(a:Addr)(v:Value)(ha:a.block<b):bV (w.setCell a v) b d n:=by
 obtain⟨D,h1,h2⟩:=h
 refine⟨D,zY (row:=some a.block) h1 ⟨rfl,rfl,rfl,by simp[World.setCell],fun k _ hk=>ah _ _ _ _ (fun e=>hk (by rw[e]))⟩ (fun j e=>by injection e with e;omega),h2⟩
theorem vY(d:List UInt8)(x y:UInt8)(n:Nat):(places d x y n).length≤n:=by
 unfold places
 have:=List.length_filter_le (fun i=>d.getD i 0==x&&d.getD (i+1) 0==y) (List.range n)
 simpa using this
theorem bV.lt{w:World}{b n:Nat}{d:List UInt8}(h:bV w b d n):b<w.heap.size:=by
 obtain⟨D,⟨es,clock,hb,_⟩,_⟩:=h
 exact(Array.getElem?_eq_some_iff.1 hb).1
theorem bV.entry{w:World}{b n:Nat}{d:List UInt8}(h:bV w b d n)(hn:n≤100000):
  ∃(v:Value) (st:Nat) (w1:World),(Instr.mapEntry 110 (.map (some b)) (qX (d.getD n 0) (d.getD (n+1) 0))).run Tryz.prog w= .ok (.tuple #[v,goInt st]) w1∧w.grownBy w1 (some b)∧
   dB 21 (b+1) w1 v ((places d (d.getD n 0) (d.getD (n+1) 0) n).map fun i=> .int .i32 (i:Nat))∧
   ∀(w2:World) (v':Value),w1.grownBy w2 v.ownBlock→dB 21 (b+1) w2 v' ((places d (d.getD n 0) (d.getD (n+1) 0) n).map (fun i=> .int .i32 (i:Nat))++[.int .i32 (n:Nat)])→(v'.ownBlock=v.ownBlock∨ ∃g,v'.ownBlock=some g∧w.heap.size≤g)→
    ∃w3,(Instr.entryStore 110 (.map (some b)) (goInt st) v').run Tryz.prog w2= .ok () w3∧bV w3 b d (n+1)∧w2.grownBy w3 (some b):=by
 obtain⟨D,h1,h2⟩:=h
 obtain⟨x,hx⟩: ∃x,d.getD n 0=x:=⟨_,rfl⟩
 obtain⟨y,hy⟩: ∃y,d.getD (n+1) 0=y:=⟨_,rfl⟩
 rw[hx,hy]
 have hz: ∀u:World,(zeroValue 111).run Tryz.prog u= .ok (.slice none 0 0) u:=fun u=>by
  first | rfl | simp[zeroValue]
 obtain⟨v,zs,st,w1,hr,hg,hat,ho,hzl,hst⟩:=IB h1 abA.law Tryz.underlying110 hz (by unfold maxLen;omega) (mJ x y)
 have hzs:=vH ho ((h2 x y).symm.trans hat)
 subst hzs
 have hlen:(places d x y n).length≤n:=by simpa using hzl
 have hP:places d x y (n+1)=places d x y n++[n]:=by rw[zV,if_pos ⟨hx,hy⟩]
 refine⟨v,st,w1,hr,hg,?_,fun w2 v' hg2 ho2 hloc=> ?_⟩
 ·have:=ho.1
  unfold dB
  simpa [List.map_map,Function.comp_def]using this
 ·have hown:w2.ownsInts (b+1) 21 .i32 v' ((places d x y (n+1)).map Int.ofNat):=by
   refine⟨?_,fun z hz=> ?_⟩
   ·unfold dB at ho2
    rw[hP]
    simpa [List.map_map,Function.comp_def]using ho2
   ·obtain⟨i,hi,rfl⟩:=List.mem_map.1 hz
    have:=(mem_places.1 hi).1
    exact wf32 (by simp) (by simp;omega)
  obtain⟨w3,hs,hG,hg3⟩:=hst w2 v' _ hg2 hown (by rw[hP];simp;exact hlen) hloc
  refine⟨w3,hs,⟨_,hG,fun x' y'=> ?_⟩,hg3⟩
  have hk:=Oe.key (mJ x y)
  by_cases hxy:x'=x∧y'=y
  ·obtain⟨rfl,rfl⟩:=hxy
   rw[atKey_put_same (IC h1) hk]
   exact zi hown (by rw[hP];simp)
  ·have hne:SK x' y'≠SK x y:=fun e=>hxy (XA e)
   rw[atKey_put_other hne,h2 x' y',zV,if_neg (by rw[hx,hy];exact fun e=>hxy ⟨e.1.symm,e.2.symm⟩),List.append_nil]
theorem bV.XK{w w':World}{b n:Nat}{d:List UInt8}(h:bV w b d n)(hb:w'.heap[b]? =w.heap[b]?){x y:UInt8}{v:Value}(hr:(Instr.lookup 110 (.map (some b)) (qX x y) false).run Tryz.prog w= .ok v w):(Instr.lookup 110 (.map (some b)) (qX x y) false).run Tryz.prog w'= .ok v w':=by
 obtain⟨D,⟨es,clock,hb0,F,_⟩,_⟩:=h
 have hz: ∀u:World,(zeroValue 111).run Tryz.prog u= .ok (.slice none 0 0) u:=fun u=>by
  first | rfl | simp[zeroValue]
 exact Oq abA.law Tryz.underlying110 hz F hb0 (hb.trans hb0) (mJ x y) hr
theorem bV.look{w:World}{b n:Nat}{d:List UInt8}(h:bV w b d n)(hn:n≤100000)(x y:UInt8):
  ∃(A:Option Addr) (c:Nat),(Instr.lookup 110 (.map (some b)) (qX x y) false).run Tryz.prog w= .ok (.slice A (places d x y n).length c) w∧sG w A (places d x y n)∧(places d x y n).length≤c∧c≤9223372036854775807:=by
 obtain⟨D,h1,h2⟩:=h
 have hz:(zeroValue 111).run Tryz.prog w= .ok (.slice none 0 0) w:=by
  first | rfl | simp[zeroValue]
 obtain⟨v,zs,hr,hat,ho,_,_⟩:=h1.at Oe Tryz.underlying110 hz (by unfold maxLen;omega) (mJ x y)
 have hzs:=vH ho ((h2 x y).symm.trans hat)
 subst hzs
 have hv:dB 21 (b+1) w v ((places d x y n).map fun i=> .int .i32 (i:Nat)):=by
  have:=ho.1
  unfold dB
  simpa [List.map_map,Function.comp_def]using this
 obtain⟨A,c,rfl,hc,hm,hcell⟩:=hv.read
 rw[List.length_map]at hr hc
 refine⟨A,c,hr,fun i hi=> ?_,hc,hm⟩
 obtain⟨g,hA,hg⟩:=hcell i (by rw[List.length_map];exact hi)
 exact⟨g,hA,by rw[hg];simp⟩
end
section
open Go.RowKit Go.Maps
theorem elem32:Elem 111 21 (.int .i32 0) 4:=⟨Tryz.underlying111,by kernel_rfl,rfl⟩
theorem Dh(A:Option Addr)(l:List UInt8)(c n:Nat)(w:World)(hB:Bytes w A l)(hc:l.length≤c)(hl:l.length≤100000)(hn:n=l.length-1):
  Calls Tryz.prog 72 #[.slice A l.length c] w fun e w'=>e= .returned (.map (some w.heap.size))∧bV w' w.heap.size l n∧Below w.heap.size w w':=by
 have hci:(l.length:Int)≤(c:Int):=by omega
 have Fb:(l.length:Int)≤100000:=by omega
 have hni:(n:Int)≤100000:=by omega
 have E5:=Lib.hid hB
 have HN:=Lib.hid hn
 have hmm: ∀w:World,(Instr.makeMap 110 none).run Tryz.prog w= .ok (.map (some w.heap.size)) (w.alloc (.map #[] 0)):=fun w=>run_makeMap _ w
 clear hB hn hl hc
 go_enter Tryz.func72,Tryz.ntmps72
 go_wp2_with fail
 have HMP:Hid (bV (w.alloc (.map #[] 0)) w.heap.size l 0):=Lib.hid (bV.made w l)
 have HB1:Hid (Below w.heap.size w (w.alloc (.map #[] 0))):=Lib.hid ((Below.refl _ _).alloc (Nat.le_refl _) _)
 clear hmm
 go_loopw [10] (fun i wr=> ∃k:Nat,k≤n∧i= .int .i64 (k:Nat)∧Hid (bV wr w.heap.size l k)∧Hid (Below w.heap.size w wr)) (fun i _=>n-(intOf i).toNat)
 case atStart=>exact⟨0,by omega,rfl,HMP,HB1⟩
 case round=>
  obtain⟨k,hk,rfl,HL,HB⟩:=hrel
  by_cases hkl:k<n
  ·have hki:(k:Int)<(l.length:Int)-1:=by have:=HN.out;omega
   obtain⟨b,off,rfl,hbl,hat⟩:=(E5.out.below HB.out).addr (by omega)
   have hx0:=hat k (by omega)
   have hx1:=hat (k+1) (by omega)
   have e0:=dQ (d:=l) (i:=k) (by omega)
   have e1:=dQ (d:=l) (i:=k+1) (by omega)
   generalize l[k]'(by omega)=z0 at*
   generalize l[k+1]'(by omega)=z1 at*
   obtain⟨y1,hy1⟩: ∃y:Nat,k+1=y:=⟨_,rfl⟩
   rw[hy1]at hx1
   have k1:(k:Int)+1=(y1:Int):=by omega
   have l1:(y1:Int)<(l.length:Int):=by omega
   have l0:(k:Int)<(l.length:Int):=by omega
   have HC:=Lib.hid (fun(wx:World) (h:wx.heap[b]? =wr.heap[b]?)=>(show wx.cell? ⟨b,off+k,none⟩=some (.int .u8 (z0.toNat:Nat))∧wx.cell? ⟨b,off+y1,none⟩=some (.int .u8 (z1.toNat:Nat))from by
    refine⟨?_,?_⟩
    ·rw[←hx0];unfold World.cell?;rw[h]
    ·rw[←hx1];unfold World.cell?;rw[h]))
   have v1:IntKind.i64.wrap (y1:Int)=(y1:Int):=IntWalk.i64_in _ (by omega)
   have HE:=Lib.hid (And.intro e0 e1)
   clear hat e0 e1 hy1 hx0 hx1
   go_wp2_with fail
   refine wp_region_held_drew (S:=fun w2=>w2.heap[b]? =wr.drew.heap[b]?) (by kernel_rfl) rfl (fun hS=> ?_)
   refine tp 0 rfl (fun w hSw=>by obtain⟨i0,i1⟩:=HC.out w hSw;go_simp;all_goals(with_reducible rfl)) hS ?_
   refine tp 1 rfl (fun w hSw=>by obtain⟨i0,i1⟩:=HC.out w hSw;go_simp;all_goals(with_reducible rfl)) hS ?_
   refine tp 2 rfl (fun w hSw=>by obtain⟨i0,i1⟩:=HC.out w hSw;go_simp;all_goals(with_reducible rfl)) hS ?_
   refine tp 3 rfl (fun w hSw=>by obtain⟨i0,i1⟩:=HC.out w hSw;go_simp;all_goals(with_reducible rfl)) hS ?_
   refine tp 4 rfl (fun w hSw=>by obtain⟨i0,i1⟩:=HC.out w hSw;go_simp;all_goals(with_reducible rfl)) hS ?_
   refine tp 5 rfl (fun w hSw=>by obtain⟨i0,i1⟩:=HC.out w hSw;go_simp;all_goals(with_reducible rfl)) hS ?_
   refine tp 6 rfl (fun w hSw=>by obtain⟨i0,i1⟩:=HC.out w hSw;go_simp;all_goals(with_reducible rfl)) hS ?_
   refine tp 7 rfl (fun w hSw=>by obtain⟨i0,i1⟩:=HC.out w hSw;go_simp;all_goals(with_reducible rfl)) hS ?_
   refine tp 8 rfl (fun w hSw=>by obtain⟨i0,i1⟩:=HC.out w hSw;go_simp;all_goals(with_reducible rfl)) hS ?_
   refine tp 9 rfl (fun w hSw=>by obtain⟨i0,i1⟩:=HC.out w hSw;go_simp;all_goals(with_reducible rfl)) hS ?_
   refine tr 10 (fun K hK=> ?_)
   go_simp
   refine hK.out _ _ (Below.heap_alloc _ _ _ hbl) (fun _=> ?_)
   clear hK K
   refine tr 11 (fun K hK=> ?_)
   go_simp
   refine hK.out _ _ (Below.heap_alloc _ _ _ hbl) (fun _=> ?_)
   clear hK K
   refine wpAnyH_done (by kernel_rfl) ?_ _
   obtain⟨W2,hW2⟩: ∃W2,(wr.alloc (.cells #[.int .u8 (z0.toNat:Nat),.int .u8 (z1.toNat:Nat)] 189)).drew=W2:=⟨_,rfl⟩
   rw[hW2]
   have hb2:Below wr.heap.size wr W2:=by
    rw[←hW2]
    have h:=(Below.refl wr.heap.size wr).alloc (Nat.le_refl _) (.cells #[.int .u8 (z0.toNat:Nat),.int .u8 (z1.toNat:Nat)] 189)
    exact⟨h.os,h.tape,h.output,h.size,h.block⟩
   have hbx:W2.heap[wr.heap.size]? =some (.cells #[.int .u8 (z0.toNat:Nat),.int .u8 (z1.toNat:Nat)] 189 (0,0)):=by
    rw[←hW2];exact heap_alloc_last _ _
   have x0:W2.cell? ⟨wr.heap.size,0,none⟩=some (.int .u8 (z0.toNat:Nat)):=by rw[cell_of_row W2 _ _ _ _ _ hbx];rfl
   have x1:W2.cell? ⟨wr.heap.size,1,none⟩=some (.int .u8 (z1.toNat:Nat)):=by rw[cell_of_row W2 _ _ _ _ _ hbx];rfl
   obtain⟨W3,hW3⟩: ∃W3,W2.alloc (.cells #[.int .i32 (k:Nat)] 21)=W3:=⟨_,rfl⟩
   have hb3:Below wr.heap.size wr W3:=by rw[←hW3];exact hb2.alloc hb2.size _
   have hsz3:W3.heap.size=W2.heap.size+1:=by rw[←hW3];simp
   have hcn:W3.heap[W2.heap.size]? =some (.cells #[.int .i32 (k:Nat)] 21 (0,0)):=by rw[←hW3];exact heap_alloc_last _ _
   have hbw:=HB.out.size
   have hl3:=HL.out.below hb3
   have hlt:=hl3.lt
   obtain⟨v,st,w1,hme,hg1,hown1,hst⟩:=hl3.entry (by omega)
   rw[HE.out.1,HE.out.2,←hW3]at hme
   simp only[qX,goInt]at hme
   have hlen:=vY l (l.getD k 0) (l.getD (k+1) 0) k
   rw[HE.out.1,HE.out.2]at hown1 hst hlen
   have hlen2:((places l z0 z1 k).map (fun i=>Value.int .i32 (i:Nat))).length≤100000:=by rw[List.length_map];omega
   obtain⟨PL,hPL⟩: ∃PL,(places l z0 z1 k).map (fun i=>Value.int .i32 (i:Nat))=PL:=⟨_,rfl⟩
   rw[hPL]at hown1 hst hlen2
   have hbs:=hb2.size
   have ah8:w1.heap[W2.heap.size]? =some (.cells #[.int .i32 (k:Nat)] 21 (0,0)):=(hg1.block _ (by omega) (by
    have hwl:w.heap.size<wr.heap.size:=HL.out.lt
    intro e;injection e with e;omega)).trans hcn
   have hlit: ∀i (h:i<[Value.int .i32 (k:Nat)].length),w1.cell? ⟨W2.heap.size,i,none⟩=some [Value.int .i32 (k:Nat)][i]:=by
    intro i hi
    obtain rfl:i=0:=by simpa using hi
    rw[cell_of_row _ _ _ _ _ _ ah8];rfl
   have HST:=Lib.hid hst
   have fV:Hid (Below w.heap.size w w1):=Lib.hid (below_grown (HB.out.trans (hb3.mono hbw)) hg1 (Nat.le_trans hbw hb3.size) (fun g e=>by injection e with e;omega))
   have HOWN:=Lib.hid hown1
   have WI:=Lib.hid hlit
   have amd:Hid (w.heap.size+1≤w1.heap.size):=Lib.hid (Nat.le_trans (by omega) hg1.size)
   have HLEN:=Lib.hid hlen2
   have ame:=Lib.hid hg1.size
   clear hW2 hb2 hS hbx hW3 hb3 hsz3 hcn hl3 hg1 hown1 hst hlen hlen2 hPL hbs ah8 hlit hlt hbw
   have hw32:IntKind.i32.wrap (k:Int)=(k:Int):=by
    have e1:IntKind.i32.min= -2147483648:=rfl
    have e2:IntKind.i32.max=2147483647:=rfl
    first | exact IntWalk.i32_in _ (by omega) | (unfold IntKind.wrap;simp;omega)
   go_wp2_with (at_builtin;refine mY elem32 rfl (.tmp 25) (.tmp 28) rfl (w.heap.size+1) w1 v PL rfl HOWN.out W2.heap.size 1 1 [.int .i32 (k:Nat)] rfl rfl WI.out (by intro u hu;simp at hu;subst hu;rfl) (by have:=HLEN.out;omega) (by have:=HLEN.out;omega) amd.out ?_;intro v' w2 hown2 hg2 hloc;obtain⟨w3,hes,hp3,hg3⟩:=HST.out w2 v' hg2 hown2 (hloc.imp id fun e=>⟨_,e,ame.out⟩);simp only[goInt]at hes;have HP3:=Lib.hid hp3;have HB3:Hid (Below w.heap.size w w3):=Lib.hid (below_grown (below_grown fV.out hg2 fV.out.size (fun g e=>by have:=(HOWN.out.lt g e).1;omega)) hg3 (Nat.le_trans fV.out.size hg2.size) (fun g e=>by injection e with e;omega));clear hown2 hg2 hloc hp3 hg3)
   exact⟨⟨k+1,by omega,by rw[←k1];rfl,HP3,HB3⟩,by simp[intOf];omega⟩
  ·obtain rfl:k=n:=by omega
   have hki: ¬(k:Int)<(l.length:Int)-1:=by have:=HN.out;omega
   have arY:decide ((k:Int)<(l.length:Int)-1)=false:=decide_eq_false hki
   clear HMP HB1
   go_wp2_with fail
   go_ret
   exact⟨rfl,HL.out,HB.out⟩
end
section
open Go.RowKit Go.Maps
def KH(L:List Nat)(place:Nat)(w:World)(e:Ending)(w':World):Prop:= ∃(b1 b2:Nat) (A:Option Addr) (c h:Nat),e= .returned (.func (.func 221) #[] #[PF b1,PF b2])∧aI b1 w' (.int .i64 (h:Nat))∧aI b2 w' (.slice A L.length c)∧
 sG w' A L∧L.length≤c∧h≤L.length∧(∀q (_:q<L.length),q<h→L[q]<place)∧(∀q (_:q<L.length),h≤q→place≤L[q])∧Below w.heap.size w w'
theorem sH(Fp:Nat)(A:Option Addr)(c:Nat)(d:List UInt8)(dict nice:Int)(mp:Nat)(v4:Value)(place:Nat)(w:World)(hF:dH w Fp A c d dict nice mp v4)(hP:bV w mp d (d.length-1))(hp:place+1<d.length):
  Calls Tryz.prog 201 #[PF Fp,.int .i64 (place:Nat)] w (KH (places d (d.getD place 0) (d.getD (place+1) 0) (d.length-1)) place w):=by
 have Fb:(d.length:Int)≤100000:=by have:=hF.small;omega
 have hln:d.length≤100000:=hF.small
 have hci:(d.length:Int)≤(c:Int):=by have:=hF.cap;omega
 obtain⟨y1,hy1⟩: ∃y:Nat,place+1=y:=⟨_,rfl⟩
 have k1:(place:Int)+1=(y1:Int):=by omega
 have l1:(y1:Int)<(d.length:Int):=by omega
 have l0:(place:Int)<(d.length:Int):=by omega
 obtain⟨b,off,rfl,hbl,_⟩:=hF.bytes.addr (by omega)
 have HC0:Hid (∀w2:World,Below w.heap.size w w2→w2.cell? ⟨b,off+place,none⟩=some (.int .u8 ((d.getD place 0).toNat:Nat))∧w2.cell? ⟨b,off+y1,none⟩=some (.int .u8 ((d.getD y1 0).toNat:Nat))):=Lib.hid (fun w2 hb=>by
  obtain⟨b',off',e,_,hat⟩:=(hF.below hb).bytes.addr (by omega)
  injection e with e
  injection e with e1 e2
  subst e1;subst e2
  have h0:=hat place (by omega)
  have h1:=hat y1 (by omega)
  rw[←dQ (d:=d) (i:=place) (by omega)]at h0
  rw[←dQ (d:=d) (i:=y1) (by omega)]at h1
  exact⟨h0,h1⟩)
 rw[hy1]
 generalize d.getD place 0=z0 at*
 generalize d.getD y1 0=z1 at*
 obtain⟨PA,cp,hlook,hread,hcp,hcm⟩:=hP.look (by omega) z0 z1
 have hrise:=zW d z0 z1 (d.length-1)
 have hlen:=vY d z0 z1 (d.length-1)
 have HLK:Hid (∀w2:World,Below w.heap.size w w2→(Instr.lookup 110 (.map (some mp)) (qX z0 z1) false).run Tryz.prog w2= .ok (.slice PA (places d z0 z1 (d.length-1)).length cp) w2):=Lib.hid (fun w2 hb=>by
  have hb':w2.heap[mp]? =w.heap[mp]? :=hb.block _ hP.lt
  exact hP.XK hb' hlook)
 obtain⟨L,hL⟩: ∃L,places d z0 z1 (d.length-1)=L:=⟨_,rfl⟩
 rw[hL]at hlook hread hcp hrise hlen HLK ⊢
 have HC:=Lib.hid (fun(w2:World) (hb:Below w.heap.size w w2)=>(show w2.cell? ⟨Fp,0,none⟩=some (.slice (some ⟨b,off,none⟩) d.length c)∧w2.cell? ⟨Fp,3,none⟩=some (.map (some mp))∧w2.cell? ⟨b,off+place,none⟩=some (.int .u8 (z0.toNat:Nat))∧w2.cell? ⟨b,off+y1,none⟩=some (.int .u8 (z1.toNat:Nat))∧(Instr.lookup 110 (.map (some mp)) (.agg #[.int .u8 (z0.toNat:Nat),.int .u8 (z1.toNat:Nat)]) false).run Tryz.prog w2= .ok (.slice PA L.length cp) w2 from by
  obtain⟨f0,_,_,f3,_⟩:=(hF.below hb).cells
  exact⟨f0,f3,(HC0.out w2 hb).1,(HC0.out w2 hb).2,HLK.out w2 hb⟩))
 have adA:=Lib.hid hread
 have KG:=Lib.hid hrise
 have HCP:=Lib.hid hcp
 have hw32:IntKind.i32.wrap (place:Int)=(place:Int):=by
  have e1:IntKind.i32.min= -2147483648:=rfl
  have e2:IntKind.i32.max=2147483647:=rfl
  first | exact IntWalk.i32_in _ (by omega) | (unfold IntKind.wrap;simp;omega)
 have hll:L.length≤100000:=by omega
 have Vz:=Lib.hid hll
 have v1:IntKind.i64.wrap (y1:Int)=(y1:Int):=IntWalk.i64_in _ (by omega)
 clear hF hP hlook hread hrise hlen hcp hL hbl hy1 HC0 HLK hll hp hcm
 go_enter Tryz.func201,Tryz.ntmps201
 go_wp2_with fail
 refine wp_region_held_drew (S:=fun w2=>Below w.heap.size w w2) (by kernel_rfl) ⟨rfl,rfl,rfl,Nat.le_refl _,fun _ _=>rfl⟩ (fun hS=> ?_)
 refine tp 0 rfl (fun w hSw=>by obtain⟨c0,c3,i0,i1,hlk⟩:=HC.out w hSw;go_simp;all_goals(with_reducible rfl)) hS ?_
 refine tp 1 rfl (fun w hSw=>by obtain⟨c0,c3,i0,i1,hlk⟩:=HC.out w hSw;go_simp;all_goals(with_reducible rfl)) hS ?_
 refine tp 2 rfl (fun w hSw=>by obtain⟨c0,c3,i0,i1,hlk⟩:=HC.out w hSw;go_simp;all_goals(with_reducible rfl)) hS ?_
 refine tp 3 rfl (fun w hSw=>by obtain⟨c0,c3,i0,i1,hlk⟩:=HC.out w hSw;go_simp;all_goals(with_reducible rfl)) hS ?_
 refine tp 4 rfl (fun w hSw=>by obtain⟨c0,c3,i0,i1,hlk⟩:=HC.out w hSw;go_simp;all_goals(with_reducible rfl)) hS ?_
 refine tp 5 rfl (fun w hSw=>by obtain⟨c0,c3,i0,i1,hlk⟩:=HC.out w hSw;go_simp;all_goals(with_reducible rfl)) hS ?_
 refine tp 6 rfl (fun w hSw=>by obtain⟨c0,c3,i0,i1,hlk⟩:=HC.out w hSw;go_simp;all_goals(with_reducible rfl)) hS ?_
 refine tp 7 rfl (fun w hSw=>by obtain⟨c0,c3,i0,i1,hlk⟩:=HC.out w hSw;go_simp;all_goals(with_reducible rfl)) hS ?_
 refine tp 8 rfl (fun w hSw=>by obtain⟨c0,c3,i0,i1,hlk⟩:=HC.out w hSw;go_simp;all_goals(with_reducible rfl)) hS ?_
 refine tp 9 rfl (fun w hSw=>by obtain⟨c0,c3,i0,i1,hlk⟩:=HC.out w hSw;go_simp;all_goals(with_reducible rfl)) hS ?_
 refine tp 10 rfl (fun w hSw=>by obtain⟨c0,c3,i0,i1,hlk⟩:=HC.out w hSw;go_simp;all_goals(with_reducible rfl)) hS ?_
 refine tp 11 rfl (fun w hSw=>by obtain⟨c0,c3,i0,i1,hlk⟩:=HC.out w hSw;go_simp;all_goals(with_reducible rfl)) hS ?_
 refine tp 12 rfl (fun w hSw=>by obtain⟨c0,c3,i0,i1,hlk⟩:=HC.out w hSw;go_simp;all_goals(with_reducible rfl)) hS ?_
 refine tp 13 rfl (fun w hSw=>by obtain⟨c0,c3,i0,i1,hlk⟩:=HC.out w hSw;go_simp;all_goals(with_reducible rfl)) hS ?_
 refine tp 14 rfl (fun w hSw=>by obtain⟨c0,c3,i0,i1,hlk⟩:=HC.out w hSw;go_simp;all_goals(with_reducible rfl)) hS ?_
 refine tp 15 rfl (fun w hSw=>by obtain⟨c0,c3,i0,i1,hlk⟩:=HC.out w hSw;go_simp;all_goals(with_reducible rfl)) hS ?_
 refine tp 16 rfl (fun w hSw=>by obtain⟨c0,c3,i0,i1,hlk⟩:=HC.out w hSw;go_simp;all_goals(with_reducible rfl)) hS ?_
 refine tp 17 rfl (fun w hSw=>by obtain⟨c0,c3,i0,i1,hlk⟩:=HC.out w hSw;go_simp;all_goals(with_reducible rfl)) hS ?_
 refine tp 18 rfl (fun w hSw=>by obtain⟨c0,c3,i0,i1,hlk⟩:=HC.out w hSw;go_simp;all_goals(with_reducible rfl)) hS ?_
 refine tp 19 rfl (fun w hSw=>by obtain⟨c0,c3,i0,i1,hlk⟩:=HC.out w hSw;go_simp;all_goals(with_reducible rfl)) hS ?_
 refine tp 20 rfl (fun w hSw=>by obtain⟨c0,c3,i0,i1,hlk⟩:=HC.out w hSw;go_simp;all_goals(with_reducible rfl)) hS ?_
 refine tr 21 (fun K hK=> ?_)
 go_simp
 refine hK.out _ _ (Below.alloc hS hS.size _) (fun _=> ?_)
 clear hK K
 refine tr 22 (fun K hK=> ?_)
 go_simp
 refine hK.out _ _ (Below.alloc hS hS.size _) (fun _=> ?_)
 clear hK K
 refine wpAnyH_done (by kernel_rfl) ?_ _
 obtain⟨W2,hW2⟩: ∃W2,(w.alloc (.cells #[.slice PA L.length cp] 111)).drew=W2:=⟨_,rfl⟩
 rw[hW2]
 have hb2:Below w.heap.size w W2:=by
  rw[←hW2]
  have h:=(Below.refl w.heap.size w).alloc (Nat.le_refl _) (.cells #[.slice PA L.length cp] 111)
  exact⟨h.os,h.tape,h.output,h.size,h.block⟩
 have hx2:aI w.heap.size W2 (.slice PA L.length cp):=⟨_,by rw[←hW2];exact heap_alloc_last _ _⟩
 have c5:=hx2.cell
 have HSE:=Lib.hid (Ol PA L cp place W2 (adA.out.below hb2) Vz.out HCP.out KG.out)
 have HB2:=Lib.hid hb2
 have HX2:=Lib.hid hx2
 have hsz2:Hid (W2.heap.size=w.heap.size+1):=Lib.hid (by rw[←hW2];simp[World.drew])
 clear hW2 hb2 hx2 hS
 go_wp2_with fail
 refine HSE.out.mono ?_
 rintro e w3 ⟨⟨i,bb,rfl,hi,hlo,hhi⟩,rfl⟩
 have HI:=Lib.hid (And.intro hi (And.intro hlo hhi))
 obtain⟨W4,sJ⟩: ∃W4,W2.alloc (.cells #[.int .i64 (i:Nat)] 3)=W4:=⟨_,rfl⟩
 have hb4:Below W2.heap.size W2 W4:=by rw[←sJ];exact(Below.refl _ _).alloc (Nat.le_refl _) _
 have hx4:aI W2.heap.size W4 (.int .i64 (i:Nat)):=by rw[←sJ];exact aI.made _ _ _
 have WJ:=Lib.hid sJ
 have H4:=Lib.hid (And.intro hb4 hx4)
 clear hi hlo hhi sJ hb4 hx4
 go_wp2_with fail
 rw[WJ.out]
 go_ret
 have ah9:=HB2.out.trans (H4.out.1.mono HB2.out.size)
 refine⟨_,_,PA,cp,i,rfl,H4.out.2,HX2.out.keep (H4.out.1.block _ (by rw[hsz2.out];omega)),adA.out.below ah9,HCP.out,HI.out.1,HI.out.2.1,HI.out.2.2,ah9⟩
end
theorem abI(d:Nat)(A:Option Addr)(n c:Nat)(w:World):(Op.equalIn (d+1) 22 (.slice A n c) (.slice none 0 0)).run Tryz.prog w= .ok A.isNone w:=by
 cases A<;>simp[Op.equalIn,run_underlying Tryz.underlying22]
theorem adB(A:Option Addr)(n c:Nat)(w:World):(binOp .eql 22 (.slice A n c) (.slice none 0 0)).run Tryz.prog w= .ok (.bool A.isNone) w:=by
 have e:Op.maxDepth=9999+1:=rfl
 simp only[binOp,Op.equal,e,Sem.run_bind,Sem.run_pure,abI,Result.andThen_ok]
def S9(l:List UInt8)(w:World)(e:Ending)(w':World):Prop:= ∃v,e= .returned v∧Own w.heap.size w' v l∧Below w.heap.size w w'
theorem clone_any(A:Option Addr)(l:List UInt8)(c:Nat)(w:World)(hB:Bytes w A l)(hc:l.length≤c)(hl:l.length≤100000):
  Calls Tryz.prog 71 #[.slice A l.length c] w (S9 l w):=by
 cases A with
 | none=>
  obtain rfl:l=[]:=by
   rcases Nat.eq_zero_or_pos l.length with h | h
   ·exact List.eq_nil_of_length_eq_zero h
   ·obtain⟨_,_,e,_⟩:=hB.addr h;cases e
  clear hB
  have hq:=adB none 0 c w
  simp only[Option.isNone]at hq
  go_enter Tryz.func71,Tryz.ntmps71
  go_wp2_with fail
  go_ret
  exact⟨_,rfl,Own.nil _ _,Below.refl _ _⟩
 | some a=>
  have hlen:([]:List UInt8).length+l.length≤140737488355328:=by simp;omega
  have ho:=Own.lit (base:=w.heap.size) w [] (Nat.le_refl _) (by simp)
  have hb0:Below w.heap.size w (w.alloc (.cells (([]:List UInt8).map B8).toArray 5)):=(Below.refl _ _).alloc (Nat.le_refl _) _
  have hs0:=hb0.size
  have HB:=Lib.hid hB
  clear hB
  have hq:=adB (some a) l.length c w
  simp only[Option.isNone]at hq
  go_enter Tryz.func71,Tryz.ntmps71
  go_wp2_with (at_builtin;refine ay rfl (.tmp 5) (.tmp 6) rfl w.heap.size _ _ [] rfl ho (some a) l c rfl (HB.out.below hb0) hlen hs0 ?_;intro v1 w1 ho1 hg1;have hb1:Below w.heap.size w w1:=below_grown hb0 hg1 hs0 (fun g e=>(ho.aF g e).1))
  go_ret
  exact⟨_,rfl,by simpa using ho1,hb1⟩
end Go.Proofs.YtgfpocdiojifoaaGreatDoor
