import Derived.Test.YtgfpocdiojifoaaGreatDoorZ32
import Derived.RangeFuncNested
import Derived.RangeFuncBound
import Derived.RangeFuncCalls
import Derived.RangeFuncLeaves
import Derived.RangeFuncKeeps
import Derived.Test.YtgfpocdiojifoaaGreatDoorRows
import Derived.Shelf.Abstract
import Derived.Shelf.RegionOpen
import Derived.OwnWalkIn
import Derived.TacticsInMore
import Derived.LoopNIn
import Derived.LoopIn
import Derived.RangeFuncBox
import Derived.Maps.AppendAt
namespace Go.Proofs.YtgfpocdiojifoaaGreatDoor
set_option maxRecDepth 100000
set_option maxHeartbeats 8000000
open Go.RowKit
theorem afH(g:Nat)(w:World):(Instr.sliceAt 124 (.pointer (some ⟨g,0,none⟩)) none none none).run Tryz.prog w= .ok (.slice (some ⟨g,0,none⟩) 32 32) w:=by
 have ha:Tryz.prog.arrayLen 124=32:=by kernel_rfl
 have hu:Tryz.prog.underlying 124=some (.array (Tryz.prog.arrayLen 124) (Tryz.prog.elem 124)):=by kernel_rfl
 have hs:(sizeOf (Tryz.prog.elem 124)).run Tryz.prog w= .ok 1 w:=by kernel_rfl
 rw[run_sliceAt_array_all w 124 ⟨g,0,none⟩ hu,hs,ha]
 simp[Result.andThen,slicedAt]
 unfold Addr.add;split<;>simp_all
theorem kN(w:World):Below w.heap.size w w.drew:=(Below.refl _ _).drew
theorem afI(v:Value)(w:World):Calls Tryz.prog 81 #[v] w (dO w []):=by
 go_enter Tryz.func81,Tryz.ntmps81
 go_wp2_with fail
 go_ret
 exact⟨none,0,rfl,by simp,by omega,.nil,Below.refl _ _⟩
theorem Y8(A:Option Addr)(l:List UInt8)(c:Nat)(w:World)(hB:Bytes w A l)(hc:l.length≤c)(hm:c≤9223372036854775807):Calls Tryz.prog 82 #[.slice A l.length c] w (dO w (qK (C3.jB 0#32 l).toNat 4)):=by
 have HS:=Lib.hid (C3.sum_any A l c w hB hc hm)
 have hx:=(C3.jB 0#32 l).isLt
 generalize(C3.jB 0#32 l).toNat=x at*
 have HL:=Lib.hid (fun w=>tX x 4 (by omega) (by omega) w)
 have hx0:(0:Int)≤(x:Int):=by omega
 have hx1:(x:Int)<4294967296:=by omega
 go_enter Tryz.func82,Tryz.ntmps82
 go_wp2_with fail
 refine HS.out.mono ?_
 rintro e w1 ⟨rfl,hb1⟩
 go_wp2_with fail
 refine(HL.out w1).mono ?_
 rintro e w2 hd
 obtain⟨A2,c2,rfl,hc2,hm2,hB2,hb2⟩:=hd.bytes
 go_wp2_with fail
 go_ret
 exact⟨A2,c2,rfl,hc2,hm2,hB2,hb1.trans (hb2.mono hb1.size)⟩
theorem afJ(A:Option Addr)(l:List UInt8)(c:Nat)(w:World)(hB:Bytes w A l)(hc:l.length≤c)(hm:c≤9223372036854775807):Calls Tryz.prog 85 #[.slice A l.length c] w (dO w (qK (Y5.jB 0#64 l).toNat 8)):=by
 have HS:=Lib.hid (Y5.sum_any A l c w hB hc hm)
 have hx:=(Y5.jB 0#64 l).isLt
 generalize(Y5.jB 0#64 l).toNat=x at*
 have HL:=Lib.hid (fun w=>tX x 8 (by omega) (by omega) w)
 go_enter Tryz.func85,Tryz.ntmps85
 go_wp2_with fail
 refine HS.out.mono ?_
 rintro e w1 ⟨rfl,hb1⟩
 go_wp2_with fail
 refine(HL.out w1).mono ?_
 rintro e w2 hd
 obtain⟨A2,c2,rfl,hc2,hm2,hB2,hb2⟩:=hd.bytes
 go_wp2_with fail
 go_ret
 exact⟨A2,c2,rfl,hc2,hm2,hB2,hb1.trans (hb2.mono hb1.size)⟩
theorem afK(A:Option Addr)(l:List UInt8)(c:Nat)(w:World)(hT:Tabs w)(hB:Bytes w A l)(hc:l.length≤c)(hm:c≤9223372036854775807)(hn:l.length≤100000000):Calls Tryz.prog 87 #[.slice A l.length c] w (dO w (St.new.puts l).digest):=by
 have HS:=Lib.hid (Sz A l c w hT hB hc hm hn)
 have acD:(St.new.puts l).digest.length=32:=oM _
 have hz32:=(zero_of_info Cj).1
 generalize(St.new.puts l).digest=D at*
 go_enter Tryz.func87,Tryz.ntmps87
 go_wp2_with fail
 refine HS.out.mono ?_
 rintro e w2 ⟨rfl,hb2⟩
 have hlast:=heap_alloc_last w2 (.cells zero32 124)
 have hset:=World.setRow_alloc_new w2 zero32 (D.map B8).toArray 124
 have hsz:((Tryz.prog.info? 124).map (·.size))=some (D.map B8).toArray.size:=by rw[uI];simp[acD]
 have hzz:zero32.size=(D.map B8).toArray.size:=by simp[acD,zero32]
 have hone:(D.map B8).toArray.all (·.oneCell')=true:=all_oneCell_toArray (oJ _)
 have hB3:Bytes (w2.alloc (.cells (D.map B8).toArray 124)) (some ⟨w2.heap.size,0,none⟩) D:= .inr ⟨_,_,rfl,by simp,fun k hk=>by
  rw[cell_of_row _ _ _ _ _ _ (heap_alloc_last _ _),Nat.zero_add,List.getElem?_toArray,List.getElem?_map,List.getElem?_eq_getElem hk];rfl⟩
 have hb3:=hb2.trans ((dL w2 (.cells (D.map B8).toArray 124)).mono hb2.size)
 have HB3:=Lib.hid hB3
 have Cm:=Lib.hid hset
 have HDL:=Lib.hid acD
 have k:=fun w=>afH w2.heap.size w
 generalize(D.map B8).toArray=DV at*
 clear hset hB3 acD hb2
 go_wp2_with (refine wpList_store_row rfl 124 _ _ rfl w2.heap.size DV rfl rfl 124 zero32 hlast hsz hzz hone ?_;rw[Cm.out])
 go_ret
 exact⟨some ⟨w2.heap.size,0,none⟩,32,by rw[HDL.out];rfl,by rw[HDL.out];omega,by omega,HB3.out,hb3⟩
theorem wJ(c:Int):c=0∨c=1∨c=4∨c=10∨iD c=false:=by
 unfold iD
 by_cases h0:c=0
 ·exact .inl h0
 by_cases h1:c=1
 ·exact .inr (.inl h1)
 by_cases h4:c=4
 ·exact .inr (.inr (.inl h4))
 by_cases h10:c=10
 ·exact .inr (.inr (.inr (.inl h10)))
 ·simp[h0,h1,h4,h10]
theorem Ei(c:Int)(w:World):Calls Tryz.prog 26 #[.int .i64 c] w fun e w'=>e= .returned (.bool (iD c))∧Below w.heap.size w w':=by
 have key: ∀(a:Option (Nat×Value)) (v:Value) (b:Bool),Instr.findNow (.int .i64) (.int .i64 c) oQ.toList 0=some a→(a.map (·.2)).getD .nilFunc=v→a.isSome=b→iD c=b→
   Calls Tryz.prog 26 #[.int .i64 c] w fun e w'=>e= .returned (.bool b)∧Below w.heap.size w w':=by
  intro a v b hf hv hb _
  go_enter Tryz.func26,Tryz.ntmps26
  go_wp2_with fail
  refine(nH w).mono ?_
  rintro e w1 ⟨r,rfl,hm,hr,hb1⟩
  have k:=qL w1 r c hm a hf
  rw[hv,hb]at k
  clear hf hv hb hm
  go_wp2_with fail
  go_ret
  exact⟨rfl,hb1⟩
 rcases wJ c with rfl | rfl | rfl | rfl | h
 ·exact key _ _ _ GY rfl rfl rfl
 ·exact key _ _ _ zF rfl rfl rfl
 ·exact key _ _ _ GZ rfl rfl rfl
 ·exact key _ _ _ Ef rfl rfl rfl
 ·rw[h];exact key _ _ _ (Eh c h) rfl rfl h
theorem Jd(c:Int)(A:Option Addr)(l:List UInt8)(cap:Nat)(w:World)(hT:Tabs w)(hB:Bytes w A l)(hc:l.length≤cap)(hm:cap≤9223372036854775807)(hn:l.length≤100000000):
  Calls Tryz.prog 18 #[.int .i64 c,.slice A l.length cap] w (dO w (tZ c l)):=by
 rcases wJ c with rfl | rfl | rfl | rfl | h
 ·have HT:=Lib.hid hT
  clear hT
  show Calls _ _ _ _ (dO w [])
  go_enter Tryz.func18,Tryz.ntmps18
  go_wp2_with fail
  refine(nH w).mono ?_
  rintro e w1 ⟨r,rfl,hm1,hr,hb1⟩
  have k:(Instr.lookup 88 (.map (some r)) (.int .i64 0) true).run Tryz.prog w1= .ok (.tuple #[.func (.func 81) #[] #[],.bool true]) w1:=qL w1 r 0 hm1 _ GY
  have hB1:=hB.below hb1
  have hT1:=HT.out.below hb1
  have Xf:=Lib.hid (afI (.slice A l.length cap) w1)
  clear hm1 hT1 hB1 hB
  go_wp2_with fail
  refine Xf.out.mono ?_
  rintro e w2 ⟨A2,c2,rfl,hc2,hm2,hB2,hb2⟩
  go_wp2_with fail
  go_ret
  exact⟨A2,c2,rfl,hc2,hm2,hB2,hb1.trans (hb2.mono hb1.size)⟩
 ·have HT:=Lib.hid hT
  clear hT
  show Calls _ _ _ _ (dO w (qK (C3.jB 0#32 l).toNat 4))
  go_enter Tryz.func18,Tryz.ntmps18
  go_wp2_with fail
  refine(nH w).mono ?_
  rintro e w1 ⟨r,rfl,hm1,hr,hb1⟩
  have k:(Instr.lookup 88 (.map (some r)) (.int .i64 1) true).run Tryz.prog w1= .ok (.tuple #[.func (.func 82) #[] #[],.bool true]) w1:=qL w1 r 1 hm1 _ zF
  have hB1:=hB.below hb1
  have hT1:=HT.out.below hb1
  have Xf:=Lib.hid (Y8 A l cap w1 hB1 hc hm)
  clear hm1 hT1 hB1 hB
  go_wp2_with fail
  refine Xf.out.mono ?_
  rintro e w2 ⟨A2,c2,rfl,hc2,hm2,hB2,hb2⟩
  go_wp2_with fail
  go_ret
  exact⟨A2,c2,rfl,hc2,hm2,hB2,hb1.trans (hb2.mono hb1.size)⟩
 ·have HT:=Lib.hid hT
  clear hT
  show Calls _ _ _ _ (dO w (qK (Y5.jB 0#64 l).toNat 8))
  go_enter Tryz.func18,Tryz.ntmps18
  go_wp2_with fail
  refine(nH w).mono ?_
  rintro e w1 ⟨r,rfl,hm1,hr,hb1⟩
  have k:(Instr.lookup 88 (.map (some r)) (.int .i64 4) true).run Tryz.prog w1= .ok (.tuple #[.func (.func 85) #[] #[],.bool true]) w1:=qL w1 r 4 hm1 _ GZ
  have hB1:=hB.below hb1
  have hT1:=HT.out.below hb1
  have Xf:=Lib.hid (afJ A l cap w1 hB1 hc hm)
  clear hm1 hT1 hB1 hB
  go_wp2_with fail
  refine Xf.out.mono ?_
  rintro e w2 ⟨A2,c2,rfl,hc2,hm2,hB2,hb2⟩
  go_wp2_with fail
  go_ret
  exact⟨A2,c2,rfl,hc2,hm2,hB2,hb1.trans (hb2.mono hb1.size)⟩
 ·have HT:=Lib.hid hT
  clear hT
  show Calls _ _ _ _ (dO w (St.new.puts l).digest)
  go_enter Tryz.func18,Tryz.ntmps18
  go_wp2_with fail
  refine(nH w).mono ?_
  rintro e w1 ⟨r,rfl,hm1,hr,hb1⟩
  have k:(Instr.lookup 88 (.map (some r)) (.int .i64 10) true).run Tryz.prog w1= .ok (.tuple #[.func (.func 87) #[] #[],.bool true]) w1:=qL w1 r 10 hm1 _ Ef
  have hB1:=hB.below hb1
  have hT1:=HT.out.below hb1
  have Xf:=Lib.hid (afK A l cap w1 hT1 hB1 hc hm hn)
  clear hm1 hT1 hB1 hB
  go_wp2_with fail
  refine Xf.out.mono ?_
  rintro e w2 ⟨A2,c2,rfl,hc2,hm2,hB2,hb2⟩
  go_wp2_with fail
  go_ret
  exact⟨A2,c2,rfl,hc2,hm2,hB2,hb1.trans (hb2.mono hb1.size)⟩
 ·have hs:tZ c l=[]:=by
   simp[iD]at h
   unfold tZ
   rw[if_neg (by omega),if_neg (by omega),if_neg (by omega)]
  rw[hs]
  have HF:=Lib.hid (Eh c h)
  go_enter Tryz.func18,Tryz.ntmps18
  go_wp2_with fail
  refine(nH w).mono ?_
  rintro e w1 ⟨r,rfl,hm1,hr,hb1⟩
  have k:(Instr.lookup 88 (.map (some r)) (.int .i64 c) true).run Tryz.prog w1= .ok (.tuple #[.nilFunc,.bool false]) w1:=qL w1 r c hm1 _ HF.out
  clear hm1
  go_wp2_with fail
  go_ret
  exact⟨none,0,rfl,by simp,by omega,.nil,hb1⟩
theorem size_any(c:Int)(w:World)(hT:Tabs w):Calls Tryz.prog 35 #[.int .i64 c] w fun e w'=>e= .returned (.int .i64 (dS c:Nat))∧Below w.heap.size w w':=by
 have HS:=Lib.hid (Jd c none [] 0 w hT .nil (by simp) (by omega) (by simp))
 have HL:=Lib.hid (jQ c [])
 generalize tZ c []=L at*
 go_enter Tryz.func35,Tryz.ntmps35
 go_wp2_with fail
 refine HS.out.mono ?_
 rintro e w1 ⟨A,c1,rfl,hc1,hm1,hB1,hb1⟩
 go_wp2_with fail
 go_ret
 exact⟨by rw[HL.out];rfl,hb1⟩
def zG(c:Int):Int:=if iD c then(dS c:Int)else -1
theorem Ur(c:Int)(w:World):Calls Tryz.prog 23 #[.int .i64 c] w fun e w'=>e= .returned (.int .i64 (zG c))∧w=w':=by
 rcases wJ c with rfl | rfl | rfl | rfl | h
 ·go_enter Tryz.func23,Tryz.ntmps23
  go_wp2_with fail
  go_ret
  exact⟨rfl,rfl⟩
 ·go_enter Tryz.func23,Tryz.ntmps23
  go_wp2_with fail
  go_ret
  exact⟨rfl,rfl⟩
 ·go_enter Tryz.func23,Tryz.ntmps23
  go_wp2_with fail
  go_ret
  exact⟨rfl,rfl⟩
 ·go_enter Tryz.func23,Tryz.ntmps23
  go_wp2_with fail
  go_ret
  exact⟨rfl,rfl⟩
 ·have hr:zG c= -1:=by unfold zG;rw[h];rfl
  rw[hr]
  simp[iD]at h
  obtain⟨⟨⟨h0,h1⟩,h4⟩,h10⟩:=h
  have e0:(c==0)=false:=by simpa using h0
  have e1:(c==1)=false:=by simpa using h1
  have e4:(c==4)=false:=by simpa using h4
  have e10:(c==10)=false:=by simpa using h10
  clear h0 h1 h4 h10 hr
  go_enter Tryz.func23,Tryz.ntmps23
  go_wp2_with fail
  go_ret
  exact⟨rfl,rfl⟩
def uf(l:List UInt8):List UInt8:=qK (C3.jB 0#32 l).toNat 4
theorem lF(l:List UInt8):(uf l).length=4:=oC _ _
theorem LU(A:Option Addr)(l:List UInt8)(cap:Nat)(w:World)(hB:Bytes w A l)(hc:l.length≤cap)(hm:cap≤9223372036854775807):
  Calls Tryz.prog 18 #[.int .i64 1,.slice A l.length cap] w (dO w (uf l)):=by
 show Calls _ _ _ _ (dO w (qK (C3.jB 0#32 l).toNat 4))
 go_enter Tryz.func18,Tryz.ntmps18
 go_wp2_with fail
 refine(nH w).mono ?_
 rintro e w1 ⟨r,rfl,hm1,hr,hb1⟩
 have k:(Instr.lookup 88 (.map (some r)) (.int .i64 1) true).run Tryz.prog w1= .ok (.tuple #[.func (.func 82) #[] #[],.bool true]) w1:=qL w1 r 1 hm1 _ zF
 have hB1:=hB.below hb1
 have Xf:=Lib.hid (Y8 A l cap w1 hB1 hc hm)
 clear hm1 hB1 hB
 go_wp2_with fail
 refine Xf.out.mono ?_
 rintro e w2 ⟨A2,c2,rfl,hc2,hm2,hB2,hb2⟩
 go_wp2_with fail
 go_ret
 exact⟨A2,c2,rfl,hc2,hm2,hB2,hb1.trans (hb2.mono hb1.size)⟩
section
open Go Go.RowKit
def wK{β:Type}(bn:Nat)(J:β→World→Prop):Prop:= ∀s W v,J s W→J s (W.setCell ⟨bn,0,none⟩ v)
def jX(bn:Nat)(W W':World):Prop:=W'.cell? ⟨bn,0,none⟩=W.cell? ⟨bn,0,none⟩∧W'.frozen? ⟨bn,0,none⟩=W.frozen? ⟨bn,0,none⟩
theorem jX.trans{bn:Nat}{A B C:World}(h:jX bn A B)(k:jX bn B C):jX bn A C:=⟨k.1.trans h.1,k.2.trans h.2⟩
theorem rC{bn l:Nat}(W:World)(o:Obj)(h:bn≠l):jX bn W (W.putObj l o):=by
 have e:=World.putObj_heap_other (w:=W) (o:=o) h
 exact⟨World.cell?_of_block (a:=⟨bn,0,none⟩) e,World.frozen?_of_block (a:=⟨bn,0,none⟩) e⟩
def Y9{α:Type}(F:Fence)(n:Nat)(P:Program)(g:Nat)(lb:Array Value)(encs:α→Array Value)(bn:Nat)(S:List α→Prop)(N:Nat)(w:World):Prop:=
 ∀(l:Nat) (J:List α→World→Prop) (W:World),Below w.heap.size w W→wK bn J→
  (∀pre x W1,J pre W1→pre.length<N→YieldAt F (n-1) P l (encs x) W1 fun e W'=>e= .returned (.bool true)∧J (pre++[x]) W'∧jX bn W1 W')→
  J [] W→
  CallsIn F n P g (#[.func (.yield l) #[] #[]]++lb) W fun e W'=>(∃v,e= .returned v)∧ ∃xs,S xs∧J xs W'
def acE{α:Type}(bn:Nat)(I:List α→World→Prop)(xs:List α)(W:World):Exit→Act→World→Prop
 | .normal,_,W'=>KeepsOthers W W'∧jX bn W W'∧I xs W'
 | _,_,_=>False
variable{F:Fence}{n:Nat}{P:Program}
theorem Ej{α:Type}{g:Operand}{ps:Array Tmp}{assign body:Code}{Q:Exit→Act→World→Prop}{a:Act}{w:World}
  (hro:F.round=none) (h1:1≤n) {gf:Nat} {lb:Array Value} (hg:a.eval g= .func (.func gf) #[] lb) (hFg:F.fn gf) (eg: ∀args w,(callFunc gf args).run P w= .ok (.enter gf args) w)
  {encs:α→Array Value} {bn:Nat} {S:List α→Prop} {N:Nat} (hseq:Y9 F (n-1) P gf lb encs bn S N w) (hbn:bn<w.heap.size) (hps: ∀x,(encs x).size=ps.size)
  (I:List α→World→Prop) (hIa: ∀s W o,I s W→I s (W.alloc o)) (Oc: ∀s W l o o',I s W→w.heap.size≤l→W.heap[l]? =some o→o.isCells=false→I s (W.putObj l o')) (hIc:wK bn I) (h0:I [] w) (a₁:α→Act)
  (hassign: ∀(l:Nat) (x:α) (W:World) (K:Act→World→Prop),K (a₁ x) W→
   assign.wpIn (F.inRound l) (n-1-1) P (Exit.then K (fun _ _ _=>False)) {tmps:=(ps.zip (encs x)).foldl (fun t (p,v)=>t.setIfInBounds p v) a.tmps,defers:=[]} W)
  (hbody: ∀(l:Nat) (pre:List α) (x:α) (W:World),I pre W→pre.length<N→body.wpIn (F.inRound l) (n-1-1) P (acE bn I (pre++[x]) W) (a₁ x) W)
  (hdone: ∀(D:Nat) (xs:List α) (W:World),w.heap.size≤D→S xs→I xs W→W.heap[D]? =some (.deferred (some []))→Q .normal {a with defers:={target:= .collected D,args:= #[]}::a.defers} W):
  (Code.rangeFunc g ps assign body).wpIn F n P Q a w:=by
 refine wpIn_rangeFunc fun fn hfn=> ?_
 rw[hro]
 let sV:LoopState→Loop:=fun st=>{state:=st,pending:=none,fn,tmps:=a.tmps,params:=ps,assign,body,defers:=w.heap.size}
 obtain⟨W1,hW1⟩: ∃W1,(w.alloc (.deferred (some []))).alloc (.loop (sV .ready))=W1:=⟨_,rfl⟩
 have hb1:Below w.heap.size w W1:=by
  rw[←hW1];exact((Below.refl _ w).alloc (Nat.le_refl _) _).alloc (by simp) _
 have hL1:W1.heap[w.heap.size+1]? =some (.loop (sV .ready)):=by
  rw[←hW1];have:=World.alloc_heap_new (w.alloc (.deferred (some []))) (.loop (sV .ready));rwa [World.size_alloc]at this
 have hK1:W1.heap[w.heap.size]? =some (.deferred (some [])):=by
  rw[←hW1];exact(Below.heap_alloc _ _ _ (by simp)).trans (World.alloc_heap_new w _)
 have hI1:I [] W1:=by rw[←hW1];exact hIa _ _ _ (hIa _ _ _ h0)
 refine⟨w.heap.size+1,[{target:= .collected w.heap.size,args:= #[]}],W1,{target:= .fn (.func gf) lb,args:= #[.func (.yield (w.heap.size+1)) #[] #[]]},W1,gf,
  #[.func (.yield (w.heap.size + 1)) #[] #[]] ++ lb, W1, ?_, ?_, ?_, ?_, fun _ => h1, ?_⟩
 ·rw[←hW1];exact run_enterLoop_outer _ _ _ _ _
 ·simp only[resolve,hg]
  simp[go_sem]
 ·intro f' hf';simp[Target.leads]at hf';subst hf';exact hFg
 ·simp[invoke,go_sem,eg]
 ·refine(hseq (w.heap.size+1) (fun pre W=>I pre W∧W.heap[w.heap.size+1]? =some (.loop (sV .ready))∧W.heap[w.heap.size]? =some (.deferred (some []))) W1 hb1 ?_ ?_ ⟨hI1,hL1,hK1⟩).mono ?_
  ·intro s W v hs
   exact⟨hIc s W v hs.1,(heap_setCell_other _ _ _ _ (by show w.heap.size+1≠bn;omega)).trans hs.2.1,(heap_setCell_other _ _ _ _ (by show w.heap.size≠bn;omega)).trans hs.2.2⟩
  ·rintro pre x W ⟨hi,hl,hk⟩ hlen
   have hlt:w.heap.size+1<W.heap.size:=(Array.getElem?_eq_some_iff.1 hl).1
   have hy:=run_yield (P:=P) (args:=encs x) hl (hps x)
   refine⟨fn,_,assign,body,hy,roundIn_of_wpIn hfn (hassign _ x W _ ⟨_,run_beginRound hl rfl,?_⟩)⟩
   have hl2:(W.putObj (w.heap.size+1) (.loop (sV .busy))).heap[w.heap.size+1]? =some (.loop (sV .busy)):=World.putObj_heap_same hlt
   have hk2:(W.putObj (w.heap.size+1) (.loop (sV .busy))).heap[w.heap.size]? =some (.deferred (some [])):=(World.putObj_heap_other (by omega)).trans hk
   have hc2:jX bn W (W.putObj (w.heap.size+1) (.loop (sV .busy))):=rC _ _ (by omega)
   refine wpIn_mono (hbody _ pre x _ (Oc _ _ _ _ _ hi (by omega) hl rfl) hlen) ?_
   rintro e a3 W3 hp
   cases e with
   | normal=>
    obtain⟨hk3,hkc,hi3⟩:=hp
    have hl3:=hk3.same _ _ hl2 rfl
    have hend:=run_endRound (P:=P) none hl3
    exact⟨_,_,hend,rfl,⟨Oc _ _ _ _ _ hi3 (by omega) hl3 rfl,World.putObj_heap_same (Array.getElem?_eq_some_iff.1 hl3).1,(World.putObj_heap_other (by omega)).trans (hk3.same _ _ hk2 rfl)⟩,(hc2.trans hkc).trans (rC _ _ (by omega))⟩
   | ret=>exact hp.elim
   | exit id=>exact hp.elim
   | goto t=>exact hp.elim
   | panic ch=>exact hp.elim
   | outgrown=>exact hp.elim
  ·rintro e W2 ⟨⟨v,rfl⟩,xs,hS,hi,hl,hk⟩
   exact⟨none,_,run_endLoop (P:=P) hl (by simp[sV]),hdone _ xs _ (Nat.le_refl _) hS (Oc _ _ _ _ _ hi (by omega) hl rfl) ((World.putObj_heap_other (by omega)).trans hk)⟩
end
namespace Vl
def put:Nat→Nat→List UInt8
 | 0,n=>[UInt8.ofNat n]
 | f+1,n=>if n<128 then [UInt8.ofNat n]else UInt8.ofNat (n%128+128)::put f (n/128)
theorem jh{f n:Nat}(h:n<128):put f n=[UInt8.ofNat n]:=by
 cases f with
 | zero=>rfl
 | succ f=>rw[put,if_pos h]
theorem yw{f n:Nat}(h: ¬n<128):put (f+1) n=UInt8.ofNat (n%128+128)::put f (n/128):=by rw[put,if_neg h]
theorem iE(f n:Nat):1≤(put f n).length∧(put f n).length≤f+1:=by
 induction f generalizing n with
 | zero=>exact⟨Nat.le_refl _,Nat.le_refl _⟩
 | succ f ih=>
  by_cases h:n<128
  ·rw[jh h];simp
  ·rw[yw h];have:=ih (n/128);simp;omega
theorem Q5: ∀k:Fin 256,k.val ||| 128=k.val%128+128:=by decide+kernel
end Vl
section
open Go.RowKit Go.Shelf
attribute [local go_sem] Oper.semAt_some
def Pg(bn:Nat)(wr:World):Nat:=(intOf ((wr.cell? ⟨bn,0,none⟩).getD undef)).toNat
theorem G5{bn m:Nat}{wr:World}(h:wr.cell? ⟨bn,0,none⟩=some (.int .u64 (m:Nat))):Pg bn wr=m:=by
 unfold Pg;rw[h];simp[intOf]
theorem acF(m:Nat):bits .or .u8 ((m:Int)%256) 128=(((UInt8.ofNat (m%128+128)).toNat:Nat):Int):=by
 have h:m%256 ||| 128=m%256%128+128:=Vl.Q5 ⟨m%256,Nat.mod_lt _ (by omega)⟩
 rw[show(m:Int)%256=((m%256:Nat):Int) by omega,show(128:Int)=((128:Nat):Int)from rfl,u8_or_nat _ _ (by omega) (by omega),h,UInt8.toNat_ofNat']
 omega
theorem Za(m:Nat)(h:m<128):B8 (UInt8.ofNat m)= .int .u8 (m:Nat):=by
 have e:(UInt8.ofNat m).toNat=m:=by rw[UInt8.toNat_ofNat'];omega
 show Value.int .u8 _=_
 rw[e]
theorem acG(F:Fence)(n:Nat)(h11:F.fn 126)(hro:F.round=none)(hn:1≤n)(bn nv:Nat)(w:World)(hb:bn<w.heap.size)(hc:w.cell? ⟨bn,0,none⟩=some (.int .u64 (nv:Nat)))(hf:w.frozen? ⟨bn,0,none⟩=false)(hv:nv<128^10)(hv64:nv<18446744073709551616):
  Y9 F n Tryz.prog 126 #[.pointer (some ⟨bn,0,none⟩)] (fun x:UInt8=> #[B8 x]) bn (fun xs=>xs=Vl.put 9 nv) 10 w:=by
 intro l J W hW hJ hY h0
 have hcW:=(hW.cell (p:=⟨bn,0,none⟩) hb).trans hc
 have hfW:=(hW.frozen (p:=⟨bn,0,none⟩) hb).trans hf
 have HY:=Lib.hid hY
 have HJ:=Lib.hid hJ
 clear hY hJ hc hf
 refine callsIn_of_wp Tryz.func126 rfl h11 ?_ hro
 simp only[Tryz.ntmps126,List.size_toArray,List.length_cons,List.length_nil,Nat.reduceAdd,Nat.reduceSub,Array.replicate_succ,Array.replicate_zero,List.push_toArray,List.append_toArray,List.nil_append,List.cons_append]
 gi_wp2
 gi_loopw [4] (fun _ wr=> ∃(pre:List UInt8) (m f:Nat),Hid (Vl.put 9 nv=pre++Vl.put f m)∧Hid (m<128^(f+1))∧m<18446744073709551616∧pre.length+f=9∧wr.cell? ⟨bn,0,none⟩=some (.int .u64 (m:Nat))∧wr.frozen? ⟨bn,0,none⟩=false∧J pre wr) (fun _ wr=>Pg bn wr)
 case atStart=>exact⟨[],nv,9,rfl,hv,hv64,rfl,hcW,hfW,h0⟩
 case round=>
  obtain⟨pre,m,f,hput,hm,asO,hlen,hcm,hfm,hJs⟩:=hrel
  clear hcW hfW
  have hleft:=Lib.hid (G5 hcm)
  by_cases hlt:m<128
  ·have hlt': ¬(128:Int)≤(m:Int):=by omega
   obtain⟨fn,tmps,assign,body,hy,hR⟩:=HY.out pre (UInt8.ofNat m) wr hJs (by omega)
   rw[Za m hlt]at hy
   have Yl:=Lib.hid (Vl.jh (f:=f) hlt)
   generalize UInt8.ofNat m=X at*
   gi_wp2
   refine hR.mono ?_
   rintro e W3 ⟨rfl,hJ3,hk3⟩
   gi_wp2
   go_end0
   exact⟨⟨_,rfl⟩,pre++[X],by rw[hput.out,Yl.out],hJ3⟩
  ·have hlt':(128:Int)≤(m:Int):=by omega
   cases f with
   | zero=>have:=hm.out;simp at this;omega
   | succ f=>
    obtain⟨fn,tmps,assign,body,hy,hR⟩:=HY.out pre (UInt8.ofNat (m%128+128)) wr hJs (by omega)
    have hor:=acF m
    have Yl:=Lib.hid (Vl.yw (f:=f) hlt)
    have hq:(m:Int)/128=((m/128:Nat):Int):=by omega
    have hm2:m/128<128^(f+1):=by
     have:=hm.out
     rw[Nat.pow_succ]at this
     rw[Nat.div_lt_iff_lt_mul (by omega)];exact this
    have hm3:m/128<m:=by omega
    have hm4:m/128<18446744073709551616:=by omega
    change Sem.run _ (Instr.yield l #[Value.int .u8 (((UInt8.ofNat (m%128+128)).toNat:Nat):Int)]) wr=_ at hy
    generalize(UInt8.ofNat (m%128+128)).toNat=xn at hy hor
    generalize UInt8.ofNat (m%128+128)=X at*
    generalize m/128=m2 at*
    have EX:=Lib.hid hm2
    clear hm2 hm
    gi_wp2
    refine hR.mono ?_
    rintro e W3 ⟨rfl,hJ3,hk3⟩
    have hc3:W3.cell? ⟨bn,0,none⟩=some (.int .u64 (m:Nat)):=hk3.1.trans hcm
    have hf3:W3.frozen? ⟨bn,0,none⟩=false:=hk3.2.trans hfm
    have hc4:(W3.setCell ⟨bn,0,none⟩ (.int .u64 (m2:Nat))).cell? ⟨bn,0,none⟩=some (.int .u64 (m2:Nat)):=World.cell?_setCell_same' _ _ _ (by rw[hc3];rfl)
    have hf4:(W3.setCell ⟨bn,0,none⟩ (.int .u64 (m2:Nat))).frozen? ⟨bn,0,none⟩=false:=by rw[World.frozen?_setCell];exact hf3
    have hJ4:=HJ.out (pre++[X]) W3 (.int .u64 (m2:Nat)) hJ3
    have CJ:=Lib.hid (G5 hc4)
    gi_wp2
    go_roundw
    case rel=>exact⟨pre++[X],m2,f,by show Vl.put 9 nv=_;rw[hput.out,Yl.out];simp,EX.out,hm4,by simp;omega,hc4,hf4,hJ4⟩
    case measure=>rw[CJ.out,hleft.out];exact hm3
end
section
open Go.RowKit Go.Shelf
attribute [local go_sem] Oper.semAt_some
def G6(w:World)(B bn:Nat)(pre:List UInt8)(W:World):Prop:=
 ∃v x,W.heap[B]? =some (.cells #[v] 22 (0,0))∧W.heap[bn]? =some (.cells #[x] 41 (0,0))∧Own w.heap.size W v pre∧Below w.heap.size w W
theorem Own.put{base:Nat}{W:World}{v:Value}{l:List UInt8}(h:Own base W v l){j:Nat}{o:Obj}(o':Obj)(hj:W.heap[j]? =some o)(ho:o.isCells=false):Own base (W.putObj j o') v l:=by
 rcases h with⟨h1,h2 | ⟨g,cap,cur,h2,h3,h4,h5⟩⟩
 ·exact⟨h1,.inl h2⟩
 ·refine⟨h1,.inr ⟨g,cap,cur,h2,h3,(World.putObj_heap_other ?_).trans h4,h5⟩⟩
  intro e;subst e;rw[hj]at h4;injection h4 with h4;subst h4;cases ho
theorem Own.set{base:Nat}{W:World}{v:Value}{l:List UInt8}(h:Own base W v l){p:Addr}(hp:v.ownBlock≠some p.block)(u:Value):Own base (W.setCell p u) v l:=by
 rcases h with⟨h1,h2 | ⟨g,cap,cur,h2,h3,h4,h5⟩⟩
 ·exact⟨h1,.inl h2⟩
 ·exact⟨h1,.inr ⟨g,cap,cur,h2,h3,(heap_setCell_other _ _ _ _ (fun e=>hp (by rw[h2,←e];rfl))).trans h4,h5⟩⟩
theorem Own.apart{base:Nat}{W:World}{v:Value}{l:List UInt8}(h:Own base W v l){k:Nat}{cs:Array Value}{t:TypeId}{fr:Nat×Nat}(hk:W.heap[k]? =some (.cells cs t fr))(ht:t≠5):v.ownBlock≠some k:=by
 intro he
 rcases h with⟨_,⟨rfl,_⟩ | ⟨g',cap',cur,rfl,_,h4,_⟩⟩
 ·cases he
 ·have e:g'=k:=by simpa [Value.ownBlock]using he
  subst e
  rw[h4]at hk
  injection hk with hk;injection hk with _ hk2 _
  exact ht hk2.symm
theorem Own.cells{base:Nat}{W:World}{v:Value}{l:List UInt8}(h:Own base W v l){j:Nat}{o:Obj}(hj:v.ownBlock=some j)(ho:W.heap[j]? =some o):o.isCells=true:=by
 rcases h with⟨_,⟨rfl,_⟩ | ⟨g',cap',cur,rfl,_,h4,_⟩⟩
 ·cases hj
 ·have e:g'=j:=by simpa [Value.ownBlock]using hj
  subst e
  rw[ho]at h4;injection h4 with h4;subst h4;rfl
theorem FV{bn:Nat}{W W':World}(h:W'.heap[bn]? =W.heap[bn]?):jX bn W W':=
 ⟨World.cell?_of_block (a:=⟨bn,0,none⟩) h,World.frozen?_of_block (a:=⟨bn,0,none⟩) h⟩
theorem LV{w:World}{B bn:Nat}(s:List UInt8)(W:World)(o:Obj)(h:G6 w B bn s W):G6 w B bn s (W.alloc o):=by
 obtain⟨v,x,h1,h2,h3,h4⟩:=h
 have l1:B<W.heap.size:=(Array.getElem?_eq_some_iff.1 h1).1
 have l2:bn<W.heap.size:=(Array.getElem?_eq_some_iff.1 h2).1
 exact⟨v,x,(Below.heap_alloc _ _ _ l1).trans h1,(Below.heap_alloc _ _ _ l2).trans h2,h3.alloc _,h4.alloc h4.size _⟩
theorem Us{w w0:World}{B bn:Nat}(hw:w.heap.size≤w0.heap.size)(s:List UInt8)(W:World)(j:Nat)(o o':Obj)(h:G6 w B bn s W)(hl:w0.heap.size≤j)(hj:W.heap[j]? =some o)(ho:o.isCells=false):G6 w B bn s (W.putObj j o'):=by
 obtain⟨v,x,h1,h2,h3,h4⟩:=h
 have n1:B≠j:=by intro e;subst e;rw[hj]at h1;injection h1 with h1;subst h1;cases ho
 have n2:bn≠j:=by intro e;subst e;rw[hj]at h2;injection h2 with h2;subst h2;cases ho
 refine⟨v,x,(World.putObj_heap_other n1).trans h1,(World.putObj_heap_other n2).trans h2,h3.put _ hj ho,?_⟩
 exact h4.grown (grownBy_putObj' W j o') h4.size (fun k e=>by cases e;omega)
theorem Ph{w:World}{B bn:Nat}(hne:B≠bn)(hb:w.heap.size≤bn):wK bn (G6 w B bn):=by
 intro s W u h
 obtain⟨v,x,h1,h2,h3,h4⟩:=h
 refine⟨v,u,(heap_setCell_other _ _ _ _ hne).trans h1,?_,h3.set (h3.apart h2 (by decide)) _,h4.setCell hb _⟩
 rw[heap_setCell_same W bn 0 _ _ u h2];rfl
def acH(w:World)(nv:Nat)(e:Ending)(w':World):Prop:=e= .returned (.func (.func 126) #[] #[.pointer (some ⟨w.heap.size,0,none⟩)])∧w.alloc (.cells #[.int .u64 (nv:Nat)] 41)=w'
theorem afL(F:Fence)(n:Nat)(h10:F.fn 80)(hro:F.round=none)(nv:Nat)(w:World):
  CallsIn F n Tryz.prog 80 #[.int .u64 (nv:Nat)] w (acH w nv):=by
 refine callsIn_of_wp Tryz.func80 rfl h10 ?_ hro
 simp only[Tryz.ntmps80,List.size_toArray,List.length_cons,List.length_nil,Nat.reduceAdd,Nat.reduceSub,Array.replicate_succ,Array.replicate_zero,List.push_toArray,List.append_toArray,List.nil_append,List.cons_append]
 gi_wp2
 go_ret
 exact⟨rfl,rfl⟩
def Q7(w:World)(l:List UInt8)(e:Ending)(w':World):Prop:= ∃v,e= .returned (.tuple #[v,.int .i64 0])∧Own w.heap.size w' v l∧Below w.heap.size w w'
theorem afM(F:Fence)(n:Nat)(h6:F.fn 45)(h10:F.fn 80)(h11:F.fn 126)(hro:F.round=none)(hn:3≤n)(nv:Nat)(w:World)(hv:nv≤9223372036854775807):
  CallsIn F n Tryz.prog 45 #[.int .u64 (nv:Nat)] w (Q7 w (Vl.put 9 nv)):=by
 have h1:1≤n:=by omega
 have hv': ¬(9223372036854775807:Int)<(nv:Int):=by omega
 have hv64:nv<18446744073709551616:=by omega
 refine callsIn_of_wp_marks Tryz.func45 rfl h6 ?_ hro
 simp only[Tryz.ntmps45,List.size_toArray,List.length_cons,List.length_nil,Nat.reduceAdd,Nat.reduceSub,Array.replicate_succ,Array.replicate_zero,List.push_toArray,List.append_toArray,List.nil_append,List.cons_append]
 gi_wp2_with (gi_at_call 80;refine(afL F (n-1) h10 hro nv _).mono ?_;rintro e w' ⟨rfl,rfl⟩)
 have Q8:((w.alloc (.cells #[.slice none 0 0] 22)).alloc (.cells #[.int .u64 (nv:Nat)] 41)).heap[w.heap.size+1]? =some (.cells #[.int .u64 (nv:Nat)] 41 (0,0)):=by
  have:=heap_alloc_new (w.alloc (.cells #[.slice none 0 0] 22)) (.cells #[.int .u64 (nv:Nat)] 41)
  rwa [World.size_alloc]at this
 have adS:((w.alloc (.cells #[.slice none 0 0] 22)).alloc (.cells #[.int .u64 (nv:Nat)] 41)).heap[w.heap.size]? =some (.cells #[.slice none 0 0] 22 (0,0)):=
  (Below.heap_alloc _ _ _ (by simp)).trans (heap_alloc_new w _)
 have hbel:Below w.heap.size w ((w.alloc (.cells #[.slice none 0 0] 22)).alloc (.cells #[.int .u64 (nv:Nat)] 41)):=((Below.refl _ _).alloc (Nat.le_refl _) _).alloc (by simp) _
 have hsz:((w.alloc (.cells #[.slice none 0 0] 22)).alloc (.cells #[.int .u64 (nv:Nat)] 41)).heap.size=w.heap.size+2:=by simp
 generalize(w.alloc (.cells #[.slice none 0 0] 22)).alloc (.cells #[.int .u64 (nv:Nat)] 41)=W0 at*
 have hcn:W0.cell? ⟨w.heap.size+1,0,none⟩=some (.int .u64 (nv:Nat)):=by rw[cell_of_row _ _ _ _ _ _ Q8];rfl
 have hfn:=frozen_of_row W0 (w.heap.size+1) 0 _ _ Q8
 have am6:nv<128^10:=by
  have:(128:Nat)^10=1180591620717411303424:=by decide
  omega
 obtain⟨i0,hi,hz0,hz1,hz2⟩:=info_parts wW
 refine Ej hro h1 (gf:=126) (lb:= #[.pointer (some ⟨w.heap.size+1,0,none⟩)]) rfl h11 (enters_of Tryz.func126 (by kernel_rfl) rfl)
  (acG F (n-1) h11 hro (by omega) (w.heap.size+1) nv W0 (by omega) hcn hfn am6 hv64) (by omega) (fun _=>rfl)
  (G6 w w.heap.size (w.heap.size+1)) LV (Us (w0:=W0) (by omega)) (Ph (by omega) (by omega)) ⟨_,_,adS,Q8,Own.nil _ _,hbel⟩
  (fun x=>{tmps:= #[.int .u64 (nv:Nat),undef,.slice none 0 0,.int .i64 0,.pointer (some ⟨w.heap.size,0,none⟩),B8 x,.int .u64 (nv:Nat),.bool false,.int .u64 (nv:Nat),.func (.func 126) #[] #[.pointer (some ⟨w.heap.size+1,0,none⟩)],B8 x,undef,undef,undef,undef,undef],defers:=[]}) ?assign ?body ?done
 case assign=>
  intro l x W K hK
  gi_wp2
  exact hK
 case body=>
  rintro l pre x W ⟨v,y,hB,hN,hO,hb⟩ hlen
  have cB:W.cell? ⟨w.heap.size,0,none⟩=some v:=by rw[cell_of_row _ _ _ _ _ _ hB];rfl
  have hbs:=hb.size
  have hlB:w.heap.size<W.heap.size:=(Array.getElem?_eq_some_iff.1 hB).1
  have hlN:w.heap.size+1<W.heap.size:=(Array.getElem?_eq_some_iff.1 hN).1
  have aB:=hO.apart hB (by decide)
  have aN:=hO.apart hN (by decide)
  have hOa:=hO.alloc (.cells #[B8 x] 5)
  clear hcn hfn adS Q8 hbel
  gi_wp2_with (gi_at_builtin;refine wpListIn_append_own _ rfl _ _ 22 rfl w.heap.size 5 i0 (.int .u8 0) 1 1 Tryz.underlying22 hi hz0 hz1 hz2 rfl (by decide) _ _ _ rfl hOa ⟨W.heap.size,0,none⟩ 1 1 [B8 x] rfl rfl (cell_one_new _ _ _) (by intro u hu;simp at hu;subst hu;rfl) (by unfold maxLen;omega) (by omega) (by simp;omega) ?_;intro v' w1 hown' hgrow _;obtain⟨g',cap',rfl,hg1,hg2⟩:=World.ownsRow.form hown' (by omega);have hB1:w1.heap[w.heap.size]? =some (.cells #[v] 22 (0,0)):=(hgrow.block _ (by simp;omega) (fun e=>aB e.symm)).trans ((Below.heap_alloc _ _ _ hlB).trans hB);have hN1:w1.heap[w.heap.size+1]? =W.heap[w.heap.size+1]? :=(hgrow.block _ (by simp;omega) (fun e=>aN e.symm)).trans (Below.heap_alloc _ _ _ hlN);have cB1:w1.cell? ⟨w.heap.size,0,none⟩=some v:=(by rw[cell_of_row _ _ _ _ _ _ hB1];rfl);have fB1:=frozen_of_row w1 w.heap.size 0 _ _ hB1)
  have hgr:(W.alloc (.cells #[B8 x] 5)).grownBy w1 v.ownBlock:=hgrow
  have hown2:Own w.heap.size w1 (.slice (some ⟨g',0,none⟩) (pre.length+1) cap') (pre++[x]):=by
   unfold Own;simpa using hown'
  have aB1:=hown2.apart hB1 (by decide)
  refine⟨((KeepsOthers.alloc W _).trans (KeepsOthers.of_grownBy hgr (fun j o hj ho=>hOa.cells hj ho))).trans (KeepsOthers.setCell _ _ _),FV ((heap_setCell_other _ _ _ _ (by show w.heap.size+1≠w.heap.size;omega)).trans hN1),_,y,?_,?_,hown2.set aB1 _,?_⟩
  ·rw[heap_setCell_same w1 w.heap.size 0 _ _ _ hB1];rfl
  ·exact(heap_setCell_other _ _ _ _ (by show w.heap.size+1≠w.heap.size;omega)).trans (hN1.trans hN)
  ·exact(below_grown (hb.alloc hb.size _) hgr (by simp;omega) (fun k hk=>(hO.aF k hk).1)).setCell (Nat.le_refl _) _
 case done=>
  rintro D xs W hD rfl ⟨v,y,hB,hN,hO,hb⟩ hK
  have cB:W.cell? ⟨w.heap.size,0,none⟩=some v:=by rw[cell_of_row _ _ _ _ _ _ hB];rfl
  gi_wp2
  refine⟨by simp,.inl ⟨_,_,rfl,run_takeDeferred hK,?_⟩⟩
  exact⟨_,results_tmp2 rfl _ _ _,v,rfl,hO.put _ hK rfl,hb.grown (grownBy_putObj' W D (.deferred none)) hb.size (fun k e=>by cases e;omega)⟩
theorem put_any(nv:Nat)(w:World)(hv:nv≤9223372036854775807):Calls Tryz.prog 45 #[.int .u64 (nv:Nat)] w (Q7 w (Vl.put 9 nv)):=
 callsIn_wide.1 (afM Fence.wide 3 trivial trivial trivial rfl (by omega) nv w hv)
end
end Go.Proofs.YtgfpocdiojifoaaGreatDoor
