import Derived.Test.YtgfpocdiojifoaaGreatDoorRows
import Derived.WalkKit
import Derived.WalkSpells
import Derived.WalkLawsBesides
import Derived.Lib.Hide
import Derived.Deep.QuietTactic
import Derived.BigQuiet
import Derived.Deep.OwnRows
import Derived.Deep.WholeRow
import Derived.Deep.MidRow
import Derived.Deep.AppendLies
import Derived.Maps.AppendAt
import Derived.Laws.CopyOwn
import Derived.Lib.SlBytesConst
import Derived.Laws.BytesArg
import Derived.Deep.RegionHeld
import Derived.KernelRfl
import Derived.Walk
import Derived.ProofKit
import Derived.Deep.RegionLaw
import Derived.Deep.RegionHeld3
namespace Go.Proofs.YtgfpocdiojifoaaGreatDoor
set_option maxRecDepth 100000
set_option maxHeartbeats 8000000
open Go.RowKit
abbrev B8(b:UInt8):Value:= .int .u8 (b.toNat:Nat)
def Bytes(w:World)(A:Option Addr)(l:List UInt8):Prop:=
 l=[]∨ ∃b off,A=some ⟨b,off,none⟩∧b<w.heap.size∧ ∀k (h:k<l.length),w.cell? ⟨b,off+k,none⟩=some (.int .u8 (l[k].toNat:Nat))
theorem Bytes.keep{w w':World}{A:Option Addr}{l:List UInt8}(h:Bytes w A l)(hs:w.heap.size≤w'.heap.size)(hc: ∀p:Addr,A.map (·.block)=some p.block→p.block<w.heap.size→w'.cell? p=w.cell? p):Bytes w' A l:=by
 rcases h with h | ⟨b,off,rfl,hlt,hcell⟩
 ·exact .inl h
 ·exact .inr ⟨b,off,rfl,Nat.lt_of_lt_of_le hlt hs,fun k hk=>(hc ⟨b,off+k,none⟩ rfl hlt).trans (hcell k hk)⟩
theorem Bytes.below{w w':World}{A:Option Addr}{l:List UInt8}(h:Bytes w A l)(hb:Below w.heap.size w w'):Bytes w' A l:=
 h.keep hb.size fun _ _ hp=>hb.cell hp
theorem Bytes.drewN{w:World}{A:Option Addr}{l:List UInt8}(h:Bytes w A l)(n:Nat):Bytes (w.drewN n) A l:=h
theorem Bytes.drew{w:World}{A:Option Addr}{l:List UInt8}(h:Bytes w A l):Bytes w.drew A l:=h
theorem Bytes.alloc{w:World}{A:Option Addr}{l:List UInt8}(h:Bytes w A l)(o:Obj):Bytes (w.alloc o) A l:=h.below ((Below.refl _ _).alloc (Nat.le_refl _) _)
theorem Bytes.nil{w:World}{A:Option Addr}:Bytes w A []:= .inl rfl
theorem Bytes.addr{w:World}{A:Option Addr}{l:List UInt8}(h:Bytes w A l)(hl:0<l.length): ∃b off,A=some ⟨b,off,none⟩∧b<w.heap.size∧ ∀k (h:k<l.length),w.cell? ⟨b,off+k,none⟩=some (.int .u8 (l[k].toNat:Nat)):=by
 rcases h with rfl | h
 ·simp at hl
 ·exact h
theorem Bytes.drop{w:World}{b off:Nat}{l:List UInt8}(j:Nat)(h:Bytes w (some ⟨b,off,none⟩) l):Bytes w (some ⟨b,off+j,none⟩) (l.drop j):=by
 rcases h with rfl | ⟨b',off',e,hlt,hc⟩
 ·exact .inl (by simp)
 ·injection e with e;injection e with e1 e2;subst e1;subst e2
  refine .inr ⟨_,_,rfl,hlt,fun k hk=> ?_⟩
  have hk':j+k<l.length:=by simp at hk;omega
  have:=hc (j+k) hk'
  rw[List.getElem_drop,Nat.add_assoc];exact this
theorem Bytes.take{w:World}{A:Option Addr}{l:List UInt8}(j:Nat)(h:Bytes w A l):Bytes w A (l.take j):=by
 rcases h with rfl | ⟨b,off,rfl,hlt,hc⟩
 ·exact .inl (by simp)
 ·refine .inr ⟨_,_,rfl,hlt,fun k hk=> ?_⟩
  have hk':k<l.length:=by simp at hk;omega
  rw[List.getElem_take];exact hc k hk'
theorem Bytes.cutFrom{w:World}{A:Option Addr}{l:List UInt8}(h:Bytes w A l){k c:Nat}(hk:k≤l.length)(hc:l.length≤c):Bytes w (if c=k then A else A.map (·.add k)) (l.drop k):=by
 by_cases hck:c=k
 ·exact .inl (List.drop_eq_nil_of_le (by omega))
 ·rw[if_neg hck]
  rcases h with rfl | ⟨b,off,rfl,hlt,hcell⟩
  ·exact .inl (by simp)
  ·have e:(Option.some (⟨b,off,none⟩:Addr)).map (·.add k)=Option.some ⟨b,off+k,none⟩:=by
    simp only[Option.map];unfold Addr.add;split<;>simp_all
   rw[e]
   exact Bytes.drop k (.inr ⟨b,off,rfl,hlt,hcell⟩)
theorem below_drewN{B:Nat}{a w:World}(h:Below B a w)(n:Nat):Below B a (w.drewN n):=⟨h.os,h.tape,h.output,h.size,h.block⟩
theorem below_grown{B:Nat}{a w w':World}(h:Below B a w){row:Option Nat}(hg:w.grownBy w' row)(hB:B≤w.heap.size)(hr: ∀g,row=some g→B≤g):Below B a w':=
 ⟨hg.os.trans h.os,hg.tape.trans h.tape,hg.output.trans h.output,Nat.le_trans h.size hg.size,fun i hi=>(hg.block i (by omega) (fun e=>by have:=hr i e.symm;omega)).trans (h.block i hi)⟩
def Own(base:Nat)(w:World)(v:Value)(l:List UInt8):Prop:=w.ownsRow base 5 1 v l.length (l.map B8)
theorem Own.nil(base:Nat)(w:World):Own base w (.slice none 0 0) []:=World.ownsRow_nil w base _ 1
theorem Own.alloc{base:Nat}{w:World}{v:Value}{l:List UInt8}(h:Own base w v l)(o:Obj):Own base (w.alloc o) v l:=World.ownsRow.alloc h o
theorem Own.drew{base:Nat}{w:World}{v:Value}{l:List UInt8}(h:Own base w v l):Own base w.drew v l:=h
theorem Own.drewN{base:Nat}{w:World}{v:Value}{l:List UInt8}(h:Own base w v l)(n:Nat):Own base (w.drewN n) v l:=h
theorem Own.below{base:Nat}{w w':World}{v:Value}{l:List UInt8}(h:Own base w v l)(hb:Below w.heap.size w w'):Own base w' v l:=by
 rcases h with⟨h1,h2 | ⟨g,cap,cur,h2,h3,h4,h5⟩⟩
 ·exact⟨h1,.inl h2⟩
 ·refine⟨h1,.inr ⟨g,cap,cur,h2,h3,(hb.block g ?_).trans h4,h5⟩⟩
  rcases Nat.lt_or_ge g w.heap.size with h | h
  ·exact h
  ·rw[Array.getElem?_eq_none h]at h4;cases h4
theorem Own.read{base:Nat}{w:World}{v:Value}{l:List UInt8}(h:Own base w v l): ∃A c,v= .slice A l.length c∧l.length≤c∧c≤9223372036854775807∧Bytes w A l:=by
 rcases h with⟨h1,⟨rfl,h0⟩ | ⟨g,cap,cur,rfl,hb,hg,hnc,hcm,hsz,htake⟩⟩
 ·have:l=[]:=List.eq_nil_of_length_eq_zero h0
  subst this
  exact⟨none,0,rfl,by simp,by omega,.nil⟩
 ·refine⟨_,cap,rfl,hnc,by unfold maxLen at hcm;exact hcm,?_⟩
  refine .inr ⟨g,0,rfl,?_,fun k hk=> ?_⟩
  ·rcases Nat.lt_or_ge g w.heap.size with h | h
   ·exact h
   ·rw[Array.getElem?_eq_none h]at hg;cases hg
  ·rw[cell_of_row w g _ cur _ _ hg,Nat.zero_add]
   have h2:=congrArg (fun x:List Value=>x[k]?) htake
   simp only[List.getElem?_take,Nat.mul_one,hk,if_true,List.getElem?_map]at h2
   rw[List.getElem?_eq_getElem hk]at h2
   simpa using h2
theorem Own.aF{base:Nat}{w:World}{v:Value}{l:List UInt8}(h:Own base w v l): ∀g,v.ownBlock=Option.some g→base≤g∧g<w.heap.size:=World.ownsRow.lt h
theorem Own.lit{base:Nat}(w:World)(l:List UInt8)(hb:base≤w.heap.size)(hm:l.length≤9223372036854775807):Own base (w.alloc (.cells (l.map B8).toArray 5)) (.slice (Option.some ⟨w.heap.size,0,none⟩) l.length l.length) l:=by
 have:=World.ownsRow_lit (base:=base) (e:=5) (size:=1) w (l.map B8).toArray l.length hb (by unfold maxLen;exact hm) (by simp)
 simpa [Own]using this
theorem wW:(Tryz.prog.info? 5).map (fun i=>(i.zero,i.size,i.bytes))=some (some (.int .u8 0),1,1):=by kernel_rfl
theorem oJ(l:List UInt8): ∀u∈l.map B8,u.oneCell'=true:=by
 intro u hu
 rw[List.mem_map]at hu
 obtain⟨b,_,rfl⟩:=hu
 rfl
theorem kE(base:Nat)(ty:TypeId)(w:World)(v:Value)(xs:List UInt8)(hown:Own base w v xs)(A:Option Addr)(l:List UInt8)(c:Nat)(hB:Bytes w A l)
  (hsz:xs.length+l.length≤140737488355328) (hbase:base≤w.heap.size):
  ∃v' w',(Builtin.append_ #[22,22] ty #[v,.slice A l.length c]).run Tryz.prog w= .ok v' w'∧Own base w' v' (xs++l)∧w.grownBy w' v.ownBlock:=by
 obtain⟨i,hi,hz0,hz1,hz2⟩:=info_parts wW
 cases A with
 | none=>
  have hl:l=[]:=by
   rcases hB with h | ⟨_,_,h,_⟩
   ·exact h
   ·cases h
  subst hl
  refine⟨v,w,?_,by simpa using hown,World.grownBy.refl w _⟩
  rcases hown.2 with⟨rfl,h0⟩ | ⟨g,cap,cur,rfl,_,_,hnc,_⟩
  ·simp[Builtin.append_,run_underlying Tryz.underlying22,sizeOf,typeInfo,hi,Builtin.lenOf,Builtin.firstCells]
  ·simp[Builtin.append_,run_underlying Tryz.underlying22,sizeOf,typeInfo,hi,Builtin.lenOf,Builtin.firstCells,hnc,storeCells]
 | some ad=>
  have hnews: ∀j u,(l.map B8)[j]? =some u→w.cell? (ad.add j)=some u:=by
   intro j u hu
   rw[List.getElem?_map]at hu
   by_cases hj:j<l.length
   ·obtain⟨b,off,e,_,hcell⟩:=hB.addr (by omega)
    injection e with e;subst e
    rw[List.getElem?_eq_getElem hj]at hu
    rw[show(⟨b,off,none⟩:Addr).add j=⟨b,off+j,none⟩from by unfold Addr.add;split<;>simp_all,hcell j hj]
    simpa using hu
   ·rw[List.getElem?_eq_none (by omega)]at hu;simp at hu
  obtain⟨v',w',hr,h2,h3,_⟩:=run_append_own (P:=Tryz.prog) w base 22 ty 5 i (.int .u8 0) 1 1 Tryz.underlying22 hi hz0 hz1 hz2 rfl (by decide)
   v xs.length (xs.map B8) hown ad l.length c (l.map B8) (by simp) hnews (oJ l) (by unfold maxLen;omega) (by omega) hbase
  exact⟨v',w',hr,by simpa [Own]using h2,h3⟩
theorem ay{ops:Array Oper}{rest:List Oper}{o:Oper}{a:Act}{Q:Exit→Act→World→Prop}(hgd:o.guard=none)(s x:Operand)
  (ho:o.op= .call {callee:= .builtin .append,args:= #[s,x],argTypes:= #[22,22]})
  (base:Nat) (w:World) (v:Value) (xs:List UInt8) (hs:a.eval s=v) (hown:Own base w v xs) (A:Option Addr) (l:List UInt8) (c:Nat) (hx:a.eval x= .slice A l.length c) (hB:Bytes w A l)
  (hsz:xs.length+l.length≤140737488355328) (hbase:base≤w.heap.size)
  (h: ∀v' w',Own base w' v' (xs++l)→w.grownBy w' v.ownBlock→wpList Tryz.prog ops Q rest (a.put o.dst v') w'):wpList Tryz.prog ops Q (o::rest) a w:=by
 refine wpList_plain hgd fun K hK=> ?_
 obtain⟨v',w',hr,h2,h3⟩:=kE base o.type w v xs hown A l c hB hsz hbase
 unfold Oper.wp execOp
 simp only[ho,resolve,invoke,builtin,Sem.run_bind,Sem.run_pure,Result.andThen_ok,List.map_toArray,List.map_cons,List.map_nil,hs,hx,hr]
 exact hK _ _ (h v' w' h2 h3)
theorem AX{w:World}{A:Option Addr}{l:List UInt8}(hB:Bytes w A l)(c:Nat):(convert 22 9 (.slice A l.length c)).run Tryz.prog w= .ok (.string ⟨l.toArray⟩) w:=by
 cases A with
 | none=>
  have hl:l=[]:=by
   rcases hB with h | ⟨_,_,h,_⟩
   ·exact h
   ·cases h
  subst hl
  exact run_convert_bytes_nil w 22 5 Tryz.underlying22 Tryz.underlying5 0 c 9 Tryz.underlying9
 | some ad=>
  have key: ∀b off,(∀k (h:k<l.length),w.cell? ⟨b,off+k,none⟩=some (.int .u8 (l[k].toNat:Nat)))→(convert 22 9 (.slice (some ⟨b,off,none⟩) l.length c)).run Tryz.prog w= .ok (.string ⟨l.toArray⟩) w:=by
   intro b off hc
   have h:=run_convert_bytes_arg (P:=Tryz.prog) w 22 5 Tryz.underlying22 Tryz.underlying5 b off l.length c (l.map fun x=>(x.toNat:Int)) (by simp) (fun i hi=>by
    rw[hc i hi];simp[List.getD,hi]) 9 Tryz.underlying9
   rw[h]
   have e:strOfNums (l.map fun x=>(x.toNat:Int))=⟨l.toArray⟩:=by
    unfold strOfNums
    congr 1
    congr 1
    rw[List.map_map]
    conv=>rhs;rw[←List.map_id l]
    apply List.map_congr_left
    intro x _
    simp
   rw[e]
  rcases hB with rfl | ⟨b,off,e,_,hc⟩
  ·have h:=run_convert_bytes_string (P:=Tryz.prog) w 22 9 5 (some ad) 0 c Tryz.underlying22 Tryz.underlying5 Tryz.underlying9
   rw[List.length_nil,h]
   simp[Conv.bytesToString]
   rfl
  ·injection e with e;subst e
   exact key b off hc
theorem Bytes.one(w:World)(x:UInt8):Bytes (w.alloc (.cells #[.int .u8 (x.toNat:Nat)] 5)) (some ⟨w.heap.size,0,none⟩) [x]:=by
 refine .inr ⟨_,_,rfl,by simp,fun k hk=> ?_⟩
 obtain rfl:k=0:=by simpa using hk
 rw[cell_of_row _ _ _ _ _ _ (heap_alloc_last _ _)];rfl
def Holds(w:World)(e:Ending)(w':World):Prop:=e= .returned (.bool true)∧Below w.heap.size w w'
theorem tk{P:Program}{md:Region.Mode}{ops:Array Oper}{Q:Exit→Act→World→Prop}{S:World→Prop}(i:Nat){oi:Oper}{rest:List Oper}{v:Value}{fuel:Nat}{listed:Array Bool}{a:Act}{w:World}
  (hy: ∀w,S w→(execOp a.eval oi).run P w= .ok (.value v) w) (hS:S w) (h:wpAnyH P md ops Q S fuel (listed.setIfInBounds i true) (a.put oi.dst v) w)
  (hi:ops.toList.drop i=oi::rest:=by rfl) (hs:Region.noSelect ops=true:=by kernel_rfl) (hf:Region.free md ops listed i=true:=by kernel_rfl) (hr:(Region.ready md ops listed).contains i=true:=by kernel_rfl)
  (hq: ∀c a w,Q (.panic c) (a.put oi.dst v) w→Q (.panic c) a w:=by exact fun _ _ _ h=>h) (hw:Region.wanted oi (yielded ops a.tmps)=true:=by rfl):wpAnyH P md ops Q S (fuel+1) listed a w:=
 wpAnyH_take (by have e:=congrArg (fun l:List Oper=>l[0]?) hi;simpa using e) hs hf hr hq (.inl ⟨hw,hy⟩) hS h
theorem tp{P:Program}{md:Region.Mode}{ops:Array Oper}{Q:Exit→Act→World→Prop}{S:World→Prop}(i:Nat){oi:Oper}{rest:List Oper}{v:Value}{fuel:Nat}{listed l':Array Bool}{a a':Act}{w:World}
  (hi:ops.toList.drop i=oi::rest) (hy: ∀w,S w→(execOp a.eval oi).run P w= .ok (.value v) w) (hS:S w) (h:wpAnyH P md ops Q S fuel l' a' w)
  (hs:Region.noSelect ops=true:=by kernel_rfl) (hf:Region.free md ops listed i=true:=by kernel_rfl) (hr:(Region.ready md ops listed).contains i=true:=by kernel_rfl)
  (hq: ∀c a w,Q (.panic c) (a.put oi.dst v) w→Q (.panic c) a w:=by exact fun _ _ _ h=>h) (hw:Region.wanted oi (yielded ops a.tmps)=true:=by rfl)
  (hp:a.put oi.dst v=a':=by(try simp only[Act.put,List.setIfInBounds_toArray,List.set_cons_zero,List.set_cons_succ]);rfl)
  (hl:listed.setIfInBounds i true=l':=by(try simp only[List.setIfInBounds_toArray,List.set_cons_zero,List.set_cons_succ]);rfl):wpAnyH P md ops Q S (fuel+1) listed a w:=
 tk i hy hS (hl▸hp▸h) hi hs hf hr hq hw
theorem tq{P:Program}{md:Region.Mode}{ops:Array Oper}{Q:Exit→Act→World→Prop}{S:World→Prop}(i:Nat){oi:Oper}{rest:List Oper}{v:Value}{fuel:Nat}{listed l':Array Bool}{a a':Act}{w:World}
  (hS:S w) (h:wpAnyH P md ops Q S fuel l' a' w)
  (hi:ops.toList.drop i=oi::rest:=by rfl) (hs:Region.noSelect ops=true:=by kernel_rfl) (hf:Region.free md ops listed i=true:=by kernel_rfl) (hr:(Region.ready md ops listed).contains i=true:=by kernel_rfl)
  (hy: ∀w,S w→(execOp a.eval oi).run P w= .ok (.value v) w:=by intro w hSw;go_simp;all_goals(with_reducible rfl))
  (hq: ∀c a w,Q (.panic c) (a.put oi.dst v) w→Q (.panic c) a w:=by exact fun _ _ _ h=>h) (hw:Region.wanted oi (yielded ops a.tmps)=true:=by rfl)
  (hp:a.put oi.dst v=a':=by(try simp only[Act.put,List.setIfInBounds_toArray,List.set_cons_zero,List.set_cons_succ]);rfl)
  (hl:listed.setIfInBounds i true=l':=by(try simp only[List.setIfInBounds_toArray,List.set_cons_zero,List.set_cons_succ]);rfl):wpAnyH P md ops Q S (fuel+1) listed a w:=
 tk i hy hS (hl▸hp▸h) hi hs hf hr hq hw
theorem tr{P:Program}{md:Region.Mode}{ops:Array Oper}{Q:Exit→Act→World→Prop}{S:World→Prop}(i:Nat){oi:Oper}{rest:List Oper}{fuel:Nat}{listed:Array Bool}{a:Act}{w:World}
  (h: ∀K':Act→World→Prop,Shut (∀a w,S w→(S w→wpAnyH P md ops Q S fuel (listed.setIfInBounds i true) a w)→K' a w)→if Region.wanted oi (yielded ops a.tmps)=true then Oper.wp P oi a w K' Q else K' (a.put oi.dst undef) w)
  (hi:ops.toList.drop i=oi::rest:=by rfl) (hr:Region.ready md ops listed=[i]:=by kernel_rfl):wpAnyH P md ops Q S (fuel+1) listed a w:=
 wpAnyH_ready hr (by simp) (AllReadyH.cons (by have e:=congrArg (fun l:List Oper=>l[0]?) hi;simpa using e) h AllReadyH.nil)
section
open Go.ChangeShapes Go.WideShapes Go.ChangeAt Go.RowKit
theorem Tryz.own:ownKnob Tryz.prog.godebug=none:=by kernel_rfl
theorem laidOut:laidOutB Tryz.prog=true:=by kernel_rfl
theorem Bz:Tryz.prog.cellsOf 5=1:=by kernel_rfl
theorem open_bytes{H:Type}{enc:TypeId×Value→H}{W:World}{b0:Nat}{v:Value}{d:DataW H}{p:List MemPlace}
  (hval:Value.okWide Tryz.prog W .any b0 22 v) (h:DataW.Trod enc Tryz.prog W 0 (fun _=>true) true 22 v d p):
  ∃(A:Option Addr) (l:List UInt8) (c:Nat),v= .slice A l.length c∧l.length≤c∧c≤9223372036854775807∧Bytes W A l:=by
 obtain⟨fuel,hf⟩:=h
 obtain⟨a0,len,cap,rfl⟩:=okWide_slice Tryz.underlying22 hval
 rcases open_ints Tryz.underlying22 Tryz.underlying5 Bz hf with⟨hcs,_⟩ | ⟨a,len',cap',zs,hcs,_,hl,hm,hz,_,hcell,hwz⟩
 ·simp[Value.cells]at hcs
  obtain⟨rfl,rfl,rfl⟩:=hcs
  exact⟨none,[],0,rfl,by simp,by omega,.nil⟩
 ·simp[Value.cells]at hcs
  obtain⟨rfl,rfl,rfl⟩:=hcs
  simp only[if_true]at hz
  unfold maxLen at hm
  refine⟨some a,(zs.take len).map (fun n=>UInt8.ofNat n.toNat),cap,by rw[List.length_map,List.length_take,Nat.min_eq_left (by omega)],by simp;omega,hm,?_⟩
  rcases Nat.eq_zero_or_pos len with h0 | hpos
  ·subst h0;exact .inl (by simp)
  ·obtain⟨b,off,spot⟩:=a
   have hspot:spot=none:=by simpa [Addr.add]using World.cell?_spot (hcell 0 (by omega))
   subst hspot
   refine .inr ⟨b,off,rfl,?_,fun k hk=> ?_⟩
   ·have:=block_lt_of_cell (hcell 0 (by omega));simpa [Addr.add]using this
   ·have hk':k<len:=by simp at hk;omega
    have hc:=hcell k (by omega)
    have hw:=hwz (zs[k]'(by omega)) (List.getElem_mem _)
    have hb:0≤zs[k]'(by omega)∧zs[k]'(by omega)<256:=by
     have h1:IntKind.u8.min=0:=rfl
     have h2:IntKind.u8.max=255:=rfl
     simp[Lit.wf]at hw;omega
    rw[show(⟨b,off,none⟩:Addr).add k=⟨b,off+k,none⟩from by unfold Addr.add;split<;>simp_all]at hc
    rw[hc]
    have e:zs.getD k 0=zs[k]'(by omega):=by simp[List.getD,show k<zs.length by omega]
    rw[e,List.getElem_map,List.getElem_take]
    congr 2
    rw[UInt8.toNat_ofNat']
    omega
theorem JA{a:Int}(h:(Lit.int .i64 a).wf=true): -9223372036854775808≤a∧a≤9223372036854775807:=by
 have e1:IntKind.i64.min= -9223372036854775808:=rfl
 have e2:IntKind.i64.max=9223372036854775807:=rfl
 simp[Lit.wf]at h;omega
theorem Qw{a:Int}(h:(Lit.int .u32 a).wf=true):a=((BitVec.ofNat 32 a.toNat).toNat:Int):=by
 have e1:IntKind.u32.min=0:=rfl
 have e2:IntKind.u32.max=4294967295:=rfl
 simp[Lit.wf]at h
 rw[BitVec.toNat_ofNat];omega
theorem uZ{H:Type}{enc:TypeId×Value→H}{W W':World}(hb:Below W.heap.size W W'): ∀{ts:List TypeId} {vs:List Value} {ds:List (DataW H)} {ps:List MemPlace},
  DataW.TrodAll enc Tryz.prog W 0 (fun _=>true) true ts vs ds ps→(∀t∈ts,Tryz.prog.readableRec t=true∧t<Tryz.prog.types.size)→(∀x∈ps,x.block<W.heap.size)→
  DataW.TrodAll enc Tryz.prog W' 0 (fun b=>decide (b<W.heap.size)) true ts vs ds ps
 | [],vs,ds,ps,h,_,_=>by
  obtain⟨rfl,rfl,rfl⟩:=trodAll_nil h
  exact rfl
 | t::ts,vs,ds,ps,h,hr,hlt=>by
  obtain⟨v,vs',d,ds',p,q,rfl,rfl,rfl,h1,h2⟩:=trodAll_cons h
  have hr1:=hr t (by simp)
  exact⟨p,q,Below.trod laidOut hr1.1 hr1.2 h1 hb (fun x hx=>hlt x (by simp[hx])),
   uZ hb h2 (fun t ht=>hr t (by simp[ht])) (fun x hx=>hlt x (by simp[hx])),rfl⟩
theorem VG{H:Type}{enc:TypeId×Value→H}{f:Func}{s:ChangeSpec}{W W':World}{args:Array Value}{ds:List (DataW H)}{before:List MemPlace}
  (hr:f.resultTypes= #[4]) (hvs:s.vars=[])
  (hW:DataW.Whole enc Tryz.prog f.params.toList s.vars false W args.toList ds [] before)
  (hres:(s.fn H (ds++[])).results=[.lit (.bool true)]) (hargs:(s.fn H (ds++[])).args=ds) (hvars:(s.fn H (ds++[])).vars=[])
  (hread: ∀t∈f.params.toList,Tryz.prog.readableRec t=true∧t<Tryz.prog.types.size)
  (hb:Below W.heap.size W W'):s.post enc Tryz.prog f false true false false W args (.bool true) W':=by
 have hlt:=hW.lt
 have hW0:=hW
 obtain⟨p,q,hA,hV,rfl,_,_⟩:=hW
 rw[hvs]at hV
 obtain⟨_,rfl⟩:=trodVars_none hV
 refine⟨ds,[],_,[],p,[],hW0,?_,?_,?_,hb.frame _,fun h=>by cases h⟩
 ·rw[hres,hr];exact trodAll_mk1 (shut_bool Tryz.underlying4 true)
 ·rw[hargs];exact uZ hb hA hread (fun x hx=>hlt x (by simp[hx]))
 ·rw[hvs,hvars];rfl
end
def dB(t:TypeId)(base:Nat)(w:World)(v:Value)(l:List Value):Prop:=w.ownsRow base t 1 v l.length l
structure Elem(ts t:TypeId)(z:Value)(bytes:Nat):Prop where
 und:Tryz.prog.underlying ts=some (.slice t)
 info:(Tryz.prog.info? t).map (fun i=>(i.zero,i.size,i.bytes))=some (some z,1,bytes)
 one:z.cells.size=1
theorem dB.nil(t:TypeId)(base:Nat)(w:World):dB t base w (.slice none 0 0) []:=World.ownsRow_nil w base _ 1
theorem dB.keep{t:TypeId}{base:Nat}{w w':World}{v:Value}{l:List Value}(h:dB t base w v l)(hb: ∀g,v.ownBlock=some g→w'.heap[g]? =w.heap[g]?):dB t base w' v l:=by
 rcases h with⟨h1,h2 | ⟨g,cap,cur,h2,h3,h4,h5⟩⟩
 ·exact⟨h1,.inl h2⟩
 ·exact⟨h1,.inr ⟨g,cap,cur,h2,h3,(hb g (by rw[h2];rfl)).trans h4,h5⟩⟩
theorem dB.lt{t:TypeId}{base:Nat}{w:World}{v:Value}{l:List Value}(h:dB t base w v l)(g:Nat)(hg:v.ownBlock=some g):base≤g∧g<w.heap.size:=World.ownsRow.lt h g hg
theorem dB.below{t:TypeId}{base:Nat}{w w':World}{v:Value}{l:List Value}(h:dB t base w v l)(hb:Below w.heap.size w w'):dB t base w' v l:=h.keep fun g hg=>hb.block g (h.lt g hg).2
theorem dB.alloc{t:TypeId}{base:Nat}{w:World}{v:Value}{l:List Value}(h:dB t base w v l)(o:Obj):dB t base (w.alloc o) v l:=h.below ((Below.refl _ _).alloc (Nat.le_refl _) _)
theorem dB.drew{t:TypeId}{base:Nat}{w:World}{v:Value}{l:List Value}(h:dB t base w v l):dB t base w.drew v l:=h
theorem dB.drewN{t:TypeId}{base:Nat}{w:World}{v:Value}{l:List Value}(h:dB t base w v l)(n:Nat):dB t base (w.drewN n) v l:=h
theorem dB.grown{t:TypeId}{base:Nat}{w w':World}{v v2:Value}{l:List Value}(h:dB t base w v l)(hg:w.grownBy w' v2.ownBlock)(hne: ∀g,v.ownBlock=some g→v2.ownBlock≠some g):dB t base w' v l:=
 h.keep fun g e=>hg.block g (h.lt g e).2 (fun h2=>hne g e h2.symm)
theorem dB.form{t:TypeId}{base:Nat}{w:World}{v:Value}{l:List Value}(h:dB t base w v l):
  (v= .slice none 0 0∧l=[])∨ ∃g cap,v= .slice (some ⟨g,0,none⟩) l.length cap∧base≤g∧g<w.heap.size∧l.length≤cap∧cap≤9223372036854775807∧ ∀i (h:i<l.length),w.cell? ⟨g,i,none⟩=some l[i]:=by
 have hc:=fun(g cap:Nat) (e:v= .slice (some ⟨g,0,none⟩) l.length cap) (i:Nat) (hi:i<l.length)=>World.ownsRow.cellAt (e▸h) i (by omega)
 rcases h with⟨h1,⟨h2,h3⟩ | ⟨g,cap,cur,h2,h3,h4,h5,h6,h7,h8⟩⟩
 ·exact .inl ⟨h2,List.eq_nil_of_length_eq_zero h3⟩
 ·refine .inr ⟨g,cap,h2,h3,?_,h5,by unfold maxLen at h6;exact h6,fun i hi=> ?_⟩
  ·rcases Nat.lt_or_ge g w.heap.size with h | h
   ·exact h
   ·rw[Array.getElem?_eq_none h]at h4;cases h4
  ·rw[hc g cap h2 i hi,List.getElem?_eq_getElem hi]
theorem dB.read{t:TypeId}{base:Nat}{w:World}{v:Value}{l:List Value}(h:dB t base w v l):
  ∃A c,v= .slice A l.length c∧l.length≤c∧c≤9223372036854775807∧(∀i (h:i<l.length),∃g,A=some ⟨g,0,none⟩∧w.cell? ⟨g,i,none⟩=some l[i]):=by
 rcases h.form with⟨rfl,rfl⟩ | ⟨g,cap,rfl,_,_,hc,hm,hcell⟩
 ·exact⟨none,0,rfl,by simp,by omega,fun i hi=>by simp at hi⟩
 ·exact⟨_,cap,rfl,hc,hm,fun i hi=>⟨g,rfl,hcell i hi⟩⟩
theorem dB.JB{t:TypeId}{base:Nat}{w:World}{v:Value}{l:List Value}(h:dB t base w v l)(hl:0<l.length):
  ∃g cap,v= .slice (some ⟨g,0,none⟩) l.length cap∧base≤g∧g<w.heap.size∧l.length≤cap∧cap≤9223372036854775807∧ ∀i (h:i<l.length),w.cell? ⟨g,i,none⟩=some l[i]:=by
 rcases h.form with⟨_,rfl⟩ | h
 ·simp at hl
 ·exact h
theorem dB.lit{base:Nat}(t:TypeId)(w:World)(l:List Value)(hb:base≤w.heap.size)(hm:l.length≤9223372036854775807):dB t base (w.alloc (.cells l.toArray t)) (.slice (some ⟨w.heap.size,0,none⟩) l.length l.length) l:=by
 have:=World.ownsRow_lit (base:=base) (e:=t) (size:=1) w l.toArray l.length hb (by unfold maxLen;exact hm) (by simp)
 simpa [dB]using this
theorem Au{ts t:TypeId}{z:Value}{bytes:Nat}(hE:Elem ts t z bytes)(base:Nat)(ty:TypeId)(w:World)(v:Value)(l:List Value)(hown:dB t base w v l)(hh m c:Nat)(news:List Value)(hl:news.length=m)
  (hc: ∀i (h:i<news.length),w.cell? ⟨hh,i,none⟩=some news[i]) (h1: ∀u∈news,u.oneCell'=true) (hsz:(l.length+m)*bytes≤140737488355328) (h63:l.length+m≤140737488355328) (hbase:base≤w.heap.size):
  ∃v' w',(Builtin.append_ #[ts,ts] ty #[v,.slice (some ⟨hh,0,none⟩) m c]).run Tryz.prog w= .ok v' w'∧dB t base w' v' (l++news)∧w.grownBy w' v.ownBlock∧(v'.ownBlock=v.ownBlock∨v'.ownBlock=some w.heap.size):=by
 obtain⟨i,hi,hz0,hz1,hz2⟩:=info_parts hE.info
 obtain⟨v',w',hr,h2,h3,_,h5⟩:=run_append_own_at (P:=Tryz.prog) w base ts ty t i z 1 bytes hE.und hi hz0 hz1 hz2 hE.one (by decide)
  v l.length l hown ⟨hh,0,none⟩ m c news (by omega) (by
   intro j u hu
   have hj:j<news.length:=by
    rcases Nat.lt_or_ge j news.length with h | h
    ·exact h
    ·rw[List.getElem?_eq_none h]at hu;cases hu
   have:=hc j hj
   rw[List.getElem?_eq_getElem hj]at hu
   injection hu with hu
   rw[←hu,←this,show(⟨hh,0,none⟩:Addr).add j=⟨hh,j,none⟩from by unfold Addr.add;split<;>simp_all]) h1 (by unfold maxLen;omega) hsz hbase
 exact⟨v',w',hr,by simpa [dB,hl]using h2,h3,h5⟩
theorem mY{ts t:TypeId}{z:Value}{bytes:Nat}(hE:Elem ts t z bytes){ops:Array Oper}{rest:List Oper}{o:Oper}{a:Act}{Q:Exit→Act→World→Prop}(hgd:o.guard=none)(s x:Operand)
  (ho:o.op= .call {callee:= .builtin .append,args:= #[s,x],argTypes:= #[ts,ts]})
  (base:Nat) (w:World) (v:Value) (l:List Value) (hs:a.eval s=v) (hown:dB t base w v l) (hh m c:Nat) (news:List Value) (hx:a.eval x= .slice (some ⟨hh,0,none⟩) m c) (hl:news.length=m)
  (hc: ∀i (h:i<news.length),w.cell? ⟨hh,i,none⟩=some news[i]) (h1: ∀u∈news,u.oneCell'=true) (hsz:(l.length+m)*bytes≤140737488355328) (h63:l.length+m≤140737488355328) (hbase:base≤w.heap.size)
  (h: ∀v' w',dB t base w' v' (l++news)→w.grownBy w' v.ownBlock→(v'.ownBlock=v.ownBlock∨v'.ownBlock=some w.heap.size)→wpList Tryz.prog ops Q rest (a.put o.dst v') w'):wpList Tryz.prog ops Q (o::rest) a w:=by
 refine wpList_plain hgd fun K hK=> ?_
 obtain⟨v',w',hr,h2,h3,h4⟩:=Au hE base o.type w v l hown hh m c news hl hc h1 hsz h63 hbase
 unfold Oper.wp execOp
 simp only[ho,resolve,invoke,builtin,Sem.run_bind,Sem.run_pure,Result.andThen_ok,List.map_toArray,List.map_cons,List.map_nil,hs,hx,hr]
 exact hK _ _ (h v' w' h2 h3 h4)
abbrev PF(F:Nat):Value:= .pointer (some ⟨F,0,none⟩)
theorem dQ{d:List UInt8}{i:Nat}(h:i<d.length):d.getD i 0=d[i]:=by simp[List.getD,h]
theorem heap_set{w:World}{g:Nat}{L:List Value}{t:TypeId}(h:w.heap[g]? =some (.cells L.toArray t (0,0)))(i:Nat)(v:Value):(w.setCell ⟨g,i,none⟩ v).heap[g]? =some (.cells (L.set i v).toArray t (0,0)):=by
 unfold World.setCell
 simp[Array.getElem?_modify,h]
theorem ah(w:World)(a:Addr)(v:Value)(i:Nat)(h:i≠a.block):(w.setCell a v).heap[i]? =w.heap[i]? :=RowKit.Below.heap_setCell _ _ _ _ h
abbrev Np(a b c d:Int):Value:= .agg #[.int .i64 a,.int .i64 b,.int .i64 c,.int .i64 d]
abbrev yL(k:Int)(b:UInt8)(l d r:Int):Value:= .agg #[.int .i64 k,.int .u8 (b.toNat:Nat),.int .i64 l,.int .i64 d,.int .i64 r]
theorem oV{W:World}{b:Nat}{L cs:List Value}{t:TypeId}(h:W.heap[b]? =some (.cells L.toArray t (0,0)))(hcs: ∀j,j<cs.length→cs[j]? =L[j]?): ∀j v,cs[j]? =some v→W.drew.cell? ((⟨b,0,none⟩:Addr).add j)=some v:=by
 intro j v hj
 have hjl:j<cs.length:=(List.getElem?_eq_some_iff.1 hj).1
 have e:((⟨b,0,none⟩:Addr).add j)=⟨b,j,none⟩:=by unfold Addr.add;split<;>simp_all
 have h':W.drew.heap[b]? =some (.cells L.toArray t (0,0)):=h
 rw[e,cell_of_row W.drew b _ _ _ _ h',List.getElem?_toArray,←hcs j hjl,hj]
theorem JC:Tryz.prog.arrayLen 127=4:=by kernel_rfl
theorem aaM:Tryz.prog.underlying 127=some (.array (Tryz.prog.arrayLen 127) (Tryz.prog.elem 127)):=by kernel_rfl
theorem BA(g n:Nat)(h:n≤3)(w:World):(Instr.sliceAt 127 (.pointer (some ⟨g,0,none⟩)) (some (.int .i64 1)) (some (.int .i64 (n+1:Nat))) none).run Tryz.prog w= .ok (.slice (some ⟨g,1,none⟩) n 3) w:=by
 have hs:(sizeOf (Tryz.prog.elem 127)).run Tryz.prog w= .ok 1 w:=by kernel_rfl
 rw[run_sliceAt_array_lh w 127 ⟨g,0,none⟩ aaM .i64 .i64 1 (n+1:Nat) (by decide) (by omega) (by rw[JC];omega),hs,JC]
 simp only[Result.andThen,slicedAt,Int.toNat_natCast,Nat.mul_one]
 rw[if_neg (by decide),show(1:Int).toNat=1 from rfl,Addr.add_mid,Nat.zero_add,Nat.add_sub_cancel]
theorem JD(g n:Nat)(h:n≤4)(w:World):(Instr.sliceAt 127 (.pointer (some ⟨g,0,none⟩)) none (some (.int .i64 (n:Nat))) none).run Tryz.prog w= .ok (.slice (some ⟨g,0,none⟩) n 4) w:=by
 have hs:(sizeOf (Tryz.prog.elem 127)).run Tryz.prog w= .ok 1 w:=by kernel_rfl
 rw[run_sliceAt_array_h w 127 ⟨g,0,none⟩ aaM .i64 (n:Nat) (by omega) (by rw[JC];omega),hs,JC]
 simp only[Result.andThen,slicedAt,Int.toNat_natCast,Nat.mul_one,Nat.sub_zero]
 rw[if_neg (by decide)]
 simp[Addr.add]
def r4(a b c d:Int):Nat→Int
 | 0=>a
 | 1=>b
 | 2=>c
 | _=>d
theorem VH(a b c d:Int)(w:World):(Instr.index 127 (.agg #[.int .i64 a,.int .i64 b,.int .i64 c,.int .i64 d]) (.int .i64 0)).run Tryz.prog w= .ok (.int .i64 a) w:=by
 first | rfl | kernel_rfl | (simp[Instr.index,run_underlying Tryz.underlying127,asIntOf,go_sem])
theorem ag0(a b c d:Int)(w:World):(Instr.index 127 (.agg #[.int .i64 a,.int .i64 b,.int .i64 c,.int .i64 d]) (.int .i64 1)).run Tryz.prog w= .ok (.int .i64 b) w:=by
 first | rfl | kernel_rfl | (simp[Instr.index,run_underlying Tryz.underlying127,asIntOf,go_sem])
theorem ag1(a b c d:Int)(w:World):(Instr.index 127 (.agg #[.int .i64 a,.int .i64 b,.int .i64 c,.int .i64 d]) (.int .i64 2)).run Tryz.prog w= .ok (.int .i64 c) w:=by
 first | rfl | kernel_rfl | (simp[Instr.index,run_underlying Tryz.underlying127,asIntOf,go_sem])
theorem ag2(a b c d:Int)(w:World):(Instr.index 127 (.agg #[.int .i64 a,.int .i64 b,.int .i64 c,.int .i64 d]) (.int .i64 3)).run Tryz.prog w= .ok (.int .i64 d) w:=by
 first | rfl | kernel_rfl | (simp[Instr.index,run_underlying Tryz.underlying127,asIntOf,go_sem])
structure Sy where
 k:Nat
 b:UInt8
 l:Nat
 d:Nat
 r:Nat
deriving DecidableEq
abbrev Sy.val(s:Sy):Value:=yL (s.k:Nat) s.b (s.l:Nat) (s.d:Nat) (s.r:Nat)
abbrev R4:=Int×Int×Int×Int
abbrev R4.val(r:R4):Value:=Np r.1 r.2.1 r.2.2.1 r.2.2.2
def fP(s:Sy)(r:R4):R4:=
 if s.k=0 then r
 else if s.k=1 then((s.d:Int),r.1,r.2.1,r.2.2.1)
 else match s.r with
  | 0=>r
  | 1=>(r.2.1,r.1,r.2.2.1,r.2.2.2)
  | 2=>(r.2.2.1,r.1,r.2.1,r.2.2.2)
  | _=>(r.2.2.2,r.1,r.2.1,r.2.2.1)
def bY(l:List Sy):List Value:=l.flatMap fun s=>[Value.int .i64 (s.k:Nat),.int .u8 (s.b.toNat:Nat),.int .i64 (s.l:Nat),.int .i64 (s.d:Nat),.int .i64 (s.r:Nat)]
theorem BF(l:List Sy):(bY l).length=l.length*5:=by
 induction l with
 | nil=>rfl
 | cons a l ih=>simp only[bY,List.flatMap_cons,List.length_append,List.length_cons,List.length_nil]at ih ⊢;omega
theorem BG(l m:List Sy):bY (l++m)=bY l++bY m:=by simp[bY]
theorem JE(l:List Sy): ∀i (h:i<l.length),(bY l)[5*i]? =some (.int .i64 (l[i].k:Nat))∧(bY l)[5*i+1]? =some (.int .u8 (l[i].b.toNat:Nat))∧(bY l)[5*i+2]? =some (.int .i64 (l[i].l:Nat))∧
  (bY l)[5*i+3]? =some (.int .i64 (l[i].d:Nat))∧(bY l)[5*i+4]? =some (.int .i64 (l[i].r:Nat)):=by
 induction l with
 | nil=>intro i h;simp at h
 | cons a l ih=>
  intro i h
  cases i with
  | zero=>exact⟨rfl,rfl,rfl,rfl,rfl⟩
  | succ i=>
   have:=ih i (by simpa using h)
   rw[show 5*(i+1)=5*i+1+1+1+1+1 by omega]
   exact this
def iR(base:Nat)(w:World)(v:Value)(l:List Sy):Prop:=w.ownsRow base 158 5 v l.length (bY l)
theorem ad9:(Tryz.prog.info? 158).map (fun i=>(i.zero,i.size,i.bytes))=some (some (.agg #[.int .i64 0,.int .u8 0,.int .i64 0,.int .i64 0,.int .i64 0]),5,40):=by kernel_rfl
theorem iR.nil(base:Nat)(w:World):iR base w (.slice none 0 0) []:=World.ownsRow_nil w base _ 5
theorem iR.keep{base:Nat}{w w':World}{v:Value}{l:List Sy}(h:iR base w v l)(hb: ∀g,v.ownBlock=some g→w'.heap[g]? =w.heap[g]?):iR base w' v l:=by
 rcases h with⟨h1,h2 | ⟨g,cap,cur,h2,h3,h4,h5⟩⟩
 ·exact⟨h1,.inl h2⟩
 ·exact⟨h1,.inr ⟨g,cap,cur,h2,h3,(hb g (by rw[h2];rfl)).trans h4,h5⟩⟩
theorem iR.lt{base:Nat}{w:World}{v:Value}{l:List Sy}(h:iR base w v l)(g:Nat)(hg:v.ownBlock=some g):base≤g∧g<w.heap.size:=World.ownsRow.lt h g hg
theorem iR.weaken{base base':Nat}{w:World}{v:Value}{l:List Sy}(h:iR base w v l)(hb:base'≤base):iR base' w v l:=by
 rcases h with⟨h1,h2 | ⟨g,cap,cur,h2,h3,h4⟩⟩
 ·exact⟨h1,.inl h2⟩
 ·exact⟨h1,.inr ⟨g,cap,cur,h2,Nat.le_trans hb h3,h4⟩⟩
theorem iR.below{base:Nat}{w w':World}{v:Value}{l:List Sy}(h:iR base w v l)(hb:Below w.heap.size w w'):iR base w' v l:=h.keep fun g hg=>hb.block g (h.lt g hg).2
theorem iR.set{base:Nat}{w:World}{v:Value}{l:List Sy}(h:iR base w v l){p:Addr}(hp:p.block<base)(u:Value):iR base (w.setCell p u) v l:=h.keep fun g hg=>ah _ _ _ _ (by have:=(h.lt g hg).1;omega)
theorem iR.read{base:Nat}{w:World}{v:Value}{l:List Sy}(h:iR base w v l)(hl:0<l.length):
  ∃g cap,v= .slice (some ⟨g,0,none⟩) l.length cap∧g<w.heap.size∧l.length≤cap∧cap≤9223372036854775807∧ ∀i (h:i<l.length),w.cell? ⟨g,5*i,none⟩=some (.int .i64 (l[i].k:Nat))∧w.cell? ⟨g,5*i+1,none⟩=some (.int .u8 (l[i].b.toNat:Nat))∧
   w.cell? ⟨g,5*i+2,none⟩=some (.int .i64 (l[i].l:Nat))∧w.cell? ⟨g,5*i+3,none⟩=some (.int .i64 (l[i].d:Nat))∧w.cell? ⟨g,5*i+4,none⟩=some (.int .i64 (l[i].r:Nat)):=by
 rcases h with⟨h1,⟨h2,h3⟩ | ⟨g,cap,cur,rfl,h3,h4,h5,h6,h7,h8⟩⟩
 ·omega
 ·refine⟨g,cap,rfl,(Array.getElem?_eq_some_iff.1 h4).1,h5,by unfold maxLen at h6;exact h6,fun i hi=> ?_⟩
  have hget:=JE l i hi
  have hc: ∀j,j<l.length*5→w.cell? ⟨g,j,none⟩=(bY l)[j]? :=fun j hj=>by
   have e:cur[j]? =(bY l)[j]? :=by
    rw[←h8,List.getElem?_take_of_lt (by omega),Array.getElem?_toList]
   rw[←e,cell_of_row w g j _ _ _ h4]
  refine⟨?_,?_,?_,?_,?_⟩
  ·rw[hc _ (by omega)];exact hget.1
  ·rw[hc _ (by omega)];exact hget.2.1
  ·rw[hc _ (by omega)];exact hget.2.2.1
  ·rw[hc _ (by omega)];exact hget.2.2.2.1
  ·rw[hc _ (by omega)];exact hget.2.2.2.2
theorem Fj(ty:TypeId)(base:Nat)(w:World)(v:Value)(l:List Sy)(hown:iR base w v l)(hh c:Nat)(s:Sy)
  (hc:w.heap[hh]? =some (.cells (bY [s]).toArray 158 (0,0))) (hl:l.length≤1000000) (hbase:base≤w.heap.size):
  ∃v' w',(Builtin.append_ #[151,151] ty #[v,.slice (some ⟨hh,0,none⟩) 1 c]).run Tryz.prog w= .ok v' w'∧iR base w' v' (l++[s])∧w.grownBy w' v.ownBlock:=by
 obtain⟨i,hi,hz⟩:=Option.map_eq_some_iff.1 ad9
 injection hz with hz0 hz;injection hz with hz1 hz2
 obtain⟨v',w',hr,h2,h3,_⟩:=run_append_own (P:=Tryz.prog) w base 151 ty 158 i _ 5 40 Tryz.underlying151 hi hz0 hz1 hz2 rfl (by decide)
  v l.length (bY l) hown ⟨hh,0,none⟩ 1 c (bY [s]) (by rw[BF];rfl) (by
   intro j u hu
   have e:(⟨hh,0,none⟩:Addr).add j=⟨hh,j,none⟩:=by unfold Addr.add;split<;>simp_all
   rw[e,cell_of_row w hh _ _ _ _ hc,List.getElem?_toArray,hu]) (by intro u hu;simp[bY]at hu;rcases hu with rfl | rfl | rfl | rfl | rfl<;>rfl) (by unfold maxLen;omega) (by omega) hbase
 exact⟨v',w',hr,by unfold iR;rw[BG];simpa using h2,h3⟩
theorem yO{ops:Array Oper}{rest:List Oper}{o:Oper}{a:Act}{Q:Exit→Act→World→Prop}(hgd:o.guard=none)(s x:Operand)
  (ho:o.op= .call {callee:= .builtin .append,args:= #[s,x],argTypes:= #[151,151]})
  (base:Nat) (w:World) (v:Value) (l:List Sy) (hs:a.eval s=v) (hown:iR base w v l) (hh c:Nat) (y:Sy) (hx:a.eval x= .slice (some ⟨hh,0,none⟩) 1 c)
  (hc:w.heap[hh]? =some (.cells (bY [y]).toArray 158 (0,0))) (hl:l.length≤1000000) (hbase:base≤w.heap.size)
  (h: ∀v' w',iR base w' v' (l++[y])→w.grownBy w' v.ownBlock→wpList Tryz.prog ops Q rest (a.put o.dst v') w'):wpList Tryz.prog ops Q (o::rest) a w:=by
 refine wpList_plain hgd fun K hK=> ?_
 obtain⟨v',w',hr,h2,h3⟩:=Fj o.type base w v l hown hh c y hc hl hbase
 unfold Oper.wp execOp
 simp only[ho,resolve,invoke,builtin,Sem.run_bind,Sem.run_pure,Result.andThen_ok,List.map_toArray,List.map_cons,List.map_nil,hs,hx,hr]
 exact hK _ _ (h v' w' h2 h3)
theorem iR.form{base:Nat}{w:World}{v:Value}{l:List Sy}(h:iR base w v l):
  ∃A cap,v= .slice A l.length cap∧l.length≤cap∧cap≤9223372036854775807∧ ∀i (h:i<l.length),∃g,A=some ⟨g,0,none⟩∧g<w.heap.size∧w.cell? ⟨g,5*i,none⟩=some (.int .i64 (l[i].k:Nat))∧w.cell? ⟨g,5*i+1,none⟩=some (.int .u8 (l[i].b.toNat:Nat))∧
   w.cell? ⟨g,5*i+2,none⟩=some (.int .i64 (l[i].l:Nat))∧w.cell? ⟨g,5*i+3,none⟩=some (.int .i64 (l[i].d:Nat))∧w.cell? ⟨g,5*i+4,none⟩=some (.int .i64 (l[i].r:Nat)):=by
 by_cases hl:0<l.length
 ·obtain⟨g,cap,rfl,hg,hc,hm,hat⟩:=h.read hl
  exact⟨_,cap,rfl,hc,hm,fun i hi=>⟨g,rfl,hg,hat i hi⟩⟩
 ·rcases h with⟨_,⟨rfl,h3⟩ | ⟨g,cap,cur,rfl,h3,h4,h5,h6,_⟩⟩
  ·exact⟨none,0,by rw[h3],by omega,by decide,fun i hi=>by omega⟩
  ·exact⟨_,cap,rfl,h5,by unfold maxLen at h6;exact h6,fun i hi=>by omega⟩
end Go.Proofs.YtgfpocdiojifoaaGreatDoor
