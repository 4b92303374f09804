import Derived.Test.YtgfpocdiojifoaaGreatDoorZ17
import Derived.Laws.BitsAllLaws
import Derived.StillTailTactics
namespace Go.Proofs.YtgfpocdiojifoaaGreatDoor
set_option maxRecDepth 100000
set_option maxHeartbeats 8000000
open Go.RowKit Go.Proofs.Tryz
variable{pos:Nat}{w:World}
section
section
variable{ge n m:Nat}{α β:Type}
end
end

structure Ww where
 out:List UInt8
 start:Nat
 clear:Bool
 asked:Bool
 lc:Nat
 lp:Nat
 pb:Nat
 st:Nat
 r:R4
 P:Nat→Nat
def ck0:Ww:=⟨[],0,false,false,0,0,0,0,(1,1,1,1),fun _=>1024⟩

section
structure UkP where
 base:Nat
 w0:World
 bb:Nat
 ab:Nat
 R:Nat
 A:Option Addr
 B:List UInt8
 c:Nat
 dict:Int
abbrev afN(dict:Int)(v:Value)(s:Ww)(cv:Value):List Value:=
 [.int .i64 dict,v,.int .i64 (s.start:Nat),.bool s.clear,.bool s.asked,.int .i64 (s.lc:Nat),.int .i64 (s.lp:Nat),.int .i64 (s.pb:Nat),cv]
def yo(base:Nat)(w:World)(cv:Value)(s:Ww):Prop:=
 s.clear=true→s.asked=false→ ∃C L,cv=PF C∧(base≤C∧base≤L)∧bV w C L s.lc s.lp s.pb s.st s.r s.P∧mX (s.lc:Nat) (s.lp:Nat) (s.pb:Nat)=true∧s.st<12∧dL s.r
structure TO(k:UkP)(w:World)(pos:Nat)(s:Ww)(cv:Value):Prop where
 Wx:w.heap[k.bb]? =some (.cells #[.slice k.A k.B.length k.c] 22 (0,0))
 Fv:w.heap[k.ab]? =some (.cells [Value.int .i64 (pos:Nat)].toArray 3 (0,0))
 row: ∃v,w.heap[k.R]? =some (.cells (afN k.dict v s cv).toArray 183 (0,0))∧Own k.base w v s.out
 low:k.base≤k.bb∧k.base≤k.ab∧k.base≤k.R
 bytes:Bytes w k.A k.B∧ ∀a,k.A=some a→a.block<k.base
 nums:k.B.length≤k.c∧k.c≤9223372036854775807∧k.B.length≤140737488355328∧pos≤k.B.length∧s.start≤s.out.length
 below:Below k.base k.w0 w
 bsz:k.base≤k.w0.heap.size
def Uk(k:UkP)(w:World)(pos:Nat)(s:Ww):Prop:= ∃cv,TO k w pos s cv∧yo k.base w cv s
theorem Own.neT{base:Nat}{W:World}{v:Value}{l:List UInt8}(h:Own base W v l){j:Nat}{cs:Array Value}{t:TypeId}{x:Nat×Nat}(hj:W.heap[j]? =some (.cells cs t x))(ht:t≠5):v.ownBlock≠some j:=by
 intro he;rcases h with⟨_,⟨rfl,_⟩ | ⟨g',bw,cur,rfl,_,h4,_⟩⟩
 ·cases he
 ·have e:g'=j:=by simpa [Value.ownBlock]using he
  subst e;rw[h4]at hj;injection hj with hj;injection hj with _ e2 _;exact ht e2.symm
section
variable{k:UkP}{w w':World}{pos:Nat}{s:Ww}{cv:Value}
theorem yo.aI{base:Nat}(h:yo base w cv s)(hX: ∀(i:Nat) (cs:Array Value) (t:TypeId) (x:Nat×Nat),w.heap[i]? =some (Obj.cells cs t x)→(t=146∨t=291)→w'.heap[i]? =w.heap[i]?):yo base w' cv s:=by intro h1 h2;obtain⟨C,L,e,hb,hM,hp⟩:=h h1 h2;obtain⟨T,hT,_⟩:=hM.box;obtain⟨l,hl,_⟩:=hM.lits;exact⟨C,L,e,hb,hM.aI (hX _ _ _ _ hT (.inl rfl)) (hX _ _ _ _ hl (.inr rfl)),hp⟩
theorem yo.set{base:Nat}(h:yo base w cv s){p:Addr}{cs:Array Value}{t:TypeId}{x:Nat×Nat}(hp:w.heap[p.block]? =some (.cells cs t x))(h1:t≠146)(h2:t≠291)(u:Value):yo base (w.setCell p u) cv s:=
 h.aI fun i _ t' _ hi ht=>ag _ _ _ _ (gz hi hp (by rcases ht with rfl | rfl<;>(first | exact fun e=>h1 e.symm | exact fun e=>h2 e.symm)))
theorem TO.cells(h:TO k w pos s cv): ∃v,(w.cell? ⟨k.R,0,none⟩=some (.int .i64 k.dict)∧w.cell? ⟨k.R,1,none⟩=some v∧w.cell? ⟨k.R,2,none⟩=some (.int .i64 (s.start:Nat))∧w.cell? ⟨k.R,3,none⟩=some (.bool s.clear)∧w.cell? ⟨k.R,4,none⟩=some (.bool s.asked)∧w.cell? ⟨k.R,5,none⟩=some (.int .i64 (s.lc:Nat))∧w.cell? ⟨k.R,6,none⟩=some (.int .i64 (s.lp:Nat))∧w.cell? ⟨k.R,7,none⟩=some (.int .i64 (s.pb:Nat))∧w.cell? ⟨k.R,8,none⟩=some cv)∧Own k.base w v s.out∧ ∀i,w.frozen? ⟨k.R,i,none⟩=false:=by obtain⟨v,hr,ho⟩:=h.row;refine⟨v,⟨?_,?_,?_,?_,?_,?_,?_,?_,?_⟩,ho,fun i=>frozen_of_row _ _ _ _ _ hr⟩<;>(rw[cell_of_row w _ _ _ _ _ hr];rfl)
theorem TO.boxes(h:TO k w pos s cv):w.cell? ⟨k.bb,0,none⟩=some (.slice k.A k.B.length k.c)∧w.cell? ⟨k.ab,0,none⟩=some (.int .i64 (pos:Nat))∧w.frozen? ⟨k.ab,0,none⟩=false∧k.bb≠k.ab:=by
 refine⟨?_,?_,frozen_of_row _ _ _ _ _ h.Fv,gz h.Wx h.Fv an⟩;·rw[cell_of_row w _ _ _ _ _ h.Wx];rfl
 ·rw[cell_of_row w _ _ _ _ _ h.Fv];rfl
theorem TO.setPos(h:TO k w pos s cv){p:Nat}(hp:p≤k.B.length):TO k (w.setCell ⟨k.ab,0,none⟩ (.int .i64 (p:Nat))) p s cv:=by
 obtain⟨v,hr,ho⟩:=h.row;have hB:Below k.base k.w0 (w.setCell ⟨k.ab,0,none⟩ (.int .i64 (p:Nat))):=h.below.setCell (p:=⟨k.ab,0,none⟩) h.low.2.1 _;refine⟨(ag _ _ _ _ (gz h.Wx h.Fv an)).trans h.Wx,heap_set h.Fv 0 _,⟨v,(ag _ _ _ _ (gz hr h.Fv an)).trans hr,ho.afM fun g hg=>ag _ _ _ _ (fun e=>ho.neT h.Fv an (by rw[hg,e]))⟩,h.low,⟨?_,h.bytes.2⟩,⟨h.nums.1,h.nums.2.1,h.nums.2.2.1,hp,h.nums.2.2.2.2⟩,hB,h.bsz⟩;refine h.bytes.1.aI ae fun q hq _=>World.cell?_setCell_far _ _ _ _ ?_;cases hA:k.A with
 | none=>rw[hA]at hq;cases hq
 | some a=>
  rw[hA]at hq;have e:a.block=q.block:=by simpa using hq
  have:=h.bytes.2 a hA;have:=h.low.2.1;show k.ab≠q.block;omega
end
end
def ST(k:UkP)(pos n:Nat)(s:Ww)(cv:Value)(w:World)(e:Ending)(w':World):Prop:=
 ∃AP cP,e= .returned (.tuple #[.slice AP n cP,.int .i64 0])∧(n≤cP∧cP≤9223372036854775807)∧(Bytes w' AP ((k.B.drop pos).take n)∧ ∀a,AP=some a→a.block<k.base)∧TO k w' (pos+n) s cv∧(∀s' uO,yo k.base w uO s'→yo k.base w' uO s')
theorem Ns{k:UkP}{s:Ww}{cv:Value}(h:TO k w pos s cv)(n:Nat)(hn:n≤1000000)(hl:pos+n≤k.B.length):Calls prog 113 #[.int .i64 (n:Nat),PF k.bb,PF k.ab] w (ST k pos n s cv w):=by
 obtain⟨b0,b1,b2,dr⟩:=h.boxes;obtain⟨n1,n2,n3,n4,_⟩:=h.nums;have rL:=h.setPos (p:=pos+n) hl;have Lj: ∀s' uO,yo k.base w uO s'→yo k.base (w.setCell ⟨k.ab,0,none⟩ (.int .i64 ((pos+n:Nat):Nat))) uO s':=fun s' uO hc=>hc.set (p:=⟨k.ab,0,none⟩) h.Fv an an _;have⟨q,hq⟩:=ex (pos+n);rw[hq]at rL Lj hl;have OF:=rL.bytes;have hcut:=(OF.1.cutFrom (k:=pos) n4 n1).take n;have⟨AP,hAP⟩:=ex ((if k.c=pos then k.A else k.A.map (·.add pos)));rw[hAP]at hcut;have pG: ∀a,AP=some a→a.block<k.base:=by
  intro a ha;rw[←hAP]at ha;split at ha;·exact OF.2 a ha
  ·cases hA:k.A with
   | none=>rw[hA]at ha;cases ha
   | some a'=>
    rw[hA]at ha;have e:a'.add pos=a:=(by simpa using ha);rw[←e];exact(show(a'.add pos).block=a'.block from by unfold Addr.add;split<;>rfl)▸OF.2 a' hA
 have TN:=hdd hAP;have fi:=hdd (And.intro rL (And.intro Lj (And.intro hcut pG)));have b0':=rL.boxes.1;have b1':=rL.boxes.2.1;have HQ:=hdd hq;have⟨L,hL⟩:=ex (k.B.length);rw[hL]at b0 b0' hl n1 n3 n4;have hpq:(pos:Int)+(n:Int)=(q:Int):=aa;have hqp:(q:Int)-(n:Int)=(pos:Int):=aa;have avc:(pos:Int)≤(q:Int):=aa;have hqL:(q:Int)≤(L:Int):=aa;have hLc:(L:Int)≤(k.c:Int):=aa;have tY:(k.c:Int)≤9223372036854775807:=aa;have Uw:decide ((L:Int)-(pos:Int)<(n:Int))=false:=decide_eq_false aa;have sO:(n:Int)≤1000000:=aa;have rz:(pos:Int)≤(L:Int):=aa;have hLi:(L:Int)≤140737488355328:=aa;have ap8:q-pos=n:=aa;have HN:=hdd (show n≤k.c-pos∧k.c-pos≤9223372036854775807 by omega);clear h hL rL Lj OF hcut hAP pG hq hl n1 n2 n3 n4;go_enter func113,ntmps113;go_wp2_with fail;all_goals go_ret2
 ·refine⟨AP,0,?_,⟨aa,aa⟩,fi.out.2.2,by rw[HQ.out];exact fi.out.1,fi.out.2.1⟩;rw[←TN.out,if_pos (by first | assumption | omega)];try rfl
 ·refine⟨AP,k.c-pos,?_,HN.out,fi.out.2.2,by rw[HQ.out];exact fi.out.1,fi.out.2.1⟩;rw[←TN.out,if_neg (by assumption)];try rfl




theorem CH{k:UkP}{s:Ww}(h:Uk k w pos s)(n:Nat)(hn:n≤1000000)(hl:pos+n≤k.B.length):Calls prog 113 #[.int .i64 (n:Nat),PF k.bb,PF k.ab] w (fun e w'=> ∃AP cP,e= .returned (.tuple #[.slice AP n cP,.int .i64 0])∧(n≤cP∧cP≤9223372036854775807)∧(Bytes w' AP ((k.B.drop pos).take n)∧ ∀a,AP=some a→a.block<k.base)∧Uk k w' (pos+n) s):=by obtain⟨cv,h1,h2⟩:=h;refine(Ns h1 n hn hl).mono ?_;rintro e w' ⟨AP,cP,rfl,h3,h4,h5,h6⟩;exact⟨AP,cP,rfl,h3,h4,_,h5,h6 _ _ h2⟩

def mQ(w:World)(res:List UInt8×Nat×Nat)(e:Ending)(w':World):Prop:=
 ∃A c,e= .returned (.tuple #[.slice A res.1.length c,.int .i64 (res.2.1:Nat),.int .i64 (res.2.2:Nat)])∧(res.1.length≤c∧c≤9223372036854775807)∧Bytes w' A res.1∧Below w.heap.size w w'
theorem Je{k:fG}(hc:1≤k.chunk.toNat):(m8 k).length≤4*k.D.length+1:=by have h1:=qr (k:=k) (n:=k.D.length) (c:=k.chunk.toNat) hc rfl k.D.length 0 (none,false) aa;have h2:=mI (n:=k.D.length) (c:=k.chunk.toNat) hc k.D.length 0 aa;unfold m8;rw[List.length_append,List.length_singleton];omega
theorem Jr(A:Option Addr)(B:List UInt8)(c:Nat)(dict:Int)(w:World)(hB:Bytes w A B)(hA: ∀a,A=some a→a.block<w.heap.size)(hc:B.length≤c)(hm:c≤9223372036854775807)(hl:B.length≤1000000000)(ky:1≤dict)(pL:dict≤9223372036854775807)(hp:1≤B.length)(hz:B.getD 0 0=0):
  Calls prog 66 #[.slice A B.length c,.int .i64 dict] w (mQ w ([],1,0)):=by
 have⟨W,hW⟩:=ex (((w.alloc (.cells #[.slice A B.length c] 22)).alloc (.cells #[.int .i64 0] 3)).alloc (.cells #[.int .i64 dict,.slice none 0 0,.int .i64 0,.bool false,.bool false,.int .i64 0,.int .i64 0,.int .i64 0,.pointer none] 183));obtain⟨bb,fg⟩: ∃n,w.heap.size=n:=⟨_,rfl⟩
 obtain⟨ab,Aa⟩: ∃n,w.heap.size+1=n:=⟨_,rfl⟩
 obtain⟨R,hR⟩: ∃n,w.heap.size+1+1=n:=⟨_,rfl⟩
 have XE:Uk ⟨w.heap.size,w,bb,ab,R,A,B,c,dict⟩ W 0 ck0:=by
  subst fg;subst Aa;subst hR;have aC:Below w.heap.size w (w.alloc (.cells #[.slice A B.length c] 22)):=ap;have aE:=aC.alloc aC.size (.cells #[.int .i64 0] 3);have aW:=aE.alloc aE.size (.cells #[.int .i64 dict,.slice none 0 0,.int .i64 0,.bool false,.bool false,.int .i64 0,.int .i64 0,.int .i64 0,.pointer none] 183);rw[hW]at aW;refine⟨.pointer none,⟨?_,?_,⟨.slice none 0 0,?_,Own.nil _ _⟩,⟨Nat.le_refl _,by show w.heap.size≤w.heap.size+1;omega,by show w.heap.size≤w.heap.size+1+1;omega⟩,⟨hB.below aW,hA⟩,⟨hc,hm,by show B.length≤_;omega,Nat.zero_le _,Nat.le_refl _⟩,aW,Nat.le_refl _⟩,fun h _=>by cases h⟩;·rw[←hW];refine(Below.heap_alloc _ _ _ av).trans ((Below.heap_alloc _ _ _ ae).trans (heap_alloc_last _ _))
  ·rw[←hW];have e:(w.alloc (.cells #[.slice A B.length c] 22)).heap.size=w.heap.size+1:=ae;refine(Below.heap_alloc _ _ _ ae).trans ?_;show((w.alloc (.cells #[.slice A B.length c] 22)).alloc (.cells #[.int .i64 0] 3)).heap[w.heap.size+1]? =_;rw[←e];exact heap_alloc_last _ _
  ·rw[←hW];have e:((w.alloc (.cells #[.slice A B.length c] 22)).alloc (.cells #[.int .i64 0] 3)).heap.size=w.heap.size+1+1:=ae;show(((w.alloc (.cells #[.slice A B.length c] 22)).alloc (.cells #[.int .i64 0] 3)).alloc _).heap[w.heap.size+1+1]? =_;rw[←e];exact heap_alloc_last _ _
 have HK0:=hdd XE;have HW:=hdd hW;have SV:=hdd (And.intro fg (And.intro Aa hR));have HD:=hdd (And.intro ky pL);have HF:=hdd (And.intro hp hz);have hdb:decide (dict<1)=false:=decide_eq_false aa;clear fg Aa hR XE hW ky pL hp hz hB hA hc hm hl;go_enter func66,ntmps66;go_wp2_with fail;rw[HW.out,SV.out.2.2,SV.out.2.1,SV.out.1];go_loopg [] 1 (fun _ wr=>Hid (Uk ⟨w.heap.size,w,bb,ab,R,A,B,c,dict⟩ wr 0 ck0));case atStart=>exact HK0
 case round=>
  have HK:=hrel;have HN:Hid (Calls prog 113 #[.int .i64 1,PF bb,PF ab] wr _):=hdd (CH (n:=1) HK.out an (by show 0+1≤B.length;have:=HF.out.1;omega));have⟨x,hx⟩:=ex (B.getD 0 0);have hxl:x.toNat<256:=x.toNat_lt;have hxi:(x.toNat:Int)<256:=aa;have HX:=hdd (And.intro trivial (And.intro hx hxl));clear hx hxl;go_wp2_with fail;refine HN.out.mono ?_;rintro e w1 ⟨A1,c1,rfl,fY,⟨iH,_⟩,Xw⟩;have wq:((B.drop 0).take 1).length=1:=by have:=HF.out.1;simp;omega
  obtain⟨b,off,rfl,hb,hcs⟩:=iH.addr (show 0<((B.drop 0).take 1).length by omega);have k0:=hcs 0 (show 0<((B.drop 0).take 1).length by omega);have e0:((B.drop 0).take 1)[0]=x:=by rw[←HX.out.2.1];simp[List.getElem_take,List.getD_eq_getElem?_getD,List.getElem?_eq_getElem (show 0<B.length by have:=HF.out.1;omega)]
  have k1:w1.cell? ⟨b,off,none⟩=some (.int .u8 (x.toNat:Nat)):=by rw[Nat.add_zero]at k0;rw[k0];exact congrArg (fun z:UInt8=>some (B8 z)) e0
  have Cs:=hdd Xw;clear fY iH Xw wq hcs k0 e0 hb;have vl:x.toNat=0:=by rw[←HX.out.2.1,HF.out.2];rfl
  ·skip;have avT:((x.toNat:Int)==0)=true:=(by rw[vl];rfl);have avU:(x.toNat:Int)=0:=aa;obtain⟨cv,hU,_⟩:=Cs.out;obtain⟨v,⟨_,r1,_,_,_,_,_,_,_⟩,hov,_⟩:=hU.cells;obtain⟨AO,cO,rfl,hcO,hmO,hBO⟩:=hov.read;obtain⟨_,q1,_,_⟩:=hU.boxes;have HU:=hdd (And.intro hU.below (And.intro hBO (And.intro hcO hmO)));clear hU hov hcO hmO hBO vl;go_wp2_with fail;go_quiet (fail);go_wp2_with fail;go_ret3;exact⟨AO,cO,rfl,HU.out.2.2,HU.out.2.1,below_drewN HU.out.1 _⟩
end Go.Proofs.YtgfpocdiojifoaaGreatDoor
