import Derived.Test.YtgfpocdiojifoaaGreatDoorZ12
import Derived.ChangeKeysEq
import Derived.Laws.NewBlocks
import Derived.OpenShut
import Derived.LaidMore
import Derived.Lib.MinMax
import Derived.Deep.CutBlock
import Derived.Deep.DeepCutAuto
namespace Go.Proofs.YtgfpocdiojifoaaGreatDoor
set_option maxRecDepth 100000
set_option maxHeartbeats 8000000
open Go.RowKit
theorem sum_any(g:Nat)(s:St)(w:World)(hH:bZ w g s)(hg:g<w.heap.size)(hK: ∀i,i<64→w.cell? ⟨2,i,none⟩=some (aQ (Kc i)))(h1:2<g)(hn:s.n≤100000000):
  Calls Tryz.prog 131 #[.pointer (some ⟨g,0,none⟩)] w fun e w'=>e= .returned (.agg (s.digest.map B8).toArray)∧Below w.heap.size w w':=by
 have hz32:=(zero_of_info Cj).1
 have hzH:=(zero_of_info ado).1
 have E8:=dL w (.cells zero32 124)
 have eA:(w.alloc (.cells zero32 124)).heap.size=w.heap.size+1:=by simp
 have hcs:(w.alloc (.cells zero32 124)).heap[g]? =some (.cells s.cells.toArray 253 (0,0)):=(E8.block g hg).trans hH.at_
 have hlast:=heap_alloc_last (w.alloc (.cells zero32 124)) (.cells xC 253)
 rw[eA]at hlast
 have hH3:bZ ((w.alloc (.cells zero32 124)).alloc (.cells s.cells.toArray 253)) (w.heap.size+1) s:=by
  have h:=heap_alloc_last (w.alloc (.cells zero32 124)) (.cells s.cells.toArray 253)
  rw[eA]at h
  exact⟨h,hH.len⟩
 have hr3:((w.alloc (.cells zero32 124)).alloc (.cells s.cells.toArray 253)).heap[w.heap.size]? =some (.cells zero32 124 (0,0)):=
  ((dL _ _).block _ (by rw[eA];omega)).trans (heap_alloc_last _ _)
 have hb3:Below w.heap.size w ((w.alloc (.cells zero32 124)).alloc (.cells s.cells.toArray 253)):=E8.trans ((dL _ _).mono E8.size)
 have hs3:((w.alloc (.cells zero32 124)).alloc (.cells s.cells.toArray 253)).heap.size=w.heap.size+1+1:=by simp
 have hset:=World.setRow_alloc_new (w.alloc (.cells zero32 124)) xC s.cells.toArray 253
 rw[eA]at hset
 have Cm:=Lib.hid hset
 have abp:=s.qA hH.len
 have hone:s.cells.toArray.all (·.oneCell')=true:=all_oneCell_toArray s.one
 have HPD:=Lib.hid (fun(w':World) (h:bZ w' (w.heap.size+1) s) h2 h3=>abo (w.heap.size+1) s w' h h2 h3 (by omega) hn)
 have HK:=Lib.hid hK
 clear hset E8 eA hK hn hH
 go_enter Tryz.func131,Tryz.ntmps131
 go_wp2_with (first | (refine wpList_load_row rfl 253 _ rfl g rfl 253 s.cells.toArray _ _ hcs Tryz.underlying253 rfl (by rw[Xn];simp[abp]) ?_) | (refine wpList_store_row rfl 253 _ _ rfl (w.heap.size+1) s.cells.toArray rfl rfl 253 xC hlast (by rw[Xn];simp[abp]) (by rw[Ci];simp[abp]) hone ?_;rw[Cm.out]))
 have hKW: ∀i,i<64→((w.alloc (.cells zero32 124)).alloc (.cells s.cells.toArray 253)).cell? ⟨2,i,none⟩=some (aQ (Kc i)):=fun i hi=>(hb3.cell (p:=⟨2,i,none⟩) (by show 2<w.heap.size;omega)).trans (HK.out i hi)
 have HKW:=Lib.hid hKW
 have CB:=Lib.hid hs3
 have HN:Hid (s.puts (padding s.n)=s.puts (padding s.n)):=Lib.hid rfl
 generalize(w.alloc (.cells zero32 124)).alloc (.cells s.cells.toArray 253)=w3 at*
 clear hs3 hcs hlast Cm hKW hone abp
 refine(HPD.out w3 hH3 (by have:=CB.out;omega) HKW.out).mono ?_
 rintro e w4 ⟨rfl,Xk,fE⟩
 have hr4:w4.heap[w.heap.size]? =some (.cells zero32 124 (0,0)):=(fE.block _ (by have:=CB.out;omega) (by simp)).trans hr3
 have hb4:Below w.heap.size w w4:=hb3.trans (fE.below hb3.size (by simp))
 have hl4:=lt_of_heap Xk.at_
 have HD:Hid (s.digest=kY (s.puts (padding s.n)).ws 8):=Lib.hid rfl
 generalize hP:s.puts (padding s.n)=P at*
 clear hP HPD HKW hr3 hb3 fE HN
 have hR0:=Xk.Il
 have e0:(w4.alloc (.cells zero32 124)).heap.size=w4.heap.size+1:=by simp
 have hR1:(w4.alloc (.cells zero32 124)).rangeAt (w.heap.size+1) 0 P.ws.agg.toList:=(Xk.Ip (dL _ _) hl4).Il
 have hr5:(w4.alloc (.cells zero32 124)).heap[w.heap.size]? =some (.cells zero32 124 (0,0)):=((dL _ _).block _ (by omega)).trans hr4
 have hh5:(w4.alloc (.cells zero32 124)).heap[w4.heap.size]? =some (.cells zero32 124 (0,0)):=heap_alloc_last _ _
 have hb5:Below w.heap.size w (w4.alloc (.cells zero32 124)):=hb4.trans ((dL _ _).mono hb4.size)
 have HB4:=Lib.hid hb4.size
 clear e0 hb4 hr4 hR0
 go_wp2_with (refine wpList_load_mid rfl 250 _ rfl (w.heap.size+1) 0 rfl P.ws.agg.toList _ hR1 Tryz.underlying250 rfl (by rw[qy];rfl) ?_)
 generalize w4.alloc (.cells zero32 124)=w5 at*
 go_loopw [17] (fun v wr=> ∃k:Nat,k≤8∧v= .int .i64 k∧wr.heap[w4.heap.size]? =some (.cells ((kY P.ws k).map B8++List.replicate (32-4*k) (Value.int .u8 0)).toArray 124 (0,0))∧wr.heap[w.heap.size]? =some (.cells zero32 124 (0,0))∧Below w.heap.size w wr) (fun v _=>(8-intOf v).toNat)
 case atStart=>exact⟨0,by omega,rfl,by simpa [kY,zero32]using hh5,hr5,hb5⟩
 case round=>
  obtain⟨k,hk,rfl,hd,hr,hb⟩:=hrel
  clear hh5 hr5 hb5 hR1 Xk hH3
  by_cases hlt:k<8
  ·have hix: ∀w,(Instr.index 250 (.agg P.ws.agg) (.int .i64 (k:Nat))).run Tryz.prog w= .ok (aQ (P.ws.get k)) w:=fun w=>gX P.ws k hlt w
   have hlen:((kY P.ws k).map B8++List.replicate (32-4*k) (Value.int .u8 0)).length=32:=by simp[lX];omega
   have hcut: ∀w,(Instr.sliceAt 124 (.pointer (some ⟨w4.heap.size,0,none⟩)) (some (.int .i64 (4*(k:Int)))) none none).run Tryz.prog w= .ok (.slice (some ⟨w4.heap.size,4*k,none⟩) (32-4*k) (32-4*k)) w:=fun w=>ahL w4.heap.size (4*k) (by omega) w
   have qR:=Lib.hid (Xo P.ws k hlt)
   have QL:=Lib.hid (fun wx hx=>rY w4.heap.size (4*k) (32-4*k) (32-4*k) (P.ws.get k) _ 124 wx hx (by rw[hlen];omega) (by omega))
   clear hlen
   go_wp2_with fail
   refine(QL.out wr hd).mono ?_
   rintro e w6 ⟨rfl,hd6,BP⟩
   rw[qR.out]at hd6
   have QM:=(BP.block _ (lt_of_heap hr) (by have:=HB4.out;simp;omega)).trans hr
   have hb6:=hb.trans (BP.below hb.size (by simp;exact HB4.out))
   clear QL hd BP
   go_wp2_with fail
   go_roundw
   case rel=>exact⟨k+1,by omega,by go_num,hd6,QM,hb6⟩
   case measure=>simp[intOf];omega
  ·obtain rfl:k=8:=by omega
   have hD8:((kY P.ws 8).map B8++List.replicate (32-4*8) (Value.int .u8 0))=(kY P.ws 8).map B8:=by simp
   rw[hD8]at hd
   have hl8:((kY P.ws 8).map B8).length=32:=by rw[List.length_map,lX]
   have hone:((kY P.ws 8).map B8).toArray.all (·.oneCell')=true:=all_oneCell_toArray (oJ _)
   have hDD:s.digest.map B8=(kY P.ws 8).map B8:=by rw[HD.out]
   have Vy:=Lib.hid hDD
   clear hDD
   generalize(kY P.ws 8).map B8=D8 at*
   clear hD8
   go_wp2_with (first | (refine wpList_load_row rfl 124 _ rfl w4.heap.size rfl 124 D8.toArray _ _ hd Tryz.underlying124 rfl ?c1 ?_) | (refine wpList_store_row rfl 124 _ _ rfl w.heap.size D8.toArray rfl rfl 124 zero32 hr ?c2 ?c3 ?c4 ?_))
   case c1=>rw[uI];simp[hl8]
   case c2=>rw[uI];simp[hl8]
   case c3=>simp[hl8,zero32]
   case c4=>exact hone
   refine bodyPost_ret (results_cell_row rfl _ _ w.heap.size 124 D8.toArray _ _ rfl (setRow_heap _ _ _ _ _ _ hr) Tryz.underlying124 rfl (by rw[uI];simp[hl8])) rfl ?_
   exact⟨by rw[Vy.out],below_setRow hb (by omega) _⟩
theorem Bytes.blk{w:World}{A:Option Addr}{l:List UInt8}(h:Bytes w A l)(hl:0<l.length)(a:Addr)(e:A=some a):a.block<w.heap.size:=by
 obtain⟨b,off,rfl,hb,_⟩:=h.addr hl
 injection e with e;subst e;exact hb
structure Tabs(w:World):Prop where
 first: ∃tt fr,w.heap[1]? =some (.cells jH.agg tt fr)
 round: ∀i,i<64→w.cell? ⟨2,i,none⟩=some (aQ (Kc i))
 two:2<w.heap.size
theorem Tabs.only{X:List Nat}{w w':World}(h:Tabs w)(ho:Only X w w')(hX: ∀i∈X,2<i):Tabs w':=by
 refine⟨?_,fun i hi=> ?_,Nat.lt_of_lt_of_le h.two ho.size⟩
 ·obtain⟨tt,fr,hf⟩:=h.first
  exact⟨tt,fr,(ho.block 1 (by have:=h.two;omega) (fun hm=>by have:=hX 1 hm;omega)).trans hf⟩
 ·rw[←h.round i hi]
  unfold World.cell?
  rw[ho.block 2 h.two (fun hm=>by have:=hX 2 hm;omega)]
theorem Tabs.below{w w':World}(h:Tabs w)(hb:Below w.heap.size w w'):Tabs w':=h.only (vW hb) (by simp)
theorem Sz(A:Option Addr)(l:List UInt8)(c:Nat)(w:World)(hT:Tabs w)(hB:Bytes w A l)(hc:l.length≤c)(hm:c≤9223372036854775807)(hn:l.length≤100000000):
  Calls Tryz.prog 88 #[.slice A l.length c] w fun e w'=>e= .returned (.agg ((St.new.puts l).digest.map B8).toArray)∧Below w.heap.size w w':=by
 obtain⟨tt,fr,hf⟩:=hT.first
 have hz32:=(zero_of_info Cj).1
 have HT:=Lib.hid hT
 have E8:=dL w (.cells zero32 124)
 have eA:(w.alloc (.cells zero32 124)).heap.size=w.heap.size+1:=by simp
 have hr1:(w.alloc (.cells zero32 124)).heap[w.heap.size]? =some (.cells zero32 124 (0,0)):=heap_alloc_last _ _
 have h2:=hT.two
 have hf1:(w.alloc (.cells zero32 124)).heap[1]? =some (.cells jH.agg tt fr):=(E8.block 1 (by omega)).trans hf
 have hB1:=hB.below E8
 have ahN:=hB.blk
 have HR1:=Lib.hid hr1
 have HF1:=Lib.hid hf1
 have HBA:=Lib.hid E8
 have HEA:=Lib.hid eA
 clear hT E8 eA hr1 hf1 hf hB
 have HT1:Hid (Tabs (w.alloc (.cells zero32 124))):=Lib.hid (HT.out.below HBA.out)
 go_enter Tryz.func88,Tryz.ntmps88
 go_wp2_with fail
 generalize w.alloc (.cells zero32 124)=w1 at*
 refine(Sv tt fr w1 HF1.out).mono ?_
 rintro e w2 ⟨rfl,hH2,hb2⟩
 have hT2:=HT1.out.below hb2
 have hr2:w2.heap[w.heap.size]? =some (.cells zero32 124 (0,0)):=(hb2.block _ (by rw[HEA.out];omega)).trans HR1.out
 have hbb:Below w.heap.size w w2:=HBA.out.trans (hb2.mono (by rw[HEA.out];omega))
 have hlt:=lt_of_heap hH2.at_
 have hB2:=hB1.below hb2
 have HWR:=Lib.hid (write_any w1.heap.size St.new A l c w2 hH2 hB2 (fun h a e=>by have:=ahN h a e;have:=HEA.out;omega) hlt hT2.round (by have:=HEA.out;omega) hc hm (by show 0+l.length≤_;omega))
 have HL2:Hid (w.heap.size<w2.heap.size):=Lib.hid (by have:=HEA.out;omega)
 have HR2:=Lib.hid hr2
 have HT2:=Lib.hid hT2
 have Fa:=Lib.hid hlt
 clear hH2 hb2 hr2 hB2 hB1 ahN hT2 hlt
 go_wp2_with fail
 refine HWR.out.mono ?_
 rintro e w3 ⟨rfl,hH3,ho3⟩
 have oU:=HT2.out.only ho3 (by simp;have:=HEA.out;omega)
 have hr3:=(ho3.block _ HL2.out (by simp;have:=HEA.out;omega)).trans HR2.out
 have hb3:Below w.heap.size w w3:=hbb.trans (ho3.below (Nat.le_of_lt HL2.out) (by simp;have:=HEA.out;omega))
 have hs3:=ho3.size
 have HS:=Lib.hid (sum_any w1.heap.size (St.new.puts l) w3 hH3 (lt_of_heap hH3.at_) oU.round (by have:=HEA.out;omega) (by rw[St.Xb];show 0+l.length≤_;omega))
 have HR3:=Lib.hid hr3
 have HL3:Hid (w.heap.size<w3.heap.size):=Lib.hid (by have:=HL2.out;omega)
 clear hH3 ho3 hr3 hbb
 go_wp2_with fail
 refine HS.out.mono ?_
 rintro e w4 ⟨rfl,hb4⟩
 have hr4:=(hb4.block _ HL3.out).trans HR3.out
 have hl8:((St.new.puts l).digest.map B8).length=32:=by rw[List.length_map,oM]
 have hone:((St.new.puts l).digest.map B8).toArray.all (·.oneCell')=true:=all_oneCell_toArray (oJ _)
 have hb5:Below w.heap.size w w4:=hb3.trans (hb4.mono (Nat.le_of_lt HL3.out))
 generalize hD:(St.new.puts l).digest.map B8=D8 at*
 have HD:=Lib.hid hD
 clear hD hb3 hb4 hs3
 go_wp2_with (refine wpList_store_row rfl 124 _ _ rfl w.heap.size D8.toArray rfl rfl 124 zero32 hr4 ?c2 ?c3 ?c4 ?_)
 case c2=>rw[uI];simp[hl8]
 case c3=>simp[hl8,zero32]
 case c4=>exact hone
 refine bodyPost_ret (results_cell_row rfl _ _ w.heap.size 124 D8.toArray _ _ rfl (setRow_heap _ _ _ _ _ _ hr4) Tryz.underlying124 rfl (by rw[uI];simp[hl8])) rfl ?_
 exact⟨by rw[HD.out],below_setRow hb5 (by omega) _⟩
section
open Go.ChangeShapes Go.WideShapes Go.ChangeAt Go.RowKit
theorem vw{H:Type}{enc:TypeId×Value→H}{W:World}{base:Nat}{sp:Nat→Bool}{held:Bool}{fuel:Nat}{t e:TypeId}{cs:List Value}{k:IntKind}{n:Nat}{ls:List Int}{ps:List MemPlace}
  (ht:Tryz.prog.underlying t=some (.array n e)) (he:Tryz.prog.underlying e=some (.int k)) (ce:Tryz.prog.cellsOf e=1) (ct:Tryz.prog.cellsOf t=n)
  (h:DataW.trod enc Tryz.prog W base sp held fuel t cs=some (.agg (ls.map fun x=> .lit (.int k x)),ps)):cs=ls.map fun x=> .int k x:=by
 obtain⟨xs,m,rfl,hx,hlen,hn,hel⟩:=DataW.trod_array ht h
 rw[ct]at hlen
 simp only[Prod.mk.injEq,DataW.agg.injEq]at hx
 have hll:ls.length=n:=by have:=congrArg List.length hx.1;simpa [hn]using this
 refine List.ext_getElem (by simp[hlen,hll]) fun i h1 h2=> ?_
 have hi:=hel i (by omega)
 rw[ce,Nat.mul_one,List.getElem?_eq_getElem (by omega)]at hi
 obtain⟨z,e1,e2,_⟩:=DataW.trod_int he hi
 have h3:xs[i].1= .lit (.int k ls[i]):=by
  have:=congrArg (fun l:List (DataW H)=>l[i]?) hx.1
  simp only[List.getElem?_map]at this
  rw[List.getElem?_eq_getElem (show i<ls.length by omega),List.getElem?_eq_getElem (show i<xs.length by omega)]at this
  simpa using this.symm
 rw[e2]at h3
 have hz:z=ls[i]:=by simpa using h3
 have h4:(cs.drop i).take 1=[cs[i]]:=by
  rw[List.drop_eq_getElem_cons h1];rfl
 rw[h4]at e1
 rw[List.getElem_map,←hz]
 simpa using e1
theorem aeM:Tryz.prog.globalNamed "winepress/sha256.firstWords" =some 1:=by kernel_rfl
theorem aeN:Tryz.prog.globalNamed "winepress/sha256.roundWords" =some 2:=by kernel_rfl
theorem aeO:(Tryz.prog.globals[1]?).map (·.type)=some 250:=by kernel_rfl
theorem aeP:(Tryz.prog.globals[2]?).map (·.type)=some 277:=by kernel_rfl
abbrev laid2:List (String×DataW Unit):=[("winepress/sha256.firstWords",Rows.laid_winepress_sha256_firstWords),("winepress/sha256.roundWords",Rows.laid_winepress_sha256_roundWords)]
def Xp:List Int:=[1779033703,3144134277,1013904242,2773480762,1359893119,2600822924,528734635,1541459225]
theorem lens:jH.agg.toList=Xp.map fun x=> .int .u32 x:=by rfl
theorem ahP:Rows.laid_winepress_sha256_firstWords (H:=Unit)= .agg (Xp.map fun x=> .lit (.int .u32 x)):=by rfl
def NZ:List Int:=WX.map fun x=>(x.toNat:Int)
theorem ahQ:Rows.laid_winepress_sha256_roundWords (H:=Unit)= .agg (NZ.map fun x=> .lit (.int .u32 x)):=by rfl
theorem Ir{W:World}(h:laidMet Tryz.prog laid2 W):Tabs W:=by
 obtain⟨ps,⟨g0,t0,cs0,f0,p0,q0,hg0,ht0,hv0,hd0,⟨g1,t1,cs1,f1,p1,q1,hg1,ht1,hv1,hd1,_,_⟩,_⟩,_,_⟩:=h
 obtain rfl:=Option.some.inj (aeM.symm.trans hg0)
 obtain rfl:=Option.some.inj (aeN.symm.trans hg1)
 obtain rfl:=Option.some.inj (aeO.symm.trans ht0)
 obtain rfl:=Option.some.inj (aeP.symm.trans ht1)
 rw[ahP]at hd0
 rw[ahQ]at hd1
 have hc0:=vw (n:=8) (by kernel_rfl) Tryz.underlying24 (by kernel_rfl) (by kernel_rfl) hd0
 have hc1:=vw (n:=64) (by kernel_rfl) Tryz.underlying24 (by kernel_rfl) (by kernel_rfl) hd1
 refine⟨?_,fun i hi=> ?_,?_⟩
 ·unfold World.var? at hv0
  rw[hg0]at hv0
  simp only[Option.bind_some]at hv0
  split at hv0
  ·rename_i cs t fr hh
   refine⟨t,fr,?_⟩
   rw[hh]
   injection hv0 with hv0
   subst hv0
   rw[←lens]at hc0
   rw[show cs=jH.agg from Array.toList_inj.1 hc0]
  ·cases hv0
 ·rw[World.var?_cell hg1 hv1 i]
  obtain⟨l⟩:=cs1
  simp only at hc1
  subst hc1
  unfold NZ
  have hk:i<WX.length:=hi
  simp only[List.getElem?_toArray,List.getElem?_map,List.getElem?_eq_getElem hk,Option.map_some]
  unfold Kc
  rw[List.getD_eq_getElem?_getD,List.getElem?_eq_getElem hk];rfl
 ·unfold World.var? at hv1
  rw[hg1]at hv1
  simp only[Option.bind_some]at hv1
  split at hv1
  ·rename_i hh;exact lt_of_heap hh
  ·cases hv1
noncomputable def laidWorld(os:Os):World:=
 let w0:=World.holding Tryz.prog os ⟨#[],#[],[]⟩
 let lay (l:List Int):Obj→Obj
  | .cells _ t frozen=> .cells (l.map fun x=> .int .u32 x).toArray t frozen
  | o=>o
 {w0 with heap:=(w0.heap.modify 1 (lay Xp)).modify 2 (lay NZ)}
theorem laidWorld_met(os:Os)(args:Array Value):laidMet Tryz.prog laid2 ((laidWorld os).forCall (fun _ _=>0) ⟨#[],args,[]⟩).memory:=
 laidMet_of_run' 8 (by kernel_rfl) (by kernel_rfl)
end
theorem dB.apart{t t':TypeId}{base:Nat}{w:World}{v:Value}{l:List Value}(h:dB t base w v l){C:Nat}{cs:Array Value}{x:Nat×Nat}(hC:w.heap[C]? =some (.cells cs t' x))(hne:t≠t'):v.ownBlock≠some C:=by
 intro e
 rcases h with⟨_,⟨rfl,_⟩ | ⟨g,cap,cur,rfl,_,hg,_⟩⟩
 ·cases e
 ·injection e with e
  subst e
  rw[hC]at hg
  injection hg with hg
  injection hg with _ hg _
  exact hne hg.symm
abbrev rc4(r:R4):List Value:=[.int .i64 r.1,.int .i64 r.2.1,.int .i64 r.2.2.1,.int .i64 r.2.2.2]
def QN(r:R4)(q:Int):Int:=r4 r.1 r.2.1 r.2.2.1 r.2.2.2 q.toNat
structure qW(w:World)(C base:Nat)(lc lp pb st:Int)(r:R4)(P:List Nat)(vR vP:Value):Prop where
 box:w.heap[C]? =some (.cells [.int .i64 lc,.int .i64 lp,.int .i64 pb,.int .i64 st,vR,vP].toArray 150 (0,0))
 rZ:dB 3 base w vR (rc4 r)
 ps:dB 128 base w vP (P.map fun x=> .int .u16 (x:Nat))
theorem qW.below{w w':World}{C base:Nat}{lc lp pb st:Int}{r:R4}{P:List Nat}{vR vP:Value}(h:qW w C base lc lp pb st r P vR vP)(hb:Below w.heap.size w w'):qW w' C base lc lp pb st r P vR vP:=
 ⟨(hb.block _ (Array.getElem?_eq_some_iff.1 h.box).1).trans h.box,h.rZ.below hb,h.ps.below hb⟩
theorem qW.cells{w:World}{C base:Nat}{lc lp pb st:Int}{r:R4}{P:List Nat}{vR vP:Value}(h:qW w C base lc lp pb st r P vR vP):
  w.cell? ⟨C,3,none⟩=some (.int .i64 st)∧w.cell? ⟨C,4,none⟩=some vR∧w.cell? ⟨C,5,none⟩=some vP∧(∀i,w.frozen? ⟨C,i,none⟩=false)∧
  ∃g cap,vR= .slice (some ⟨g,0,none⟩) 4 cap∧4≤cap∧cap≤9223372036854775807∧w.cell? ⟨g,0,none⟩=some (.int .i64 r.1)∧w.cell? ⟨g,1,none⟩=some (.int .i64 r.2.1)∧w.cell? ⟨g,2,none⟩=some (.int .i64 r.2.2.1)∧w.cell? ⟨g,3,none⟩=some (.int .i64 r.2.2.2)∧base≤g∧g<w.heap.size:=by
 obtain⟨g,cap,e,hg,hgl,hc,hm,hat⟩:=h.rZ.JB (show 0<4 by decide)
 refine⟨?_,?_,?_,fun i=>frozen_of_row _ _ _ _ _ h.box,g,cap,e,hc,hm,hat 0 (show 0<4 by decide),hat 1 (show 1<4 by decide),hat 2 (show 2<4 by decide),hat 3 (show 3<4 by decide),hg,hgl⟩
 ·rw[cell_of_row w _ _ _ _ _ h.box];rfl
 ·rw[cell_of_row w _ _ _ _ _ h.box];rfl
 ·rw[cell_of_row w _ _ _ _ _ h.box];rfl
def kC(r:R4)(n k l d q:Int):Bool:=
 if k=1 then decide (2≤l∧l≤273∧1≤d∧d≤n∧d≤4294967295)
 else if k=2 then decide (0≤q∧q≤3∧QN r q≤n∧((2≤l∧l≤273)∨(l=1∧q=0)))
 else decide (k=0)
def jU(r:R4)(k d q:Int):Int:=if k=1 then d else if k=2 then QN r q else 0
theorem aeQ{w W1:World}{v0 v1 v2 v3 v4:Value}(hW1:w.alloc (.cells #[v0,v1,v2,v3,v4] 158)=W1):W1.cell? ⟨w.heap.size,0,none⟩=some v0∧W1.cell? ⟨w.heap.size,1,none⟩=some v1∧W1.cell? ⟨w.heap.size,2,none⟩=some v2∧W1.cell? ⟨w.heap.size,3,none⟩=some v3∧W1.cell? ⟨w.heap.size,4,none⟩=some v4∧Below w.heap.size w W1:=by
 have hr:W1.heap[w.heap.size]? =some (.cells [v0,v1,v2,v3,v4].toArray 158 (0,0)):=by rw[←hW1];exact heap_alloc_last _ _
 refine⟨?_,?_,?_,?_,?_,by rw[←hW1];exact(Below.refl _ _).alloc (Nat.le_refl _) _⟩<;>(rw[cell_of_row W1 _ _ _ _ _ hr];rfl)
def Xq(k:Int)(b:UInt8)(l d q:Int):Value:=if k=0 then yL 0 b 0 0 0 else if k=1 then yL 1 0 l d 0 else yL 2 0 l 0 q
section
section
variable{w w':World}{C base:Nat}{lc lp pb st:Int}{r:R4}{P P':List Nat}{vR vP vP':Value}
theorem qW.lt(h:qW w C base lc lp pb st r P vR vP):C<w.heap.size:=(Array.getElem?_eq_some_iff.1 h.box).1
theorem dB.setOther{t:TypeId}{base:Nat}{w:World}{v:Value}{l:List Value}(h:dB t base w v l){p:Addr}(hp:v.ownBlock≠some p.block)(u:Value):dB t base (w.setCell p u) v l:=
 h.keep fun g hg=>ah _ _ _ _ (fun e=>hp (by rw[hg,e]))
end
end
theorem su{C L lc lp pb st:Nat}{r:R4}{P:Nat→Nat}{w:World}(hM:bg w C L lc lp pb st r P):Calls Tryz.prog 122 #[PF C] w (J4 r.val w):=by
 obtain⟨_,_,_,_,c4,c5,c6,c7⟩:=hM.cells
 have hlt:=hM.EW
 clear hM
 go_enter Tryz.func122,Tryz.ntmps122
 go_wp2_with fail
 refine bodyPost_ret (v:=r.val) (by simp[results,Tryz.results122,go_sem]) rfl ⟨rfl,?_⟩
 exact(Below.refl _ _).alloc (Nat.le_refl _) _
def lS(lc lp pb:Int):Bool:=decide ((0≤lc∧lc≤4)∧(0≤lp∧lp≤4)∧(0≤pb∧pb≤4)∧lc+lp≤4)
def nC(n:Int):Bool:=decide (0≤n∧n≤4)
theorem yY(n:Int)(w:World):Calls Tryz.prog 132 #[.int .i64 n] w fun e w'=>e= .returned (.bool (nC n))∧w=w':=by
 by_cases h0:0≤n
 ·have HS:Hid (nC n=decide (n≤4)):=Lib.hid (by unfold nC;exact decide_eq_decide.2 (by omega))
  rw[HS.out]
  go_enter Tryz.func132,Tryz.ntmps132
  go_wp2_with fail
  go_ret
  exact⟨rfl,rfl⟩
 ·have HS:Hid (nC n=false):=Lib.hid (by unfold nC;exact decide_eq_false (by omega))
  rw[HS.out]
  go_enter Tryz.func132,Tryz.ntmps132
  go_wp2_with fail
  go_ret
  exact⟨rfl,rfl⟩
theorem vC(lc lp pb:Int)(w:World):Calls Tryz.prog 90 #[.int .i64 lc,.int .i64 lp,.int .i64 pb] w fun e w'=>e= .returned (.bool (lS lc lp pb))∧w=w':=by
 have yM:=Lib.hid (yY lc w)
 have HS2:=Lib.hid (yY lp w)
 have CB:=Lib.hid (yY pb w)
 obtain⟨R,hR⟩: ∃R,lS lc lp pb=R:=⟨_,rfl⟩
 rw[hR]
 have HR:=Lib.hid hR
 clear hR
 by_cases h1:0≤lc∧lc≤4
 case neg=>
  have e1:nC lc=false:=decide_eq_false h1
  rw[e1]at yM
  have xE:Hid (R=false):=Lib.hid (by rw[←HR.out];exact decide_eq_false (by omega))
  clear h1 e1
  go_enter Tryz.func90,Tryz.ntmps90
  go_wp2_with fail
  refine yM.out.mono ?_
  rintro e w1 ⟨rfl,rfl⟩
  go_wp2_with fail
  go_ret
  exact⟨by rw[xE.out];rfl,rfl⟩
 case pos=>
  have e1:nC lc=true:=decide_eq_true h1
  rw[e1]at yM
  by_cases h2:0≤lp∧lp≤4
  case neg=>
   have e2:nC lp=false:=decide_eq_false h2
   rw[e2]at HS2
   have xE:Hid (R=false):=Lib.hid (by rw[←HR.out];exact decide_eq_false (by omega))
   clear h1 e1 h2 e2
   go_enter Tryz.func90,Tryz.ntmps90
   go_wp2_with fail
   refine yM.out.mono ?_
   rintro e w1 ⟨rfl,rfl⟩
   go_wp2_with fail
   refine HS2.out.mono ?_
   rintro e w1 ⟨rfl,rfl⟩
   go_wp2_with fail
   go_ret
   exact⟨by rw[xE.out];rfl,rfl⟩
  case pos=>
   have e2:nC lp=true:=decide_eq_true h2
   rw[e2]at HS2
   by_cases h3:0≤pb∧pb≤4
   case neg=>
    have e3:nC pb=false:=decide_eq_false h3
    rw[e3]at CB
    have xE:Hid (R=false):=Lib.hid (by rw[←HR.out];exact decide_eq_false (by omega))
    clear h1 e1 h2 e2 h3 e3
    go_enter Tryz.func90,Tryz.ntmps90
    go_wp2_with fail
    refine yM.out.mono ?_
    rintro e w1 ⟨rfl,rfl⟩
    go_wp2_with fail
    refine HS2.out.mono ?_
    rintro e w1 ⟨rfl,rfl⟩
    go_wp2_with fail
    refine CB.out.mono ?_
    rintro e w1 ⟨rfl,rfl⟩
    go_wp2_with fail
    go_ret
    exact⟨by rw[xE.out];rfl,rfl⟩
   case pos=>
    have e3:nC pb=true:=decide_eq_true h3
    rw[e3]at CB
    have xE:Hid (R=decide (lc+lp≤4)):=Lib.hid (by rw[←HR.out];exact decide_eq_decide.2 (by omega))
    obtain⟨h1a,h1b⟩:=h1
    obtain⟨h2a,h2b⟩:=h2
    clear e1 e2 h3 e3
    go_enter Tryz.func90,Tryz.ntmps90
    go_wp2_with fail
    refine yM.out.mono ?_
    rintro e w1 ⟨rfl,rfl⟩
    go_wp2_with fail
    refine HS2.out.mono ?_
    rintro e w1 ⟨rfl,rfl⟩
    go_wp2_with fail
    refine CB.out.mono ?_
    rintro e w1 ⟨rfl,rfl⟩
    go_wp2_with fail
    go_ret
    exact⟨by rw[xE.out];rfl,rfl⟩
def nD(v:Value):List Value:=List.replicate 432 (.int .u16 0)++(v::List.replicate 1620 (.int .u16 0))
theorem Ku(a b c:Int):(((((((Tryz.zeroCells146.setIfInBounds 0 (Value.int .i64 a)).setIfInBounds 1 (Value.int .i64 b)).setIfInBounds 2 (Value.int .i64 c)).setIfInBounds 4 (Value.int .i64 1)).setIfInBounds 5 (Value.int .i64 1)).setIfInBounds 6 (Value.int .i64 1)).setIfInBounds 7 (Value.int .i64 1))=
  ([Value.int .i64 a,.int .i64 b,.int .i64 c,.int .i64 0,.int .i64 1,.int .i64 1,.int .i64 1,.int .i64 1]++nD (.slice none 0 0)).toArray:=by
 kernel_rfl
theorem FH{w:World}{base n size:Nat}{t:TypeId}{g:Nat}{xs:List Value}(h:w.ownsRow base t size (.slice (some ⟨g,0,none⟩) n n) n xs):w.heap[g]? =some (.cells xs.toArray t (0,0))∧base≤g:=by
 obtain⟨hl,⟨h,_⟩ | ⟨g',cap,cur,e,hb,hg,_,_,hsz,ht⟩⟩:=h
 ·cases h
 ·injection e with e1 _ e3
  injection e1 with e1
  injection e1 with e1
  subst e1;subst e3
  have:cur.toList=xs:=by rw[←ht,List.take_of_length_le (by simp;omega)]
  exact⟨by rw[hg,←this],hb⟩
theorem abr:(Tryz.prog.info? 291).map (fun i=>(i.zero,i.size,i.bytes))=some (some (.agg (Array.replicate 768 (.int .u16 0))),768,1536):=by kernel_rfl
theorem abt(k:Nat):(madeCells (Value.agg (Array.replicate 768 (.int .u16 0))).cells k).toList=List.replicate k (Value.int .u16 0):=by
 have hz:(Value.agg (Array.replicate 768 (Value.int .u16 0))).cells=Array.replicate 768 (Value.int .u16 0):=rfl
 rw[hz]
 unfold madeCells
 refine List.ext_getElem (by simp) fun i h1 h2=> ?_
 have hi:i%768<768:=Nat.mod_lt _ (by decide)
 simp[hi]
theorem N7(v:Value){j:Nat}(hj:j<2053)(hne:j≠432):(nD v)[j]? =some (.int .u16 0):=by
 unfold nD
 by_cases h:j<432
 ·rw[List.getElem?_append_left (by rw[List.length_replicate];exact h),List.getElem?_replicate,if_pos h]
 ·obtain⟨k,rfl⟩: ∃k,j=432+1+k:=⟨j-433,by omega⟩
  rw[List.getElem?_append_right (by rw[List.length_replicate];omega),List.length_replicate,show 432+1+k-432=k+1 by omega,List.getElem?_cons_succ,List.getElem?_replicate,if_pos (by omega)]
theorem N8(v u:Value):(nD v).set 432 u=nD u:=by
 unfold nD
 rw[List.set_append_right _ _ (by rw[List.length_replicate];exact Nat.le_refl _),List.length_replicate];rfl
theorem FI(v:Value):(nD v).length=2053:=by unfold nD;rw[List.length_append,List.length_cons,List.length_replicate,List.length_replicate]
def aeR(w:World)(e:Ending)(w':World):Prop:=e= .returned (.tuple #[.pointer none,.int .i64 1])∧w'=w
def abu(lc lp pb:Nat)(w:World)(e:Ending)(w':World):Prop:= ∃C L,e= .returned (.tuple #[PF C,.int .i64 0])∧bg w' C L lc lp pb 0 (1,1,1,1) (fun _=>1024)∧Below w.heap.size w w'∧w.heap.size≤C∧w.heap.size≤L
theorem Kv(lc lp pb:Int)(w:World)(h:lS lc lp pb=false):Calls Tryz.prog 52 #[.int .i64 lc,.int .i64 lp,.int .i64 pb] w (aeR w):=by
 have HP:=Lib.hid (vC lc lp pb w)
 rw[h]at HP
 go_enter Tryz.func52,Tryz.ntmps52
 go_wp2_with fail
 refine HP.out.mono ?_
 rintro e w1 ⟨rfl,rfl⟩
 go_wp2_with fail
 go_ret2
 exact⟨rfl,rfl⟩
theorem uJ(lc lp pb:Nat)(w:World)(h1:lc≤4)(h2:lp≤4)(h3:pb≤4)(h4:lc+lp≤4):Calls Tryz.prog 52 #[.int .i64 (lc:Nat),.int .i64 (lp:Nat),.int .i64 (pb:Nat)] w (abu lc lp pb w):=by
 have HP:=Lib.hid (vC (lc:Nat) (lp:Nat) (pb:Nat) w)
 rw[show lS (lc:Nat) (lp:Nat) (pb:Nat)=true from decide_eq_true (by omega)]at HP
 have hbuild:=Ku (lc:Nat) (lp:Nat) (pb:Nat)
 obtain⟨cs,hcs⟩: ∃cs,([Value.int .i64 (lc:Nat),.int .i64 (lp:Nat),.int .i64 (pb:Nat),.int .i64 0,.int .i64 1,.int .i64 1,.int .i64 1,.int .i64 1]++nD (.slice none 0 0)).toArray=cs:=⟨_,rfl⟩
 rw[hcs]at hbuild
 have HCS:=Lib.hid hcs
 have HBU:=Lib.hid hbuild
 clear hcs hbuild
 obtain⟨N,hN⟩: ∃N,2^(lc+lp)=N:=⟨_,rfl⟩
 have hN16:N≤16:=by
  rw[←hN]
  exact Nat.pow_le_pow_right (by decide:0<2) h4
 have hsh:wrap64 (2^(lc+lp))=(N:Int):=by
  rw[show(2:Int)^(lc+lp)=((2^(lc+lp):Nat):Int) by simp,hN]
  unfold wrap64;omega
 obtain⟨i,hi,hz⟩:=Option.map_eq_some_iff.1 abr
 injection hz with hz0 hz;injection hz with hz1 hz2
 have hmk:i.bytes*N≤281474976710656:=by rw[hz2];omega
 have hml:N≤maxLen:=by unfold maxLen;omega
 have HN:=Lib.hid hN
 have aq5:(lc:Int)≤4:=by omega
 have aq6:(lp:Int)≤4:=by omega
 clear hN h4
 go_enter Tryz.func52,Tryz.ntmps52
 go_wp2_with fail
 refine HP.out.mono ?_
 rintro e w1 ⟨rfl,rfl⟩
 go_upto_region 4 with fail
 rw[HBU.out]
 obtain⟨W1,hW1⟩: ∃W1,w.alloc (.cells cs 146)=W1:=⟨_,rfl⟩
 have hbx:W1.heap[w.heap.size]? =some (.cells cs 146 (0,0)):=by rw[←hW1];exact heap_alloc_last w _
 have hsz:W1.heap.size=w.heap.size+1:=by rw[←hW1];simp
 have HW1:=Lib.hid hW1
 have HBX:=Lib.hid hbx
 have CG:=Lib.hid hsz
 have HB1:Hid (Below w.heap.size w W1):=Lib.hid (by rw[←hW1];exact(Below.refl _ _).alloc (Nat.le_refl _) _)
 rw[HW1.out]
 clear hW1 hbx hsz
 go_wp2_with (at_make;refine wpList_make_full W1 rfl (.tmp 24) (.tmp 24) 132 rfl W1.heap.size 291 i (.agg (Array.replicate 768 (.int .u16 0))) 768 Tryz.underlying132 hi hz0 hz1 .i64 .i64 _ _ N rfl rfl hsh hsh hmk hml (Nat.le_refl _) ?_;intro w2 hown hg2;rw[abt]at hown;obtain⟨hh2,hge⟩:=FH hown;have hb2:=(hg2.block w.heap.size (by rw[CG.out];omega) (by simp)).trans HBX.out;have alL:w2.cell? ⟨w.heap.size,440,none⟩=some (.slice none 0 0):=(by rw[cell_of_row w2 _ _ _ _ _ hb2,←HCS.out];simp[nD]);have aq7:w2.frozen? ⟨w.heap.size,440,none⟩=false:=frozen_of_row _ _ _ _ _ hb2;have HH2:=Lib.hid hh2;have HB2:=Lib.hid hb2;have HG2:=Lib.hid hg2;clear hown hh2 hge hb2 hg2)
 go_ret2
 have hsz:=CG.out
 have hne:w.heap.size≠W1.heap.size:=by omega
 have hrow:(w2.setCell ⟨w.heap.size,440,none⟩ (.slice (some ⟨W1.heap.size,0,none⟩) (N:Nat) (N:Nat))).heap[w.heap.size]? =some (.cells (dD lc lp pb 0 (1,1,1,1)++nD (.slice (some ⟨W1.heap.size,0,none⟩) N N)).toArray 146 (0,0)):=by
  have h:=HB2.out
  rw[←HCS.out]at h
  rw[heap_set h,List.set_append_right _ _ (by simp)]
  rw[show 440-([Value.int .i64 (lc:Nat),.int .i64 (lp:Nat),.int .i64 (pb:Nat),.int .i64 0,.int .i64 1,.int .i64 1,.int .i64 1,.int .i64 1]:List Value).length=432 from rfl,N8]
  rfl
 have hlit:(w2.setCell ⟨w.heap.size,440,none⟩ (.slice (some ⟨W1.heap.size,0,none⟩) (N:Nat) (N:Nat))).heap[W1.heap.size]? =some (.cells (List.replicate (N*768) (Value.int .u16 0)).toArray 291 (0,0)):=(ah _ _ _ _ (fun e=>hne e.symm)).trans HH2.out
 refine⟨w.heap.size,W1.heap.size,rfl,⟨⟨_,hrow,FI _⟩,⟨_,hlit,by simp;rw[←HN.out];omega⟩,?_,hne,fun i hi=>⟨0,?_,rfl⟩,fun i=>by decide⟩,?_,Nat.le_refl _,by omega⟩
 ·rw[HN.out];exact World.cell?_setCell_same _ _ _ alL
 ·rw[HN.out]at hi
  unfold Md.used at hi
  by_cases h3:i<2180
  ·have ha:Md.rG w.heap.size W1.heap.size i=⟨w.heap.size,Md.iT i,none⟩:=by unfold Md.rG Md.jm;rw[if_pos h3]
   have hk:8≤Md.iT i∧Md.iT i-8<2053∧Md.iT i-8≠432:=by
    unfold Md.iT
    by_cases a1:i<432<;>by_cases a2:i<1844<;>simp only[a1,a2,h3,if_true,if_false]<;>omega
   rw[ha,cell_of_row _ _ _ _ _ _ hrow,List.getElem?_toArray,List.getElem?_append_right (by simpa using hk.1)]
   exact N7 _ hk.2.1 hk.2.2
  ·have ha:Md.rG w.heap.size W1.heap.size i=⟨W1.heap.size,i-2180,none⟩:=by
    unfold Md.rG Md.jm Md.iT
    rw[if_neg h3,if_neg (by omega),if_neg (by omega),if_neg h3]
   rw[ha,cell_of_row _ _ _ _ _ _ hlit,List.getElem?_toArray,List.getElem?_replicate,if_pos (by omega)];rfl
 ·exact(below_grown HB1.out HG2.out HB1.out.size (by simp)).setCell (Nat.le_refl _) _
end Go.Proofs.YtgfpocdiojifoaaGreatDoor
