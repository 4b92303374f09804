import Derived.Test.YtgfpocdiojifoaaGreatDoorZ37
import Derived.Deep.Slices
import Derived.Deep.Fields
import Derived.ChangeSame
import Derived.Lib.SmallJoins
namespace Go.Proofs.YtgfpocdiojifoaaGreatDoor
set_option maxRecDepth 100000
set_option maxHeartbeats 8000000
open Go.RowKit
theorem UK(lc lp pb nice chunk block check:Int)(chain:Value)(dict:Nat)(w:World):
  Calls Tryz.prog 21 #[FK lc lp pb nice chunk block check chain dict] w (xG (lT lc lp pb nice chunk dict) w):=by
 obtain⟨R,hR⟩: ∃R,lT lc lp pb nice chunk dict=R:=⟨_,rfl⟩
 rw[hR]
 obtain⟨W,hW⟩: ∃W,w.alloc (.cells #[.int .i64 lc,.int .i64 lp,.int .i64 pb,.int .i64 nice,.int .i64 chunk,.int .i64 block,.int .i64 check,chain,.int .u32 (dict:Nat)] 26)=W:=⟨_,rfl⟩
 obtain⟨hrow,hbW⟩:=gY (vs:=qB lc lp pb nice chunk block check chain dict) hW
 have c0:W.cell? ⟨w.heap.size,0,none⟩=some (.int .i64 lc):=by rw[cell_of_row W _ _ _ _ _ hrow];rfl
 have c1:W.cell? ⟨w.heap.size,1,none⟩=some (.int .i64 lp):=by rw[cell_of_row W _ _ _ _ _ hrow];rfl
 have c2:W.cell? ⟨w.heap.size,2,none⟩=some (.int .i64 pb):=by rw[cell_of_row W _ _ _ _ _ hrow];rfl
 have c3:W.cell? ⟨w.heap.size,3,none⟩=some (.int .i64 nice):=by rw[cell_of_row W _ _ _ _ _ hrow];rfl
 have c4:W.cell? ⟨w.heap.size,4,none⟩=some (.int .i64 chunk):=by rw[cell_of_row W _ _ _ _ _ hrow];rfl
 have c8:W.cell? ⟨w.heap.size,8,none⟩=some (.int .u32 (dict:Nat)):=by rw[cell_of_row W _ _ _ _ _ hrow];rfl
 have HW:=Lib.hid hW
 have fV:=Lib.hid hbW
 have HM:=Lib.hid (acP lc lp pb W)
 clear hrow hW hbW
 cases hp:lS lc lp pb with
 | false=>
  rw[hp]at HM
  have Xt:Hid (R=false):=Lib.hid (by rw[←hR];unfold lT;rw[hp];rfl)
  clear hp hR
  go_enter Tryz.func21,Tryz.ntmps21
  go_upto_region 1 with fail
  rw[HW.out]
  go_wp2_with fail
  refine HM.out.mono ?_
  rintro e w1 ⟨rfl,rfl⟩
  go_wp2_with fail
  go_ret
  exact⟨by rw[Xt.out];rfl,fV.out⟩
 | true=>
  rw[hp]at HM
  have hRv:R=decide ((2≤nice∧nice≤273)∧(1≤chunk∧chunk≤65536)∧4096≤dict∧dict≤67108864):=by rw[←hR];unfold lT;rw[hp];rfl
  clear hp hR
  rcases(by omega: ¬2≤nice∨(2≤nice∧ ¬nice≤273)∨((2≤nice∧nice≤273)∧ ¬1≤chunk)∨((2≤nice∧nice≤273)∧1≤chunk∧ ¬chunk≤65536)∨((2≤nice∧nice≤273)∧(1≤chunk∧chunk≤65536)∧ ¬(4096:Int)≤(dict:Int))∨((2≤nice∧nice≤273)∧(1≤chunk∧chunk≤65536)∧(4096:Int)≤(dict:Int)∧ ¬(dict:Int)≤67108864)∨((2≤nice∧nice≤273)∧(1≤chunk∧chunk≤65536)∧(4096:Int)≤(dict:Int)∧(dict:Int)≤67108864))with g1 | ⟨g1,g2⟩ | ⟨⟨g1,g2⟩,g3⟩ | ⟨⟨g1,g2⟩,g3,g4⟩ | ⟨⟨g1,g2⟩,⟨g3,g4⟩,g5⟩ | ⟨⟨g1,g2⟩,⟨g3,g4⟩,g5,g6⟩ | ⟨⟨g1,g2⟩,⟨g3,g4⟩,g5,g6⟩
  all_goals
   have Xt:=Lib.hid (show R=false∨R=true from by cases R<;>simp)
   have HRd:Hid (R=decide ((2≤nice∧nice≤273)∧(1≤chunk∧chunk≤65536)∧4096≤dict∧dict≤67108864)):=Lib.hid hRv
   clear hRv Xt
   go_enter Tryz.func21,Tryz.ntmps21
   go_upto_region 1 with fail
   rw[HW.out]
   go_wp2_with fail
   refine HM.out.mono ?_
   rintro e w1 ⟨rfl,rfl⟩
   go_wp2_with fail
   go_ret
   first
    | exact⟨by rw[show R=false from by rw[HRd.out];exact decide_eq_false (by omega)];rfl,fV.out⟩
    | exact⟨by rw[show R=decide ((dict:Int)≤67108864)from by rw[HRd.out];exact decide_eq_decide.2 (by omega)];rfl,fV.out⟩
    | exact⟨by rw[show R=true from by rw[HRd.out];exact decide_eq_true (by omega)];rfl,fV.out⟩
structure Op where
 lc:Int
 lp:Int
 pb:Int
 nice:Int
 chunk:Int
 block:Int
 check:Int
 A:Option Addr
 l:List bK
 c:Nat
 dict:Nat
abbrev Op.ch(o:Op):Value:= .slice o.A o.l.length o.c
abbrev Op.v(o:Op):Value:=FK o.lc o.lp o.pb o.nice o.chunk o.block o.check o.ch o.dict
def Op.fine(o:Op):Bool:=lT o.lc o.lp o.pb o.nice o.chunk o.dict&&lu o.l&&iD o.check
structure L6(w:World)(o:Op):Prop where
 Pv:gJ w o.A o.l
 lc:o.l.length≤o.c
 c:o.c≤9223372036854775807
 dict:o.dict<4294967296
 few:o.l.length≤20
theorem L6.below{w w':World}{o:Op}(h:L6 w o)(hb:Below w.heap.size w w'):L6 w' o:=⟨h.Pv.below hb,h.lc,h.c,h.dict,h.few⟩
theorem oH{W:World}{b:Nat}{o:Op}(h:W.heap[b]? =some (.cells (qB o.lc o.lp o.pb o.nice o.chunk o.block o.check o.ch o.dict).toArray 26 (0,0))):
  W.cell? ⟨b,0,none⟩=some (.int .i64 o.lc)∧W.cell? ⟨b,1,none⟩=some (.int .i64 o.lp)∧W.cell? ⟨b,2,none⟩=some (.int .i64 o.pb)∧W.cell? ⟨b,3,none⟩=some (.int .i64 o.nice)∧W.cell? ⟨b,4,none⟩=some (.int .i64 o.chunk)∧W.cell? ⟨b,5,none⟩=some (.int .i64 o.block)∧W.cell? ⟨b,6,none⟩=some (.int .i64 o.check)∧W.cell? ⟨b,7,none⟩=some o.ch∧W.cell? ⟨b,8,none⟩=some (.int .u32 (o.dict:Nat)):=by
 refine⟨?_,?_,?_,?_,?_,?_,?_,?_,?_⟩<;>(rw[cell_of_row W _ _ _ _ _ h];rfl)
theorem Ap(n:Nat)(hn:n≤1000000000)(w:World):Calls Tryz.prog 20 #[.int .i64 (n:Nat)] w fun e w'=>e= .returned (.int .i64 (aY n:Nat))∧w=w':=by
 have h:(4-(n:Int)%4)%4=((aY n:Nat):Int):=by unfold aY;omega
 have H:=Lib.hid h
 clear h
 go_enter Tryz.func20,Tryz.ntmps20
 go_wp2_with fail
 go_ret
 exact⟨by rw[←H.out];rfl,rfl⟩
theorem PG(a:Int)(n:Nat)(hn:n≤1000000000)(w:World):Calls Tryz.prog 68 #[.int .i64 a,.int .i64 (n:Nat)] w fun e w'=>e= .returned (.bool (decide (a<0)||a==(n:Int)))∧w=w':=by
 have hw:IntKind.i64.wrap (n:Int)=(n:Int):=IntWalk.i64_in _ (by omega)
 by_cases h:a<0
 ·go_enter Tryz.func68,Tryz.ntmps68
  go_wp2_with fail
  go_ret
  exact⟨by simp[h],rfl⟩
 ·go_enter Tryz.func68,Tryz.ntmps68
  go_wp2_with fail
  go_ret
  exact⟨by simp;omega,rfl⟩
theorem PI(o:Op)(w:World)(hO:L6 w o):Calls Tryz.prog 8 #[o.v] w (xG o.fine w):=by
 obtain⟨W,hW⟩: ∃W,w.alloc (.cells #[.int .i64 o.lc,.int .i64 o.lp,.int .i64 o.pb,.int .i64 o.nice,.int .i64 o.chunk,.int .i64 o.block,.int .i64 o.check,o.ch,.int .u32 (o.dict:Nat)] 26)=W:=⟨_,rfl⟩
 obtain⟨hrow,hbW⟩:=gY (vs:=qB o.lc o.lp o.pb o.nice o.chunk o.block o.check o.ch o.dict) hW
 have HC:=Lib.hid (fun(W':World) (h:Below W.heap.size W W')=>oH ((h.block _ (Array.getElem?_eq_some_iff.1 hrow).1).trans hrow))
 obtain⟨k0,k1,k2,k3,k4,k5,k6,k7,k8⟩:=HC.out W (Below.refl _ _)
 have H1:=Lib.hid (Kw o.lc o.lp o.pb o.nice o.chunk o.block o.check o.ch o.dict W)
 have H2:=Lib.hid (fun(W':World) (h:Below W.heap.size W W')=>yc o.A o.l o.c W' ((hO.Pv.below hbW).below h) hO.few)
 have H3:=Lib.hid (fun(W':World)=>Ei o.check W')
 have HW:=Lib.hid hW
 have fV:=Lib.hid hbW
 have HR:Hid (o.fine=(lT o.lc o.lp o.pb o.nice o.chunk o.dict&&lu o.l&&iD o.check)):=Lib.hid rfl
 generalize lT o.lc o.lp o.pb o.nice o.chunk o.dict=b1 at*
 generalize lu o.l=b2 at*
 generalize iD o.check=b3 at*
 generalize o.fine=b at*
 clear hrow hW hbW hO
 cases b1 with
 | false=>
  go_enter Tryz.func8,Tryz.ntmps8
  go_upto_region 1 with fail
  rw[HW.out]
  go_wp2_with fail
  refine H1.out.mono ?_
  rintro e w1 ⟨rfl,hb1⟩
  have HB1:=Lib.hid hb1
  clear hb1
  go_wp2_with fail
  go_ret
  exact⟨by rw[HR.out];rfl,fV.out.trans (HB1.out.mono fV.out.size)⟩
 | true=>
  cases b2 with
  | false=>
   go_enter Tryz.func8,Tryz.ntmps8
   go_upto_region 1 with fail
   rw[HW.out]
   go_wp2_with fail
   refine H1.out.mono ?_
   rintro e w1 ⟨rfl,hb1⟩
   have HB1:=Lib.hid hb1
   clear hb1 k0 k1 k2 k3 k4 k5 k6 k7 k8
   obtain⟨k0,k1,k2,k3,k4,k5,k6,k7,k8⟩:=HC.out w1 HB1.out
   go_wp2_with fail
   refine(H2.out w1 HB1.out).mono ?_
   rintro e w2 ⟨rfl,hb2⟩
   have HB2:=Lib.hid (HB1.out.trans (hb2.mono HB1.out.size))
   clear hb2
   go_wp2_with fail
   go_ret
   exact⟨by rw[HR.out];rfl,fV.out.trans (HB2.out.mono fV.out.size)⟩
  | true=>
   go_enter Tryz.func8,Tryz.ntmps8
   go_upto_region 1 with fail
   rw[HW.out]
   go_wp2_with fail
   refine H1.out.mono ?_
   rintro e w1 ⟨rfl,hb1⟩
   have HB1:=Lib.hid hb1
   clear hb1 k0 k1 k2 k3 k4 k5 k6 k7 k8
   obtain⟨k0,k1,k2,k3,k4,k5,k6,k7,k8⟩:=HC.out w1 HB1.out
   go_wp2_with fail
   refine(H2.out w1 HB1.out).mono ?_
   rintro e w2 ⟨rfl,hb2⟩
   have HB2:=Lib.hid (HB1.out.trans (hb2.mono HB1.out.size))
   clear hb2 k0 k1 k2 k3 k4 k5 k6 k7 k8
   obtain⟨k0,k1,k2,k3,k4,k5,k6,k7,k8⟩:=HC.out w2 HB2.out
   go_wp2_with fail
   refine(H3.out w2).mono ?_
   rintro e w3 ⟨rfl,hb3⟩
   have HB3:=Lib.hid (HB2.out.trans (hb3.mono HB2.out.size))
   clear hb3
   go_wp2_with fail
   go_ret
   exact⟨by rw[HR.out];rfl,fV.out.trans (HB3.out.mono fV.out.size)⟩
section
open Go.ChangeShapes Go.WideShapes Go.ChangeAt Go.RowKit Go.Joins
theorem L8:Tryz.prog.cellsOf 84=2:=by kernel_rfl
theorem L9(b o k:Nat):(⟨b,o,none⟩:Addr).add k=⟨b,o+k,none⟩:=by
 unfold Addr.add;split<;>simp_all
theorem UL{H:Type}{enc:TypeId×Value→H}{W:World}{v:Value}{y:DataW H×List MemPlace}{n0:Nat}
  (hf:DataW.trod enc Tryz.prog W 0 (fun _=>true) true n0 23 [v]=some y):
  ∃(A:Option Addr) (l:List bK) (c:Nat),v= .slice A l.length c∧l.length≤c∧c≤9223372036854775807∧gJ W A l:=by
 rcases Go.Deep.open_slice Tryz.underlying23 hf with⟨hcs,_⟩ | ⟨a,len,cap,m,n,D,Pl,hcs,_,hl,hm,hmm,_,hi⟩
 ·injection hcs with hcs
  subst hcs
  exact⟨none,[],0,rfl,by simp,by omega,.inl rfl⟩
 ·injection hcs with hcs
  subst hcs
  simp only[if_true]at hmm
  unfold maxLen at hm
  obtain⟨b,off,spot⟩:=a
  have hsp:0<len→spot=none:=by
   intro hpos
   obtain⟨cs',hc,_⟩:=hi 0 (by omega)
   rw[L8]at hc
   obtain⟨_,hcl,hat⟩:=World.cells?_some hc
   have:=World.cell?_spot ((hat 0 (by omega)).trans (List.getElem?_eq_getElem (by omega)))
   simpa [Addr.add]using this
  have key: ∀i,i<len→spot=none∧b<W.heap.size∧ ∃f,GX W b (off+i*2) f:=by
   intro i hil
   obtain⟨cs',hc,ht⟩:=hi i (by omega)
   rw[L8]at hc
   obtain⟨_,hcl,hat⟩:=World.cells?_some hc
   obtain⟨ys,n',_,_,_,hyl,hf⟩:=DataW.trod_struct Tryz.underlying84 ht
   have hsome: ∀j,j<2→ys[j]?.isSome=true:=fun j hj=>by
    rw[List.getElem?_eq_getElem (by rw[hyl];exact hj)];rfl
   obtain⟨z0,e0,w0⟩:=iK (j:=0) Tryz.underlying3 (by omega) (hsome 0 (by omega)) (hf 0 _ rfl)
   obtain⟨z1,e1,w1⟩:=iK (j:=1) Tryz.underlying24 (by omega) (hsome 1 (by omega)) (hf 1 _ rfl)
   have hspot:spot=none:=hsp (by omega)
   subst hspot
   have hadd: ∀j,((⟨b,off,none⟩:Addr).add (i*2)).add j=⟨b,off+i*2+j,none⟩:=by
    intro j;rw[L9,L9]
   have h0:=(hat 0 (by omega)).trans e0
   have h1:=(hat 1 (by omega)).trans e1
   rw[hadd]at h0 h1
   have hz:=JA w0
   refine⟨rfl,?_,⟨z0,(BitVec.ofNat 32 z1.toNat).toNat⟩,h0,?_,hz.1,hz.2,(BitVec.ofNat 32 z1.toNat).isLt⟩
   ·exact block_lt_of_cell h0
   ·rw[←Qw w1];exact h1
  refine⟨some ⟨b,off,spot⟩,(List.range len).map (fun i=>if h:i<len then Classical.choose (key i h).2.2 else⟨0,0⟩),cap,by simp,by simpa using hl,hm,?_⟩
  rcases Nat.eq_zero_or_pos len with h0 | hpos
  ·subst h0;exact .inl rfl
  ·obtain⟨rfl,hb,_⟩:=key 0 hpos
   refine .inr ⟨b,off,rfl,hb,fun i hil=> ?_⟩
   have ajf:i<len:=by simpa using hil
   have:=Classical.choose_spec (key i ajf).2.2
   rw[List.getElem_map,List.getElem_range,dif_pos ajf];exact this
theorem PK{H:Type}{enc:TypeId×Value→H}{W:World}{b0:Nat}{v:Value}{d:DataW H}{p:List MemPlace}
  (hval:Value.okWide Tryz.prog W .any b0 26 v) (h:DataW.Trod enc Tryz.prog W 0 (fun _=>true) true 26 v d p):
  ∃o:Op,v=o.v∧gJ W o.A o.l∧(∀f∈o.l,f.ok)∧o.l.length≤o.c∧o.c≤9223372036854775807∧o.dict<4294967296:=by
 obtain⟨cs,rfl,hsz⟩:=okWide_struct Tryz.underlying26 hval
 rw[Xu]at hsz
 obtain⟨a,b,c,d',e,f,g,i,j,hl⟩:=ahU (l:=cs.toList) (by simpa using hsz)
 obtain⟨fuel,hf⟩:=h
 obtain⟨ys,n',_,_,_,hyl,hfs⟩:=DataW.trod_struct Tryz.underlying26 hf
 have hsome: ∀j,j<9→ys[j]?.isSome=true:=fun j hj=>by
  rw[List.getElem?_eq_getElem (by rw[hyl];exact hj)];rfl
 have hcl:(Value.agg cs).cells.toList.length=9:=by simpa [Value.cells]using hsz
 obtain⟨z0,e0,w0⟩:=iK (j:=0) Tryz.underlying3 (by omega) (hsome 0 (by omega)) (hfs 0 _ rfl)
 obtain⟨z1,e1,w1⟩:=iK (j:=1) Tryz.underlying3 (by omega) (hsome 1 (by omega)) (hfs 1 _ rfl)
 obtain⟨z2,e2,w2⟩:=iK (j:=2) Tryz.underlying3 (by omega) (hsome 2 (by omega)) (hfs 2 _ rfl)
 obtain⟨z3,e3,w3⟩:=iK (j:=3) Tryz.underlying3 (by omega) (hsome 3 (by omega)) (hfs 3 _ rfl)
 obtain⟨z4,e4,w4⟩:=iK (j:=4) Tryz.underlying3 (by omega) (hsome 4 (by omega)) (hfs 4 _ rfl)
 obtain⟨z5,e5,w5⟩:=iK (j:=5) Tryz.underlying3 (by omega) (hsome 5 (by omega)) (hfs 5 _ rfl)
 obtain⟨z6,e6,w6⟩:=iK (j:=6) Tryz.underlying3 (by omega) (hsome 6 (by omega)) (hfs 6 _ rfl)
 obtain⟨z8,e8,w8⟩:=iK (j:=8) Tryz.underlying24 (by omega) (hsome 8 (by omega)) (hfs 8 _ rfl)
 have hce:(Value.agg cs).cells.toList=[a,b,c,d',e,f,g,i,j]:=hl
 obtain⟨y7,hy7⟩:=Option.isSome_iff_exists.1 (hsome 7 (by omega))
 have h7:=hfs 7 _ rfl
 rw[hy7,hce]at h7
 obtain⟨A,l,cc,e7,hlc,hcm,hF⟩:=UL (v:=i) h7
 subst e7
 rw[hce]at e0 e1 e2 e3 e4 e5 e6 e8
 simp only[List.getElem?_cons_zero,List.getElem?_cons_succ,Option.some.injEq]at e0 e1 e2 e3 e4 e5 e6 e8
 subst e0 e1 e2 e3 e4 e5 e6 e8
 refine⟨⟨z0,z1,z2,z3,z4,z5,z6,A,l,cc,(BitVec.ofNat 32 z8.toNat).toNat⟩,?_,hF,?_,hlc,hcm,(BitVec.ofNat 32 z8.toNat).isLt⟩
 ·have e32:=Qw w8
  show Value.agg cs= .agg #[.int .i64 z0,.int .i64 z1,.int .i64 z2,.int .i64 z3,.int .i64 z4,.int .i64 z5,.int .i64 z6,.slice A l.length cc,.int .u32 ((BitVec.ofNat 32 z8.toNat).toNat:Nat)]
  rw[←e32]
  obtain⟨cl⟩:=cs
  have:cl=_:=hl
  subst this
  rfl
 ·intro f hf
  obtain⟨n,hn,rfl⟩:=List.getElem_of_mem hf
  obtain⟨_,_,_,_,hat⟩:=hF.addr (Nat.lt_of_le_of_lt (Nat.zero_le _) hn)
  exact(hat n hn).ok
end
section
def Bo(ge n:Nat){α:Type}(f:PS→α×PS):Prop:= ∀x k,Fair x.1→(aj ge).ok x.2 (k+n)→Fair (f x).2.1∧(aj ge).ok (f x).2.2 k
section
variable{ge n m:Nat}{α β:Type}
theorem nM(a:α):Bo ge 0 (fun x=>(a,x)):=fun _ _ hx h=>⟨hx,h⟩
theorem kR{f:PS→α×PS}(H:Bo ge n f)(h:n≤m):Bo ge m f:=fun x k hx hk=>H x k hx ((aj ge).le hk (by omega))
theorem Hf{f:PS→α×PS}(H:Bo ge n f)(p:α→Prop)(hp: ∀x,p (f x).1){g1:α→PS→β×PS}(K: ∀a,p a→Bo ge m (g1 a)):Bo ge (n+m) (fun x=>g1 (f x).1 (f x).2):=by
 intro x k hx h
 obtain⟨f1,f2⟩:=H x (k+m) hx (by rw[show k+m+n=k+(n+m) by omega];exact h)
 exact K _ (hp x) _ k f1 f2
theorem gG{f:PS→α×PS}(H:Bo ge n f){g1:α→PS→β×PS}(K: ∀a,Bo ge m (g1 a)):Bo ge (n+m) (fun x=>g1 (f x).1 (f x).2):=
 Hf H (fun _=>True) (fun _=>trivial) fun a _=>K a
theorem jk{f:PS→α×PS}(H:Bo ge n f)(φ:α→β):Bo ge n (fun x=>(φ (f x).1,(f x).2)):=fun x k hx h=>H x k hx h
theorem jZ(i:Nat)(b:Bool):Bo ge 1 ((aj ge).au i b):=fun _ _ hx h=>⟨hx.put i b,(aj ge).uF h (hx i)⟩
theorem UM(v m:Nat)(hm:m≤32):Bo ge 32 (fun x=>(((aj ge).plain x.2 v m).1,(x.1,((aj ge).plain x.2 v m).2))):=fun _ _ hx h=>⟨hx,(aj ge).AY h hm⟩
theorem Et(at_:Nat)(v:Int): ∀n m,Bo ge n (Md.dF (aj ge) at_ v n m)
 | 0,m=>nM m
 | n+1,m=>kR (gG (jZ (at_+m) (Md.aG v n)) (g1:=fun a x=>Md.dF (aj ge) at_ v n (2*m+a.toNat) x) fun a=>Et at_ v n (2*m+a.toNat)) (by omega)
theorem yF(at_ n:Nat)(v:Int):Bo ge n (Md.tree (aj ge) at_ n v):=jk (Et at_ v n 1) fun a=>a-2^n
theorem Hg(at_:Nat)(v:Int): ∀k i m g,Bo ge k (Md.jo (aj ge) at_ v k i m g)
 | 0,_,_,g=>nM g
 | k+1,i,m,g=>kR (gG (jZ (at_+m) (Md.aG v i)) (g1:=fun a x=>Md.jo (aj ge) at_ v k (i+1) (2*m+a.toNat) (g+a.toNat*2^i) x) fun a=>Hg at_ v k (i+1) (2*m+a.toNat) (g+a.toNat*2^i)) (by omega)
theorem Rf(at_ n:Nat)(v:Int):Bo ge n (Md.rev (aj ge) at_ n v):=Hg at_ v n 0 1 0
theorem Ji(A p:Nat)(l:Int):Bo ge 10 (Md.len (aj ge) A p l):=by
 refine gG (n:=1) (m:=9) (jZ A (decide (8≤l-2)))
  (g1:=fun a x=>if a=false then(2+(Md.tree (aj ge) (A+2+8*p) 3 (l-2) x).1,(Md.tree (aj ge) (A+2+8*p) 3 (l-2) x).2)
   else
    let z:=(aj ge).au (A+1) (decide (16≤l-2)) x
    if z.1=false then(10+(Md.tree (aj ge) (A+130+8*p) 3 (l-2-8) z.2).1,(Md.tree (aj ge) (A+130+8*p) 3 (l-2-8) z.2).2)
    else(18+(Md.tree (aj ge) (A+258) 8 (l-2-16) z.2).1,(Md.tree (aj ge) (A+258) 8 (l-2-16) z.2).2)) ?_
 intro a
 cases a with
 | false=>exact kR (jk (yF (A+2+8*p) 3 (l-2)) fun a=>2+a) (by omega)
 | true=>
  refine gG (n:=1) (m:=8) (jZ (A+1) (decide (16≤l-2)))
   (g1:=fun a x=>if a=false then(10+(Md.tree (aj ge) (A+130+8*p) 3 (l-2-8) x).1,(Md.tree (aj ge) (A+130+8*p) 3 (l-2-8) x).2)
    else(18+(Md.tree (aj ge) (A+258) 8 (l-2-16) x).1,(Md.tree (aj ge) (A+258) 8 (l-2-16) x).2)) ?_
  intro a
  cases a with
  | false=>exact kR (jk (yF (A+130+8*p) 3 (l-2-8)) fun a=>10+a) (by omega)
  | true=>exact jk (yF (A+258) 8 (l-2-16)) fun a=>18+a
theorem Zv(l:Nat)(dd:Int):Bo ge 42 (Md.dist (aj ge) l dd):=by
 obtain⟨d,hd⟩: ∃d,((dd-1)%4294967296).toNat=d:=⟨_,rfl⟩
 have key:=Hf (n:=6) (m:=36) (yF (ge:=ge) (1460+64*min (l-2) 3) 6 (jq d:Nat)) (fun s=>s<64) (fun x=>(Md.QE (aj ge) _ 6 _ x).2) (g1:=Md.KQ (aj ge) d) fun s hs=>by
  unfold Md.KQ
  by_cases h4:s<4
  ·simp only[if_pos h4]
   exact kR (nM (s+1)) (by omega)
  ·by_cases RZ:s<14
   ·simp only[if_neg h4,if_pos RZ]
    exact kR (jk (Rf (1716+32*s) (s/2-1) (d:Nat)) fun a=>(2+s%2)*2^(s/2-1)+a+1) (by omega)
   ·simp only[if_neg h4,if_neg RZ]
    exact gG (n:=32) (m:=4) (UM (d/16%2^(s/2-1-4)) (s/2-1-4) (by omega))
     (g1:=fun q x=>((2+s%2)*2^(s/2-1)+q%2^(s/2-1-4)*16+(Md.rev (aj ge) 2164 4 (d:Nat) x).1+1,(Md.rev (aj ge) 2164 4 (d:Nat) x).2)) fun q=>
      jk (Rf 2164 4 (d:Nat)) fun a=>(2+s%2)*2^(s/2-1)+q%2^(s/2-1-4)*16+a+1
 subst hd
 exact key
theorem Hl(T like:Nat)(v:Int): ∀n m al,Bo ge n (Md.jA (aj ge) T like v n m al)
 | 0,m,_=>nM m
 | n+1,m,al=>kR (gG (jZ (T+(if al then m+(256+256*(like/2^n%2))else m)) (Md.aG v n)) (g1:=fun a x=>Md.jA (aj ge) T like v n (2*m+a.toNat) (al&&(a.toNat==like/2^n%2)) x) fun a=>Hl T like v n (2*m+a.toNat) (al&&(a.toNat==like/2^n%2))) (by omega)
theorem acQ(lc lp st:Nat)(a:Int)(H:List UInt8)(v:Int):Bo ge 8 (Md.lit (aj ge) lc lp st a H v):=
 jk (Hl (2180+768*yU lc lp H) (Md.qU H a) v 8 1 (decide (7≤st))) fun a=>UInt8.ofNat a
theorem UN(st:Nat)(q:Int):Bo ge 3 (Md.which (aj ge) st q):=by
 refine gG (n:=1) (m:=2) (jZ (204+st) (q !=0))
  (g1:=fun a x=>if a=false then(0,x)else
   let b:=(aj ge).au (216+st) (q !=1) x
   if b.1=false then(1,b.2)else
    let c:=(aj ge).au (228+st) (q !=2) b.2
    (2+c.1.toNat,c.2)) ?_
 intro a
 cases a with
 | false=>exact kR (nM 0) (by omega)
 | true=>
  refine gG (n:=1) (m:=1) (jZ (216+st) (q !=1))
   (g1:=fun b x=>if b=false then(1,x)else
    let c:=(aj ge).au (228+st) (q !=2) x
    (2+c.1.toNat,c.2)) ?_
  intro b
  cases b with
  | false=>exact kR (nM 1) (by omega)
  | true=>exact jk (jZ (228+st) (q !=2)) fun c=>2+c.toNat
theorem Zw(st p:Nat)(l q:Int):Bo ge 14 (Md.ni (aj ge) st p l q):=by
 refine gG (n:=3) (m:=11) (UN st q)
  (g1:=fun a x=>if a=0 then
    let s:=(aj ge).au (240+16*st+p) (l !=1) x
    if s.1=false then((0,1),s.2)else
     let n:=Md.len (aj ge) 946 p l s.2
     ((0,n.1),n.2)
   else
    let n:=Md.len (aj ge) 946 p l x
    ((a,n.1),n.2)) ?_
 intro a
 by_cases h0:a=0
 ·subst h0
  refine gG (n:=1) (m:=10) (jZ (240+16*st+p) (l !=1))
   (g1:=fun s x=>if s=false then((0,1),x)else
     let n:=Md.len (aj ge) 946 p l x
     ((0,n.1),n.2)) ?_
  intro s
  cases s with
  | false=>exact kR (nM (0,1)) (by omega)
  | true=>exact jk (Ji 946 p l) fun n=>(0,n)
 ·simp only[if_neg h0]
  exact kR (jk (Ji 946 p l) fun n=>(a,n)) (by omega)
theorem Zx(lc lp pb st:Nat)(r:R4)(H:List UInt8)(k:Int)(b:UInt8)(l d q:Int):Bo ge 54 (Md.zl (aj ge) lc lp pb st r H k b l d q):=by
 refine gG (n:=1) (m:=53) (jZ (16*st+H.length%2^pb) (k !=0))
  (g1:=fun a x=>if a=false then
    let z:=Md.lit (aj ge) lc lp st r.1 H (b.toNat:Nat) x
    (((⟨0,z.1,0,0,0⟩:Sy),bU st,r),z.2)
   else
    let c:=(aj ge).au (192+st) (k !=1) x
    if c.1=false then
     let n:=Md.len (aj ge) 432 (H.length%2^pb) l c.2
     let z:=Md.dist (aj ge) n.1 d n.2
     (((⟨1,0,n.1,z.1,0⟩:Sy),(if st<7 then 7 else 10:Nat),aS r 3 (z.1:Nat)),z.2)
    else
     let z:=Md.ni (aj ge) st (H.length%2^pb) l q c.2
     (((⟨2,0,z.1.2,0,z.1.1⟩:Sy),(if st<7 then(if z.1.2=1 then 9 else 8)else 11:Nat),aS r z.1.1 (r4 r.1 r.2.1 r.2.2.1 r.2.2.2 z.1.1)),z.2)) ?_
 intro a
 cases a with
 | false=>exact kR (jk (acQ lc lp st r.1 H (b.toNat:Nat)) fun z=>((⟨0,z,0,0,0⟩:Sy),bU st,r)) (by omega)
 | true=>
  refine gG (n:=1) (m:=52) (jZ (192+st) (k !=1))
   (g1:=fun c x=>if c=false then
     let n:=Md.len (aj ge) 432 (H.length%2^pb) l x
     let z:=Md.dist (aj ge) n.1 d n.2
     (((⟨1,0,n.1,z.1,0⟩:Sy),(if st<7 then 7 else 10:Nat),aS r 3 (z.1:Nat)),z.2)
    else
     let z:=Md.ni (aj ge) st (H.length%2^pb) l q x
     (((⟨2,0,z.1.2,0,z.1.1⟩:Sy),(if st<7 then(if z.1.2=1 then 9 else 8)else 11:Nat),aS r z.1.1 (r4 r.1 r.2.1 r.2.2.1 r.2.2.2 z.1.1)),z.2)) ?_
  intro c
  cases c with
  | false=>
   exact gG (n:=10) (m:=42) (Ji 432 (H.length%2^pb) l)
    (g1:=fun n x=>(((⟨1,0,n,(Md.dist (aj ge) n d x).1,0⟩:Sy),(if st<7 then 7 else 10:Nat),aS r 3 ((Md.dist (aj ge) n d x).1:Nat)),(Md.dist (aj ge) n d x).2)) fun n=>
    jk (Zv n d) fun z=>((⟨1,0,n,z,0⟩:Sy),(if st<7 then 7 else 10:Nat),aS r 3 (z:Nat))
  | true=>exact kR (jk (Zw st (H.length%2^pb) l q) fun z=>((⟨2,0,z.2,0,z.1⟩:Sy),(if st<7 then(if z.2=1 then 9 else 8)else 11:Nat),aS r z.1 (r4 r.1 r.2.1 r.2.2.1 r.2.2.2 z.1))) (by omega)
theorem acR{lc lp pb st:Nat}{r:R4}{H:List UInt8}{k l d q:Int}{b:UInt8}{x z:PS}{s':Sy}{st':Nat}{r':R4}{c:Nat}(hx:Fair x.1)(hk:(aj ge).ok x.2 (c+54))(h:Md.sym (aj ge) lc lp pb st r H k b l d q x=(s',st',r',z)):Fair z.1∧(aj ge).ok z.2 c:=by
 have h1:=Zx (ge:=ge) lc lp pb st r H k b l d q x c hx hk
 have e:=(Md.xP (aj ge) lc lp pb st r H k b l d q x).symm.trans h
 have e4:(Md.zl (aj ge) lc lp pb st r H k b l d q x).2=z:=congrArg (fun t=>t.2.2.2) e
 rw[e4]at h1
 exact h1
end
end
section
theorem yG{n cut p:Nat}(hp:p≤4)(hc:cut%16=0)(h:cut≤n):(n-cut)%2^p=n%2^p:=by
 obtain⟨m,rfl⟩: ∃m,cut=16*m:=⟨cut/16,by omega⟩
 have hd:(16:Nat)=2^p*2^(4-p):=by rw[←Nat.pow_add,show p+(4-p)=4 by omega]
 have e:n=(n-16*m)+2^p*(2^(4-p)*m):=by rw[←Nat.mul_assoc,←hd];omega
 conv=>rhs;rw[e]
 rw[Nat.add_mul_mod_self_left]
theorem getD_drop{H:List UInt8}{cut i:Nat}:(H.drop cut).getD i 0=H.getD (cut+i) 0:=by
 simp only[List.getD_eq_getElem?_getD,List.getElem?_drop]
theorem UO{lc lp cut:Nat}{H:List UInt8}(hlp:lp≤4)(hc:cut%16=0)(h:cut<H.length):yU lc lp (H.drop cut)=yU lc lp H:=by
 unfold yU
 rw[List.length_drop,yG hlp hc (by omega),if_pos (by omega),if_pos (by omega),getD_drop,show cut+(H.length-cut-1)=H.length-1 by omega]
theorem PN{cut:Nat}{H:List UInt8}{a:Int}(ha:1≤a)(h:a≤((H.length-cut:Nat):Int))(hc:cut<H.length):Md.qU (H.drop cut) a=Md.qU H a:=by
 unfold Md.qU
 rw[List.length_drop,if_pos h,if_pos (by omega),getD_drop,show cut+(H.length-cut-a.toNat)=H.length-a.toNat by omega]
theorem Zy(io:Io){lc lp pb st cut:Nat}{r:R4}{H:List UInt8}{k:Int}{b:UInt8}{l d q:Int}{x:io.S}(hlp:lp≤4)(hpb:pb≤4)(hr:1≤r.1)(h:cut=0∨(cut%16=0∧cut<H.length∧r.1≤((H.length-cut:Nat):Int))):
  Md.sym io lc lp pb st r (H.drop cut) k b l d q x=Md.sym io lc lp pb st r H k b l d q x:=by
 rcases h with rfl | ⟨h1,h2,h3⟩
 ·rfl
 ·unfold Md.sym Md.lit
  rw[UO hlp h1 h2,PN hr h3 h2,List.length_drop,yG hpb h1 (by omega)]
theorem Eu{H:List UInt8}{cut bk:Nat}(h0:1≤bk)(h:cut+bk≤H.length): ∀l,(iO H bk l).drop cut=iO (H.drop cut) bk l
 | 0=>rfl
 | l+1=>by
  have ih:=Eu (cut:=cut) h0 h l
  have hl:=gZ H bk l
  unfold iO
  rw[List.drop_append_of_le_length (by omega),ih,←ih,List.length_drop,getD_drop,show cut+((iO H bk l).length-cut-bk)=(iO H bk l).length-bk by omega]
def bW(gd o cap:Nat)(L:List UInt8)(lc lp pb:Nat)(dict:Int)(fin:Nat):Nat→List UInt8→Nat→R4→PD→Option (List UInt8×Nat×R4×PD)
 | 0,T,st,r,y=>if fin≤T.length then some (T,st,r,y)else none
 | f+1,T,st,r,y=>
  if fin≤T.length then some (T,st,r,y)
  else if(Md.sym (ak gd o cap L) lc lp pb st r T 0 0 0 0 0 y).2.2.2.2.out=true then none
  else if(Md.sym (ak gd o cap L) lc lp pb st r T 0 0 0 0 0 y).1.k=0 then bW gd o cap L lc lp pb dict fin f (T++[(Md.sym (ak gd o cap L) lc lp pb st r T 0 0 0 0 0 y).1.b]) (Md.sym (ak gd o cap L) lc lp pb st r T 0 0 0 0 0 y).2.1 (Md.sym (ak gd o cap L) lc lp pb st r T 0 0 0 0 0 y).2.2.1 (Md.sym (ak gd o cap L) lc lp pb st r T 0 0 0 0 0 y).2.2.2
  else if min (T.length:Int) dict<(Md.sym (ak gd o cap L) lc lp pb st r T 0 0 0 0 0 y).2.2.1.1∨fin-T.length<(Md.sym (ak gd o cap L) lc lp pb st r T 0 0 0 0 0 y).1.l then none
  else bW gd o cap L lc lp pb dict fin f (iO T (Md.sym (ak gd o cap L) lc lp pb st r T 0 0 0 0 0 y).2.2.1.1.toNat (Md.sym (ak gd o cap L) lc lp pb st r T 0 0 0 0 0 y).1.l) (Md.sym (ak gd o cap L) lc lp pb st r T 0 0 0 0 0 y).2.1 (Md.sym (ak gd o cap L) lc lp pb st r T 0 0 0 0 0 y).2.2.1 (Md.sym (ak gd o cap L) lc lp pb st r T 0 0 0 0 0 y).2.2.2
section
variable{gd o cap:Nat}{L:List UInt8}{lc lp pb:Nat}{dict:Int}{fin:Nat}
theorem mP{f:Nat}{T:List UInt8}{st:Nat}{r:R4}{y:PD}(h:fin≤T.length):bW gd o cap L lc lp pb dict fin f T st r y=some (T,st,r,y):=by
 cases f<;>(unfold bW;rw[if_pos h])
theorem pX{f:Nat}{T:List UInt8}{st:Nat}{r:R4}{y y':PD}{s:Sy}{st':Nat}{r':R4}(h:T.length<fin)(hs:Md.sym (ak gd o cap L) lc lp pb st r T 0 0 0 0 0 y=(s,st',r',y'))(ho:y'.2.out=true):bW gd o cap L lc lp pb dict fin f T st r y=none:=by
 cases f with
 | zero=>unfold bW;rw[if_neg (by omega)]
 | succ f=>unfold bW;rw[if_neg (by omega),hs,if_pos ho]
theorem mQ{f:Nat}{T:List UInt8}{st:Nat}{r:R4}{y y':PD}{s:Sy}{st':Nat}{r':R4}(h:T.length<fin)(hs:Md.sym (ak gd o cap L) lc lp pb st r T 0 0 0 0 0 y=(s,st',r',y'))(ho:y'.2.out=false)(hk:s.k=0):bW gd o cap L lc lp pb dict fin (f+1) T st r y=bW gd o cap L lc lp pb dict fin f (T++[s.b]) st' r' y':=by
 conv=>lhs;unfold bW
 rw[if_neg (by omega),hs,if_neg (by rw[ho];decide),if_pos hk]
theorem pY{f:Nat}{T:List UInt8}{st:Nat}{r:R4}{y y':PD}{s:Sy}{st':Nat}{r':R4}(h:T.length<fin)(hs:Md.sym (ak gd o cap L) lc lp pb st r T 0 0 0 0 0 y=(s,st',r',y'))(hk:s.k≠0)(hb:min (T.length:Int) dict<r'.1∨fin-T.length<s.l):bW gd o cap L lc lp pb dict fin f T st r y=none:=by
 cases f with
 | zero=>unfold bW;rw[if_neg (by omega)]
 | succ f=>
  unfold bW
  rw[if_neg (by omega),hs]
  by_cases ho:y'.2.out=true
  ·rw[if_pos ho]
  ·rw[if_neg ho,if_neg hk,if_pos hb]
theorem mV{f:Nat}{T:List UInt8}{st:Nat}{r:R4}{y y':PD}{s:Sy}{st':Nat}{r':R4}(h:T.length<fin)(hs:Md.sym (ak gd o cap L) lc lp pb st r T 0 0 0 0 0 y=(s,st',r',y'))(ho:y'.2.out=false)(hk:s.k≠0)(hb: ¬(min (T.length:Int) dict<r'.1∨fin-T.length<s.l)):bW gd o cap L lc lp pb dict fin (f+1) T st r y=bW gd o cap L lc lp pb dict fin f (iO T r'.1.toNat s.l) st' r' y':=by
 conv=>lhs;unfold bW
 rw[if_neg (by omega),hs,if_neg (by rw[ho];decide),if_neg hk,if_neg hb]
end
end
section
def Ew(r:R4):Prop:=1≤r.1∧1≤r.2.1∧1≤r.2.2.1∧1≤r.2.2.2
theorem Ew.at{r:R4}(h:Ew r)(n:Nat):1≤r4 r.1 r.2.1 r.2.2.1 r.2.2.2 n:=by
 obtain⟨a,b,c,d⟩:=h
 match n with
 | 0=>exact a
 | 1=>exact b
 | 2=>exact c
 | n+3=>exact d
theorem Ew.front{r:R4}(h:Ew r){n:Nat}{d:Int}(h1:1≤d):Ew (aS r n d):=by
 obtain⟨a,b,c,e⟩:=h
 match n with
 | 0=>exact⟨h1,b,c,e⟩
 | 1=>exact⟨h1,a,c,e⟩
 | 2=>exact⟨h1,a,b,e⟩
 | n+3=>exact⟨h1,a,b,c⟩
theorem Zz(io:Io)(l:Nat)(dd:Int)(x:io.S):1≤(Md.dist io l dd x).1:=by
 unfold Md.dist
 simp only
 split
 ·exact Nat.le_add_left _ _
 ·split
  ·exact Nat.le_add_left _ _
  ·exact Nat.le_add_left _ _
theorem ZA{io:Io}{lc lp pb st:Nat}{r:R4}{H:List UInt8}{k l d q:Int}{b:UInt8}{x:io.S}(h:Ew r):Ew (Md.sym io lc lp pb st r H k b l d q x).2.2.1:=by
 unfold Md.sym
 simp only
 split
 ·exact h
 ·split
  ·exact h.front (by have:=Zz io (Md.len io 432 (H.length%2^pb) l (io.au (192+st) (k !=1) (io.au (16*st+H.length%2^pb) (k !=0) x).2).2).1 d (Md.len io 432 (H.length%2^pb) l (io.au (192+st) (k !=1) (io.au (16*st+H.length%2^pb) (k !=0) x).2).2).2;omega)
  ·exact h.front (h.at _)
theorem Jj(io:Io)(A p:Nat)(l:Int)(x:io.S):1≤(Md.len io A p l x).1:=by
 unfold Md.len
 simp only
 split
 ·omega
 ·split
  ·omega
  ·omega
theorem ZB(io:Io)(st p:Nat)(l q:Int)(x:io.S):1≤(Md.ni io st p l q x).1.2:=by
 unfold Md.ni
 simp only
 split
 ·split
  ·exact Nat.le_refl 1
  ·exact Jj _ _ _ _ _
 ·exact Jj _ _ _ _ _
theorem ZC{io:Io}{lc lp pb st:Nat}{r:R4}{H:List UInt8}{k l d q:Int}{b:UInt8}{x:io.S}(h:(Md.sym io lc lp pb st r H k b l d q x).1.k≠0):1≤(Md.sym io lc lp pb st r H k b l d q x).1.l:=by
 revert h
 unfold Md.sym
 simp only
 split
 ·intro h;exact absurd rfl h
 ·split
  ·intro _;exact Jj _ _ _ _ _
  ·intro _;exact ZB _ _ _ _ _ _
theorem PO{gd o cap:Nat}{L:List UInt8}{lc lp pb cut:Nat}{dict:Int}{fin:Nat}(hlp:lp≤4)(hpb:pb≤4): ∀(f:Nat) (H:List UInt8) (st:Nat) (r:R4) (y:PD),Ew r→(cut=0∨(cut%16=0∧cut<H.length∧r.1≤((H.length-cut:Nat):Int)∧dict≤((H.length-cut:Nat):Int)))→
  bW gd o cap L lc lp pb dict fin f (H.drop cut) st r y=(bW gd o cap L lc lp pb dict (fin+cut) f H st r y).map fun q=>(q.1.drop cut,q.2):=by
 intro f
 induction f with
 | zero=>
  intro H st r y hr hc
  have hl:(H.drop cut).length=H.length-cut:=List.length_drop
  have hcl:cut≤H.length:=by omega
  unfold bW
  by_cases h:fin≤H.length-cut
  ·rw[if_pos (by rw[hl];exact h),if_pos (by omega)];rfl
  ·rw[if_neg (by rw[hl];exact h),if_neg (by omega)];rfl
 | succ f ih=>
  intro H st r y hr hc
  have hl:(H.drop cut).length=H.length-cut:=List.length_drop
  have hcl:cut≤H.length:=by omega
  have hs:=Zy (ak gd o cap L) (lc:=lc) (lp:=lp) (pb:=pb) (st:=st) (cut:=cut) (r:=r) (H:=H) (k:=0) (b:=0) (l:=0) (d:=0) (q:=0) (x:=y) hlp hpb hr.1 (by omega)
  obtain⟨⟨s,st',r',y'⟩,ht⟩: ∃t,Md.sym (ak gd o cap L) lc lp pb st r H 0 0 0 0 0 y=t:=⟨_,rfl⟩
  have hr':Ew r':=by have:=ZA (io:=ak gd o cap L) (lc:=lc) (lp:=lp) (pb:=pb) (st:=st) (H:=H) (k:=0) (l:=0) (d:=0) (q:=0) (b:=0) (x:=y) hr;rw[ht]at this;exact this
  rw[ht]at hs
  by_cases h:fin≤H.length-cut
  ·rw[mP (by rw[hl];exact h),mP (by omega)];rfl
  ·have h1:(H.drop cut).length<fin:=by rw[hl];omega
   have h2:H.length<fin+cut:=by omega
   by_cases ho:y'.2.out=true
   ·rw[pX h1 hs ho,pX h2 ht ho];rfl
   ·have ho':y'.2.out=false:=by simpa using ho
    by_cases hk:s.k=0
    ·rw[mQ h1 hs ho' hk,mQ h2 ht ho' hk]
     have e:H.drop cut++[s.b]=(H++[s.b]).drop cut:=by rw[List.drop_append_of_le_length hcl]
     rw[e]
     refine ih (H++[s.b]) st' r' y' hr' ?_
     rcases hc with hc | ⟨c1,c2,c3,c4⟩
     ·exact .inl hc
     ·have e2:r'=r:=by
       have hz:(Md.sym (ak gd o cap L) lc lp pb st r H 0 0 0 0 0 y).1.k=0→(Md.sym (ak gd o cap L) lc lp pb st r H 0 0 0 0 0 y).2.2.1=r:=by
        unfold Md.sym
        simp only
        split
        ·intro _;rfl
        ·split
         ·intro h;simp at h
         ·intro h;simp at h
       rw[ht]at hz
       exact hz hk
      rw[e2]
      refine .inr ⟨c1,?_,?_,?_⟩<;>rw[List.length_append,List.length_singleton]<;>omega
    ·by_cases hb:min ((H.drop cut).length:Int) dict<r'.1∨fin-(H.drop cut).length<s.l
     ·have hb2:min (H.length:Int) dict<r'.1∨fin+cut-H.length<s.l:=by rw[hl]at hb;omega
      rw[pY h1 hs hk hb,pY h2 ht hk hb2];rfl
     ·have hb2: ¬(min (H.length:Int) dict<r'.1∨fin+cut-H.length<s.l):=by rw[hl]at hb;omega
      rw[mV h1 hs ho' hk hb,mV h2 ht ho' hk hb2]
      have h1r:=hr'.1
      rw[hl]at hb
      rw[←Eu (by omega) (by omega)]
      have hgl:=gZ H r'.1.toNat s.l
      refine ih (iO H r'.1.toNat s.l) st' r' y' hr' ?_
      rcases hc with hc | ⟨c1,c2,c3,c4⟩
      ·exact .inl hc
      ·refine .inr ⟨c1,?_,?_,?_⟩<;>rw[hgl]<;>omega
section
variable{g lc lp pb:Nat}{ss:List Sy}{M:Nat→KU}{L:List UInt8}{gd o cap:Nat}{dict:Int}{fin:Nat}
theorem Link.front{a b:KU}{s:Sy}(h:Link g lc lp pb a s b)(hk:s.k≠0):b.r.1=jU a.r (s.k:Nat) (s.d:Nat) (s.r:Nat):=by
 rw[h.r]
 have h2:=h.k
 have h3:=h.q
 rcases(by omega:s.k=1∨s.k=2)with e | e
 ·rw[e];simp[jK,jU]
 ·rw[e]
  rcases(by omega:s.r=0∨s.r=1∨s.r=2∨s.r=3)with e | e | e | e<;>rw[e]<;>simp[jK,jU,QN,r4]
theorem Link.grows{a b:KU}{s:Sy}(h:Link g lc lp pb a s b):b.H.length=a.H.length+(if s.k=0 then 1 else s.l):=by
 obtain⟨bk,_,_,hH⟩:=h.hist
 rw[hH]
 unfold growS
 by_cases hk:s.k=0
 ·rw[if_pos (by omega),if_pos hk];simp
 ·rw[if_neg (by omega),if_neg hk,gZ]
theorem Chain.longer(h:Chain g lc lp pb ss M): ∀d t,t+d≤ss.length→(M t).H.length+d≤(M (t+d)).H.length
 | 0,_,_=>Nat.le_refl _
 | d+1,t,ht=>by
  have h1:=h.longer d t (by omega)
  have hl:=h (t+d) (by omega)
  have h2:=hl.grows
  have h3:=hl.pos
  show(M t).H.length+(d+1)≤(M (t+d+1)).H.length
  split at h2
  ·omega
  ·rename_i hk;have:=h3 hk;omega
theorem Chain.reads(h:Chain g lc lp pb ss M)(h0:Fair (M 0).x.1)(hok:(M ss.length).x.2.ok)(hL:L=Rc.be (5+(M ss.length).x.2.k) (M ss.length).x.2.v){y:PD}(hs:Yb (M ss.length).x.2 L (M 0).x y):
  ∀t,(ht:t≤ss.length)→(∀i (hi:i<t),(M (i+1)).H.length≤fin∧(ss[i].k≠0→jU (M i).r (ss[i].k:Nat) (ss[i].d:Nat) (ss[i].r:Nat)≤dict))→
   ∃y',Yb (M ss.length).x.2 L (M t).x y'∧ ∀f,bW gd o cap L lc lp pb dict fin (f+t) (M 0).H (M 0).st (M 0).r y=bW gd o cap L lc lp pb dict fin f (M t).H (M t).st (M t).r y':=by
 intro t
 induction t with
 | zero=>intro _ _;exact⟨y,hs,fun f=>rfl⟩
 | succ t ih=>
  intro ht hc
  obtain⟨y1,hs1,hf1⟩:=ih (by omega) (fun i hi=>hc i (by omega))
  obtain⟨z,hz,hsz⟩:=h.back h0 hok hL gd o cap (show t<ss.length by omega) hs1
  obtain⟨c1,c2⟩:=hc t (by omega)
  have hl:=h t (by omega)
  obtain⟨bk,hbk,hbk1,hH⟩:=hl.hist
  have hin:=(h.inside h0 (ss.length-(t+1)) (t+1) (by omega)).1
  have hout:z.2.out=false:=by
   have:=hsz.2.1 (by rw[hL,Rc.dJ];omega)
   rw[this]
  have hg:=hl.grows
  have hp:=hl.pos
  refine⟨z,hsz,fun f=> ?_⟩
  rw[show f+(t+1)=(f+1)+t by omega,hf1 (f+1)]
  by_cases hk:ss[t].k=0
  ·rw[if_pos hk]at hg
   rw[mQ (by omega) hz hout hk]
   have e:(M t).H++[ss[t].b]=(M (t+1)).H:=by rw[hH];unfold growS;rw[if_pos (by omega)]
   rw[e]
  ·rw[if_neg hk]at hg
   have hfr:=hl.front hk
   have hk':((ss[t].k:Nat):Int)≠0:=by omega
   have hb1:=hbk1 hk'
   have hdd:=c2 hk
   have hp1:=hp hk
   rw[mV (by omega) hz hout hk (by rw[hfr,hbk];rw[hbk]at hdd;omega)]
   have e:iO (M t).H (M (t+1)).r.1.toNat ss[t].l=(M (t+1)).H:=by rw[hH,hfr,hbk];unfold growS;rw[if_neg hk',Int.toNat_natCast]
   rw[e]
end
end
end Go.Proofs.YtgfpocdiojifoaaGreatDoor
