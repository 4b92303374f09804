import Derived.Deep.RegionHeld3
import Derived.Deep.DeepCutAuto
import Derived.Test.YtgfpocdiojifoaaGreatDoorZ04
namespace Go.Proofs.YtgfpocdiojifoaaGreatDoor
set_option maxRecDepth 100000
set_option maxHeartbeats 8000000
open Go.RowKit Go.Proofs.Tryz
variable{lc lp pb st:Int}{Y:List Nat}{l:List Value}{C N at_ base cap fO g h k n o:Nat}{fr:Nat×Nat}{s:Rc.St}{t:TypeId}{a b v:Value}{w:World}
section
def aA(st k l:Int):Int:=
 if k=0 then(if st<4 then 0 else if st<10 then st-3 else st-6)
 else if k=1 then(if 7≤st then 10 else 7)
 else if 7≤st then 11 else if l=1 then 9 else 8
def cT(r:R4)(k d q:Int):R4:=
 if k=0 then r
 else if k=1 then(d,r.1,r.2.1,r.2.2.1)
 else if q=0 then r
 else if q=1 then(r.2.1,r.1,r.2.2.1,r.2.2.2)
 else if q=2 then(r.2.2.1,r.1,r.2.1,r.2.2.2)
 else(r.2.2.2,r.1,r.2.1,r.2.2.1)
section
variable{w w':World}{C base:Nat}{lc lp pb st:Int}{r:R4}{P P':List Nat}{vR vP vP':Value}
theorem bW.setState(h:bW w C base lc lp pb st r P vR vP)(st':Int):bW (w.setCell ⟨C,3,none⟩ (.int .i64 st')) C base lc lp pb st' r P vR vP:=
 ⟨heap_set h.box 3 _,h.fh.setOther h.PN _,h.ps.setOther h.BJ _⟩
theorem bW.Ke(h:bW w C base lc lp pb st r P vR vP){G2:Value}{r':R4}(ho:aP 3 base w G2 (Tv r')):bW (w.setCell ⟨C,4,none⟩ G2) C base lc lp pb st r' P G2 vP:=
 ⟨heap_set h.box 4 _,ho.setOther (ho.apart h.box an) _,h.ps.setOther h.BJ _⟩
end
theorem f7{w w':World}{C:Nat}(h:Below w.heap.size w w'):w.grownBy w' (some C):=⟨h.os,h.tape,h.output,h.size,fun k hk _=>h.block k hk⟩
theorem wX{w a b:World}{C:Nat}(h:w.grownBy a (some C))(k:a.grownBy b (some C)):w.grownBy b (some C):=
 ⟨k.os.trans h.os,k.tape.trans h.tape,k.output.trans h.output,Nat.le_trans h.size k.size,fun i hi dr=>(k.block i (Nat.lt_of_lt_of_le hi h.size) dr).trans (h.block i hi dr)⟩
theorem dx{w a:World}{C:Nat}(h:w.grownBy a (some C))(i:Nat)(v:Value):w.grownBy (a.setCell ⟨C,i,none⟩ v) (some C):=
 ⟨h.os,h.tape,h.output,by have:=h.size;simpa [World.setCell]using this,fun k hk dr=>(ag _ _ _ _ (fun e=>dr (by rw[e]))).trans (h.block k hk dr)⟩
def rN(C base:Nat)(lc lp pb st:Int)(r:R4)(P:List Nat)(vP:Value)(w:World)(e:Ending)(w':World):Prop:= ∃G2,e= .returned (.tuple #[])∧bW w' C base lc lp pb st r P G2 vP∧w.grownBy w' (some C)
def lJ(C base:Nat)(lc lp pb st:Int)(r:R4)(P:List Nat)(vR vP:Value)(w:World)(e:Ending)(w':World):Prop:= ∃G2,e= .returned (.tuple #[])∧bW w' C base lc lp pb st r P G2 vP∧w.grownBy w' (some C)∧(G2=vR∨ ∀g,G2.ownBlock=some g→w.heap.size≤g)
theorem lJ.done{C base:Nat}{lc lp pb st:Int}{r:R4}{P:List Nat}{vR vP:Value}{w:World}{e:Ending}{w':World}(h:lJ C base lc lp pb st r P vR vP w e w'):rN C base lc lp pb st r P vP w e w':=by obtain⟨v,h1,h2,h3,_⟩:=h;exact⟨v,h1,h2,h3⟩
theorem rO(C base:Nat)(lc lp pb st:Int)(r:R4)(P:List Nat)(vR vP:Value)(b:UInt8)(l d q:Int)(w:World)(hC:bW w C base lc lp pb st r P vR vP)(h0:0≤st)(h1:st≤11):
  Calls prog 134 #[PF C,j2 0 b l d q] w (lJ C base lc lp pb (aA st 0 l) r P vR vP w):=by
 have⟨S,hS⟩:=ex (aA st 0 l);rw[hS];have HS:=hdd hS;have HC:=hdd hC;clear hS hC;go_enter func134,ntmps134;go_upto_region 1 with fail;have⟨W1,dE⟩:=ex (w.alloc (.cells #[.int .i64 0,.int .u8 (b.toNat:Nat),.int .i64 l,.int .i64 d,.int .i64 q] 158));rw[dE];obtain⟨y0,y1,y2,y3,y4,fg⟩:=tm dE;have C9:=HC.out.below (fg.mono (Nat.le_refl _));obtain⟨c3,c4,c5,fz,_⟩:=C9.cells;have fz3:=fz 3;have yX:=hdd C9;have oX:Hid (w.grownBy W1 (some C)):=hdd (f7 fg);clear dE C9 fz fg;by_cases s4:st<4
 ·have fE:Hid (S=0):=hdd (by rw[←HS.out];unfold aA;rw[if_pos rfl,if_pos s4]);go_wp2_with fail;refine bodyPost_ret (v:= .tuple #[]) mg rfl ⟨vR,rfl,?_,?_,.inl rfl⟩;·rw[fE.out];exact yX.out.setState _
  ·exact dx oX.out 3 _
 ·by_cases N0:st<10
  ·have fE:Hid (S=st-3):=hdd (by rw[←HS.out];unfold aA;rw[if_pos rfl,if_neg s4,if_pos N0]);go_wp2_with fail;refine bodyPost_ret (v:= .tuple #[]) mg rfl ⟨vR,rfl,?_,?_,.inl rfl⟩;·rw[fE.out];exact yX.out.setState _
   ·exact dx oX.out 3 _
  ·have fE:Hid (S=st-6):=hdd (by rw[←HS.out];unfold aA;rw[if_pos rfl,if_neg s4,if_neg N0]);go_wp2_with fail;refine bodyPost_ret (v:= .tuple #[]) mg rfl ⟨vR,rfl,?_,?_,.inl rfl⟩;·rw[fE.out];exact yX.out.setState _
   ·exact dx oX.out 3 _
theorem D7(C base:Nat)(lc lp pb st:Int)(r:R4)(P:List Nat)(vR vP:Value)(b:UInt8)(l d q:Int)(w:World)(hC:bW w C base lc lp pb st r P vR vP)(h0:0≤st)(h1:st≤11):
  Calls prog 134 #[PF C,j2 0 b l d q] w (rN C base lc lp pb (aA st 0 l) r P vP w):=
 (rO C base lc lp pb st r P vR vP b l d q w hC h0 h1).mono fun _ _ h=>h.done
theorem nQ(C base:Nat)(lc lp pb st:Int)(r:R4)(P:List Nat)(vR vP:Value)(b:UInt8)(l d q:Int)(w:World)(hC:bW w C base lc lp pb st r P vR vP)(aT:base≤w.heap.size):
  Calls prog 134 #[PF C,j2 1 b l d q] w (lJ C base lc lp pb (aA st 1 l) (d,r.1,r.2.1,r.2.2.1) P vR vP w):=by
 have⟨S,hS⟩:=ex (aA st 1 l);rw[hS];have HS:=hdd hS;have HC:=hdd hC;have C5:=hdd aT;clear hS hC aT;go_enter func134,ntmps134;go_upto_region 1 with fail;have⟨W1,dE⟩:=ex (w.alloc (.cells #[.int .i64 1,.int .u8 (b.toNat:Nat),.int .i64 l,.int .i64 d,.int .i64 q] 158));rw[dE];obtain⟨y0,y1,y2,y3,y4,fg⟩:=tm dE;have C9:=HC.out.below (fg.mono (Nat.le_refl _));obtain⟨c3,c4,c5,fz,g,cap,rfl,DO,uz,x0,x1,x2,x3,Lm,qc⟩:=C9.cells;have ajD:(4:Int)≤(cap:Int):=aa;have fz3:=fz 3;have fz4:=fz 4;have yX:=hdd C9;have oX:Hid (w.grownBy W1 (some C)):=hdd (f7 fg);have nu:Hid (w.heap.size≤W1.heap.size):=hdd fg.size;clear dE C9 fz fg;have⟨W2,jT⟩:=ex (W1.alloc (.cells #[.int .i64 d,.int .i64 r.1,.int .i64 r.2.1,.int .i64 r.2.2.1] 3));have aE:Below W1.heap.size W1 W2:=vK;have aD:aP 3 base W2 (.slice (some ⟨W1.heap.size,0,none⟩) 4 4) (Tv (d,r.1,r.2.1,r.2.2.1)):=by rw[←jT];exact aP.lit 3 W1 (Tv (d,r.1,r.2.1,r.2.2.1)) (Nat.le_trans C5.out (ar nu.out)) (by show 4≤_;decide)
 have hC2:=yX.out.below aE;obtain⟨_,k4,_,kz,_⟩:=hC2.cells;have kz4:=kz 4;rw[←jT]at k4 kz4;have P5:=hdd hC2;have y9:=hdd aD;have dY:Hid (w.grownBy W2 (some C)):=hdd (wX oX.out (f7 aE));have vk:=hdd jT;clear kz hC2 aD aE jT;go_wp2_with fail;go_region;rw[vk.out];have⟨W3,jD⟩:=ex ((W2.setCell ⟨C,4,none⟩ (.slice (some ⟨W1.heap.size,0,none⟩) 4 4)).drew);rw[jD];have uK:bW W3 C base lc lp pb st (d,r.1,r.2.1,r.2.2.1) P (.slice (some ⟨W1.heap.size,0,none⟩) 4 4) vP:=by have h:=P5.out.Ke y9.out;rw[←jD];exact⟨h.box,h.fh,h.ps⟩
 have nR:w.grownBy W3 (some C):=by have h:=dx dY.out 4 (.slice (some ⟨W1.heap.size,0,none⟩) 4 4);rw[←jD];exact⟨h.os,h.tape,h.output,h.size,h.block⟩
 obtain⟨j3,_,_,jz,_⟩:=uK.cells;have jz3:=jz 3;have F1:=hdd uK;have fc:=hdd nR;clear jz uK nR jD;by_cases s7:7≤st
 ·have fE:Hid (S=10):=hdd (by rw[←HS.out];unfold aA;rw[if_neg an,if_pos rfl,if_pos s7]);go_wp2_with fail;refine bodyPost_ret (v:= .tuple #[]) mg rfl ⟨.slice (some ⟨W1.heap.size,0,none⟩) 4 4,rfl,?_,?_,.inr (fun g e=>by injection e with e;subst e;exact nu.out)⟩;·rw[fE.out];exact(F1.out.setState 7).setState 10
  ·exact dx (dx fc.out 3 _) 3 _
 ·have fE:Hid (S=7):=hdd (by rw[←HS.out];unfold aA;rw[if_neg an,if_pos rfl,if_neg s7]);go_wp2_with fail;refine bodyPost_ret (v:= .tuple #[]) mg rfl ⟨.slice (some ⟨W1.heap.size,0,none⟩) 4 4,rfl,?_,?_,.inr (fun g e=>by injection e with e;subst e;exact nu.out)⟩;·rw[fE.out];exact F1.out.setState 7
  ·exact dx fc.out 3 _
theorem zd(C base:Nat)(lc lp pb st:Int)(r:R4)(P:List Nat)(vR vP:Value)(b:UInt8)(l d q:Int)(w:World)(hC:bW w C base lc lp pb st r P vR vP)(aT:base≤w.heap.size):
  Calls prog 134 #[PF C,j2 1 b l d q] w (rN C base lc lp pb (aA st 1 l) (d,r.1,r.2.1,r.2.2.1) P vP w):=
 (nQ C base lc lp pb st r P vR vP b l d q w hC aT).mono fun _ _ h=>h.done
end
abbrev R4.at(r:R4):Nat→Int:=r4 r.1 r.2.1 r.2.2.1 r.2.2.2
def px(r:R4)(q i:Nat):List Value:= .int .i64 (r.at q)::((List.range i).filter fun j=>j !=q).map fun j=> .int .i64 (r.at j)
theorem zS(r:R4)(q i:Nat):px r q (i+1)=px r q i++(if i=q then []else [.int .i64 (r.at i)]):=by
 unfold px;rw[List.range_succ,List.filter_append,List.map_append,List.cons_append];congr 2;by_cases h:i=q;·simp[h]
 ·simp[h]
theorem P6(r:R4)(q i:Nat):0<(px r q i).length∧(px r q i).length≤i+1:=by unfold px;have:=List.length_filter_le (fun j=>j !=q) (List.range i);simp at this ⊢;exact this
theorem P7(r:R4)(q:Nat)(hq:q≤3)(d:Int):px r q 4=Tv (cT r 2 d (q:Nat)):=by rcases(by omega:q=0∨q=1∨q=2∨q=3)with rfl | rfl | rfl | rfl<;>rfl
theorem bW.atR{r:R4}{P:List Nat}{vR vP:Value}(h:bW w C base lc lp pb st r P vR vP):
  ∃g cap,vR= .slice (some ⟨g,0,none⟩) 4 cap∧4≤cap∧cap≤9223372036854775807∧(∀i,i<4→w.cell? ⟨g,i,none⟩=some (.int .i64 (r.at i))):=by
 obtain⟨_,_,_,_,g,cap,e,h1,h2,x0,x1,x2,x3,_⟩:=h.cells;refine⟨g,cap,e,h1,h2,fun i hi=> ?_⟩;match i,hi with
 | 0,_=>exact x0
 | 1,_=>exact x1
 | 2,_=>exact x2
 | 3,_=>exact x3
theorem aP.weaken(h:aP t base w v l)(hb:fO≤base):aP t fO w v l:=by
 rcases h with⟨h1,h2 | ⟨g,cap,cur,h2,h3,h4⟩⟩
 ·exact⟨h1,.inl h2⟩
 ·exact⟨h1,.inr ⟨g,cap,cur,h2,Nat.le_trans hb h3,h4⟩⟩
theorem iq(C base:Nat)(lc lp pb st:Int)(r:R4)(P:List Nat)(vR vP:Value)(b:UInt8)(l d:Int)(q:Nat)(w:World)(hC:bW w C base lc lp pb st r P vR vP)(aT:base≤w.heap.size)(hq:q≤3):
  Calls prog 134 #[PF C,j2 2 b l d (q:Nat)] w (lJ C base lc lp pb (aA st 2 l) (cT r 2 d (q:Nat)) P vR vP w):=by
 have⟨S,hS⟩:=ex (aA st 2 l);rw[hS];have HE:=hdd (P7 r q hq d);obtain⟨RA,ZC⟩: ∃R,cT r 2 d (q:Nat)=R:=⟨_,rfl⟩
 rw[ZC]at HE ⊢;have HS:=hdd hS;have HC:=hdd hC;have C5:=hdd aT;have hqi:(q:Int)≤3:=aa;have hq4:(q:Int)<4:=aa;obtain⟨g,cap,rfl,DO,uz,_⟩:=hC.atR;have ajD:(4:Int)≤(cap:Int):=aa;have HX:=hdd (fun(W:World) (v:Value) (h:bW W C base lc lp pb st r P (.slice (some ⟨g,0,none⟩) 4 cap) v)=>(show ∀i,i<4→W.cell? ⟨g,i,none⟩=some (.int .i64 (r.at i))from by
  obtain⟨g',bw,e,_,_,hx⟩:=h.atR;injection e with e _ _;injection e with e;injection e with e;subst e;exact hx))
 clear hS hC aT ZC;go_enter func134,ntmps134;go_upto_region 1 with fail;have⟨W1,dE⟩:=ex (w.alloc (.cells #[.int .i64 2,.int .u8 (b.toNat:Nat),.int .i64 l,.int .i64 d,.int .i64 (q:Nat)] 158));rw[dE];obtain⟨y0,y1,y2,y3,y4,fg⟩:=tm dE;have C9:=HC.out.below (fg.mono (Nat.le_refl _));obtain⟨c3,c4,c5,fz,_⟩:=C9.cells;have xq:=HX.out W1 _ C9 q aa;have yX:=hdd C9;have oX:Hid (w.grownBy W1 (some C)):=hdd (f7 fg);have nu:Hid (w.heap.size<W1.heap.size):=hdd vJ;have Tq:Hid (∃t,W1.heap[w.heap.size]? =some (.cells [.int .i64 2,.int .u8 (b.toNat:Nat),.int .i64 l,.int .i64 d,.int .i64 (q:Nat)].toArray t (0,0))):=hdd ⟨_,Gd⟩;clear dE C9 fz fg;obtain⟨rq,hrq⟩: ∃x,r.at q=x:=⟨_,rfl⟩
 rw[hrq]at xq;have HRQ:=hdd hrq;clear hrq;go_upto_region 3 with fail;go_region;have⟨W2,jT⟩:=ex ((W1.alloc (.cells #[.int .i64 rq] 3)).drew);rw[jT];have aE:Below W1.heap.size W1 W2:=by rw[←jT];have h:=(Below.refl W1.heap.size W1).alloc (Nat.le_refl _) (.cells #[.int .i64 rq] 3);exact⟨h.os,h.tape,h.output,h.size,h.block⟩
 have aD:aP 3 W1.heap.size W2 (.slice (some ⟨W1.heap.size,0,none⟩) 1 1) (px r q 0):=by
  rw[←jT];have e:px r q 0=[.int .i64 rq]:=by rw[←HRQ.out];rfl
  rw[e];exact(aP.lit 3 W1 [.int .i64 rq] (Nat.le_refl _) (by show 1≤_;decide)).drew
 have dY:=hdd aE;have vi:=hdd aD;clear jT aE aD y0 y1 y2 y3 y4 c3 c4 c5 xq;have HQI:Hid (∀i:Nat,i≠q→((i:Int) !=(q:Int))=true∧((i:Int)==(q:Int))=false):=hdd (fun i h=>by
  refine⟨bne_iff_ne.2 (fun e=>h aa),beq_eq_false_iff_ne.2 (fun e=>h aa)⟩)
 have ajG:=hdd (fun(W:World) (hb:Below W1.heap.size W1 W)=>(show W.cell? ⟨w.heap.size,4,none⟩=some (.int .i64 (q:Nat))∧W.cell? ⟨w.heap.size,2,none⟩=some (.int .i64 l)from by
  obtain⟨t,h⟩:=Tq.out;have e:=(hb.block _ nu.out).trans h;exact⟨by rw[cell_of_row W _ _ _ _ _ e];rfl,by rw[cell_of_row W _ _ _ _ _ e];rfl⟩))
 go_wp2_with fail;go_loopw [5,6] (fun v i wr=> ∃(n:Nat) (vv:Value),n≤4∧vv=v∧i= .int .i64 (n:Nat)∧Hid (aP 3 W1.heap.size wr vv (px r q n))∧Hid (Below W1.heap.size W1 wr)) (fun _ i _=>4-(intOf i).toNat);case atStart=>exact⟨0,_,aa,rfl,rfl,vi,dY⟩
 case round=>
  obtain⟨n,v,hn,rfl,rfl,HO,dV⟩:=hrel;obtain⟨y4,y2⟩:=ajG.out wr dV.out;have Xv:=yX.out.below dV.out;obtain⟨c3,c4,c5,fz,_⟩:=Xv.cells;by_cases ZD:n<4
  ·have sO:(n:Int)<4:=(by omega);have xn:=HX.out wr _ Xv n ZD;by_cases UY:n=q;·have e1:((n:Int) !=(q:Int))=false:=(by rw[UY];simp);have e2:((n:Int)==(q:Int))=true:=(by rw[UY];simp);have ajH:Hid (aP 3 W1.heap.size wr v (px r q (n+1))):=hdd (by rw[zS,if_pos UY,List.append_nil];exact HO.out);clear UY;go_wp2_with fail;exact⟨⟨n+1,_,aa,rfl,aq,ajH,dV⟩,gt⟩
   ·obtain⟨e1,e2⟩:=HQI.out n UY;obtain⟨rn,P8⟩: ∃x,r.at n=x:=⟨_,rfl⟩
    rw[P8]at xn;have⟨W3,jD⟩:=ex (wr.alloc (.cells #[.int .i64 rn] 3));have bj:aP 3 W1.heap.size W3 v (px r q n):=(by rw[←jD];exact HO.out.alloc _);have rE: ∀i (h:i<[Value.int .i64 rn].length),W3.cell? ⟨wr.heap.size,i,none⟩=some [Value.int .i64 rn][i]:=(by rw[←jD];exact gE wr _ _);have aW:Below W1.heap.size W1 W3:=(by rw[←jD];exact dV.out.alloc dV.out.size _);have hlen:=(P6 r q n).2;have C7:=hdd jD;have y9:=hdd bj;have Bw:=hdd rE;have fc:=hdd aW;have ee:Hid ((px r q n).length≤5):=hdd aa;have ajI:Hid (px r q (n+1)=px r q n++[.int .i64 rn]):=hdd (by rw[zS,if_neg UY,P8]);clear jD bj rE aW hlen P8 UY fz Xv;go_wp2_with (at_builtin;rw[C7.out];refine a8 adf rfl (.tmp 31) (.tmp 39) rfl W1.heap.size W3 v _ rfl y9.out wr.heap.size 1 1 [.int .i64 rn] rfl rfl Bw.out sV (ar ee.out) (ar ee.out) fc.out.size ?_;intro v' w4 gG dK tn;clear tn;have CX:Hid (aP 3 W1.heap.size w4 v' (px r q (n+1))):=hdd (by rw[ajI.out];exact gG);have iz:Hid (Below W1.heap.size W1 w4):=hdd (am fc.out dK fc.out.size (fun g e=>(y9.out.lt g e).1));clear gG dK)
    exact⟨⟨n+1,_,aa,rfl,aq,CX,iz⟩,gt⟩
  ·obtain rfl:n=4:=(by omega);rw[HE.out]at HO;have fz3:=fz 3;have fz4:=fz 4;obtain⟨g',bw,e',_⟩:=HO.out.bK (show 0<4 by decide);rw[show(Tv RA).length=4 from rfl]at e';subst e';have HGN:Hid (w.heap.size≤g'):=hdd (Nat.le_trans (Nat.le_of_lt nu.out) (HO.out.lt g' rfl).1);have ajJ:C<w.heap.size:=HC.out.lt;have Xb:C≠w.heap.size:=aa;have NY:w.heap.size≠C:=aa;have D9:=hdd (Xv.Ke (HO.out.weaken (Nat.le_trans C5.out (Nat.le_of_lt nu.out))));have hBF:Hid (w.grownBy (wr.setCell ⟨C,4,none⟩ (.slice (some ⟨g',0,none⟩) 4 bw)) (some C)):=hdd (dx (wX oX.out (f7 dV.out)) 4 _);clear fz Xv ajJ;by_cases s7:7≤st
   ·by_cases l1:l=1
    ·have fE:Hid (S=11):=hdd (by rw[←HS.out];unfold aA;rw[if_neg an,if_neg an,if_pos s7]);have l1b:(l==1)=true:=(by rw[l1];rfl);have j3:=((D9.out.setState 8).setState 9).cells.1;have j4:=((D9.out.setState 8).setState 9).cells.2.2.2.1 3;clear l1;go_wp2_with fail;refine bodyPost_ret (v:= .tuple #[]) mg rfl ⟨.slice (some ⟨g',0,none⟩) 4 bw,rfl,?_,?_,.inr (fun g e=>AZ)⟩;·rw[fE.out];exact(((D9.out.setState 8).setState 9).setState 11)
     ·exact(dx (dx (dx hBF.out 3 _) 3 _) 3 _)
    ·have fE:Hid (S=11):=hdd (by rw[←HS.out];unfold aA;rw[if_neg an,if_neg an,if_pos s7]);have l1b:(l==1)=false:=(by rw[beq_eq_false_iff_ne];exact l1);clear l1;go_wp2_with fail;refine bodyPost_ret (v:= .tuple #[]) mg rfl ⟨.slice (some ⟨g',0,none⟩) 4 bw,rfl,?_,?_,.inr (fun g e=>AZ)⟩;·rw[fE.out];exact((D9.out.setState 8).setState 11)
     ·exact(dx (dx hBF.out 3 _) 3 _)
   ·by_cases l1:l=1
    ·have fE:Hid (S=9):=hdd (by rw[←HS.out];unfold aA;rw[if_neg an,if_neg an,if_neg s7,if_pos l1]);have l1b:(l==1)=true:=(by rw[l1];rfl);have j3:=((D9.out.setState 8).setState 9).cells.1;have j4:=((D9.out.setState 8).setState 9).cells.2.2.2.1 3;clear l1;go_wp2_with fail;refine bodyPost_ret (v:= .tuple #[]) mg rfl ⟨.slice (some ⟨g',0,none⟩) 4 bw,rfl,?_,?_,.inr (fun g e=>AZ)⟩;·rw[fE.out];exact((D9.out.setState 8).setState 9)
     ·exact(dx (dx hBF.out 3 _) 3 _)
    ·have fE:Hid (S=8):=hdd (by rw[←HS.out];unfold aA;rw[if_neg an,if_neg an,if_neg s7,if_neg l1]);have l1b:(l==1)=false:=(by rw[beq_eq_false_iff_ne];exact l1);clear l1;go_wp2_with fail;refine bodyPost_ret (v:= .tuple #[]) mg rfl ⟨.slice (some ⟨g',0,none⟩) 4 bw,rfl,?_,?_,.inr (fun g e=>AZ)⟩;·rw[fE.out];exact(D9.out.setState 8)
     ·exact(dx hBF.out 3 _)
theorem Ea(C base:Nat)(lc lp pb st:Int)(r:R4)(P:List Nat)(vR vP:Value)(b:UInt8)(l d:Int)(q:Nat)(w:World)(hC:bW w C base lc lp pb st r P vR vP)(aT:base≤w.heap.size)(hq:q≤3):
  Calls prog 134 #[PF C,j2 2 b l d (q:Nat)] w (rN C base lc lp pb (aA st 2 l) (cT r 2 d (q:Nat)) P vP w):=
 (iq C base lc lp pb st r P vR vP b l d q w hC aT hq).mono fun _ _ h=>h.done
theorem Own.weaken{l:List UInt8}(h:Own base w v l)(hb:fO≤base):Own fO w v l:=by
 rcases h with⟨h1,h2 | ⟨g,cap,cur,h2,h3,h4⟩⟩
 ·exact⟨h1,.inl h2⟩
 ·exact⟨h1,.inr ⟨g,cap,cur,h2,Nat.le_trans hb h3,h4⟩⟩
def zT(h:List UInt8)(back:Nat):Nat→List UInt8
 | 0=>h
 | n+1=>zT h back n++[(zT h back n).getD ((zT h back n).length-back) 0]
def mY(h:List UInt8)(k:Int)(b:UInt8)(l:Nat)(back:Nat):List UInt8:=if k=0 then h++[b]else zT h back l
theorem zU(w:World):Own w.heap.size (w.alloc (.cells #[] 5)) (.slice (some ⟨w.heap.size,0,none⟩) 0 0) []:=Own.lit w [] (Nat.le_refl _) ae
theorem Z4(a b k:Nat)(hb:b<2^k):a*2^k ||| b=a*2^k+b:=by rw[←Nat.shiftLeft_eq,←Nat.shiftLeft_add_eq_or_of_lt hb]
namespace Rc
end Rc
def XM(S:Rc.St)(L:List UInt8):Prop:= ∀i (h:i<L.length),i<5+S.k→(L[i]).toNat=S.v/256^(4+S.k-i)%256
structure f8(w:World)(h o cap:Nat)(s:Rc.St):Prop where
 ax:w.heap[h]? =some (.cells #[.slice (some ⟨o,0,none⟩) (4+s.k) cap,.int .u64 ((s.r:Nat):Int)] 207 (0,0))
 own:w.ownsRow 0 5 1 (.slice (some ⟨o,0,none⟩) (4+s.k) cap) (4+s.k) ((Rc.be (4+s.k) s.v).map B8)
 ne:h≠o
theorem QF(c:BitVec 16)(w:World):Calls prog 212 #[.int .u16 c.toNat] w fun e w'=>e= .returned (.int .u64 (Rc.fair c.toNat:Nat))∧w=w':=by
 have hc:=c.isLt;by_cases h1:c.toNat=0
 ·have hf:Rc.fair c.toNat=1024:=by unfold Rc.fair;rw[if_pos (.inl aa)]
  rw[hf,h1];go_enter func212,ntmps212;go_wp2_with fail;go_ret;exact⟨rfl,rfl⟩
 ·have h1':((c.toNat:Int)==0)=false:=beq_eq_false_iff_ne.2 aa;by_cases h2:2048≤c.toNat;·have hf:Rc.fair c.toNat=1024:=(by unfold Rc.fair;rw[if_pos (.inr h2)]);rw[hf];have h2':(2047:Int)<c.toNat:=aa;go_enter func212,ntmps212;go_wp2_with fail;go_ret;exact⟨rfl,rfl⟩
  ·have hf:Rc.fair c.toNat=c.toNat:=(by unfold Rc.fair;rw[if_neg aa]);rw[hf];have h2': ¬(2047:Int)<c.toNat:=aa;go_enter func212,ntmps212;go_wp2_with fail;go_ret;exact⟨rfl,rfl⟩
theorem Ab(p:Nat)(one:Bool)(w:World)(h1:1≤p)(h2:p≤2047):Calls prog 215 #[.int .u64 p,.int .i64 (dl one)] w fun e w'=>e= .returned (.int .u16 (Rc.next p one:Nat))∧w=w':=by
 cases one
 ·have hn:((Rc.next p false:Nat):Int)=(p:Int)+(2048-(p:Int))/32:=by simp only[Rc.next,Bool.false_eq_true,if_false];omega
  have HN:=hdd hn;clear hn;unfold dl;simp only[Bool.false_eq_true,if_false];go_enter func215,ntmps215;go_wp2_with fail;go_ret;exact⟨congrArg (fun n:Int=>Ending.returned (Value.int .u16 n)) HN.out.symm,rfl⟩
 ·have hn:((Rc.next p true:Nat):Int)=(p:Int)-(p:Int)/32:=by simp only[Rc.next,if_true];omega
  have HN:=hdd hn;clear hn;unfold dl;simp only[if_true];go_enter func215,ntmps215;go_wp2_with fail;go_ret;exact⟨congrArg (fun n:Int=>Ending.returned (Value.int .u16 n)) HN.out.symm,rfl⟩
theorem Ac(h:w.heap[g]? =some (.cells #[a,b] t (0,0)))(u:Value):(w.setCell ⟨g,0,none⟩ u).heap[g]? =some (.cells #[u,b] t (0,0)):=by rw[heap_setCell_same w g 0 _ t u h];rfl
theorem lM(h:w.heap[g]? =some (.cells #[a,b] t (0,0)))(u:Value):(w.setCell ⟨g,1,none⟩ u).heap[g]? =some (.cells #[a,u] t (0,0)):=by rw[heap_setCell_same w g 1 _ t u h];rfl
theorem jW(h:w.heap[g]? =some (.cells #[a,b] t fr)):w.cell? ⟨g,0,none⟩=some a:=vE
theorem lN(h:w.heap[g]? =some (.cells #[a,b] t fr)):w.cell? ⟨g,1,none⟩=some b:=vE
def rX(w:World)(h o:Nat)(t:Rc.St)(w':World):Prop:= ∃o' bw,f8 w' h o' bw t∧az [h] w w'∧(o'=o∨w.heap.size≤o')
def carry(v n t:Nat):Nat:=(v+n)/256^t-v/256^t
theorem carry_zero(v n:Nat):carry v n 0=n:=by simp[carry]
theorem QG(v n t:Nat):carry v n t≤n:=by
 unfold carry;have hp:0<256^t:=Nat.pos_of_ne_zero ae;have h:(v+n)/256^t≤v/256^t+n:=by rw[Nat.div_le_iff_le_mul hp];have:=Nat.div_add_mod v (256^t);have h2:=Nat.mod_lt v hp;have h3:n*1≤n*256^t:=Nat.mul_le_mul_left _ hp;rw[Nat.add_mul,Nat.mul_comm (v/256^t)];omega
 omega
theorem ui(v n t:Nat):v/256^t+carry v n t=(v+n)/256^t:=by unfold carry;have:v/256^t≤(v+n)/256^t:=Nat.div_le_div_right aa;omega
theorem Hj(v n t:Nat):(carry v n t+v/256^t%256)%256=(v+n)/256^t%256:=by rw[←ui v n t];omega
theorem Hk(v n t:Nat):(carry v n t+v/256^t%256)/256=carry v n (t+1):=by
 have h1:=ui v n t;have h2:(v+n)/256^(t+1)=(v+n)/256^t/256:=by rw[Nat.pow_succ,←Nat.div_div_eq_div_mul]
 have h3:v/256^(t+1)=v/256^t/256:=by rw[Nat.pow_succ,←Nat.div_div_eq_div_mul]
 unfold carry at*;rw[h2,h3];omega
def summed(m t v n:Nat):List UInt8:=Rc.be (m-t) (v/256^t)++Rc.be t (v+n)
theorem Ex(m v n:Nat):summed m 0 v n=Rc.be m v:=by simp[summed,Rc.be]
theorem Hl(m v n:Nat):summed m m v n=Rc.be m (v+n):=by simp[summed,Rc.be]
theorem Hm(m t v n:Nat)(h:t<m):(summed m t v n)[m-1-t]? =some (UInt8.ofNat (v/256^t%256)):=by
 unfold summed;obtain⟨j,hj⟩: ∃j,m-t=j+1:=⟨m-t-1,aa⟩
 rw[hj,Rc.be,List.append_assoc,List.getElem?_append_right Bf,Rc.fH,show m-1-t-j=0 by omega];rfl
theorem Hn(m t v n:Nat)(h:t<m):(summed m t v n).set (m-1-t) (UInt8.ofNat ((v+n)/256^t%256))=summed m (t+1) v n:=by
 unfold summed;obtain⟨j,hj⟩: ∃j,m-t=j+1:=⟨m-t-1,aa⟩
 rw[hj,Rc.be,List.append_assoc,List.set_append_right _ _ Bf,Rc.fH,show m-1-t-j=0 by omega,show m-(t+1)=j by omega,Nat.div_div_eq_div_mul,←Nat.pow_succ];congr 1;have e:Rc.be (t+1) (v+n)=Rc.be (1+t) (v+n):=by rw[Nat.add_comm]
 rw[e,Rc.Bm];rfl
theorem iP{e:Nat}{xs:List Value}(h:w.ownsRow base e 1 v n xs)(hb:fO≤base):w.ownsRow fO e 1 v n xs:=by
 rcases h with⟨h1,h2 | ⟨g,cap,cur,h2,h3,h4⟩⟩
 ·exact⟨h1,.inl h2⟩
 ·exact⟨h1,.inr ⟨g,cap,cur,h2,aa,h4⟩⟩
theorem Ey(h o cap:Nat)(s:Rc.St)(n:Nat)(w:World)(hE:f8 w h o cap s)(hn:n<4294967296)(hk:4+s.k≤140737488355328):
  Calls prog 213 #[.pointer (some ⟨h,0,none⟩),.int .u64 n] w (Did (rX w h o ⟨s.k,s.v+n,s.r⟩)):=by
 have c0:=jW hE.ax;have hhl:h<w.heap.size:=block_lt_of_cell c0;have XN:=hE.ax;obtain⟨hlen,PX⟩:=oW hE.own;have Em:0<4+s.k:=aa;generalize Uw:Rc.be (4+s.k) s.v=lb at*;have HLB:=hdd Uw;generalize XO:4+s.k=m at*;have HM:=hdd XO;have fT:Value.slice (some ⟨o,0,none⟩) m cap= .slice (some ⟨o,0,none⟩) lb.length cap:=by rw[hlen]
 have GY:=hdd fT;have ee:=hdd hlen;have bt:([]:List UInt8).length+lb.length≤140737488355328:=by rw[←hlen];simp;omega
 have ho:Own w.heap.size (w.alloc (.cells #[] 5)) (.slice (some ⟨w.heap.size,0,none⟩) 0 0) []:=Own.lit w [] (Nat.le_refl _) ae;have eH:Below w.heap.size w (w.alloc (.cells #[] 5)):=ap;have Db:w.heap.size≤(w.alloc (.cells #[] 5)).heap.size:=eH.size;clear hE Uw XO fT hlen;go_enter func213,ntmps213;go_wp2_with (at_builtin;refine aj rfl (.tmp 6) (.tmp 10) rfl w.heap.size _ _ [] rfl ho (some ⟨o,0,none⟩) lb cap GY.out (PX.below eH) bt Db ?_;intro v2 w4 cH dK;have bc:Below w.heap.size w w4:=am eH dK Db (fun g' wT=>(ho.aw g' wT).1);rw[List.nil_append]at cH;unfold Own at cH;rw[←ee.out]at cH;obtain⟨gb,pw,rfl,Lm,Xt⟩:=World.ownsRow.form cH Em)
 have XP:=(bc.block h hhl).trans XN;have BZ:h≠gb:=aa;have gG:w4.ownsRow 0 5 1 (.slice (some ⟨gb,0,none⟩) m pw) m ((summed m 0 s.v n).map B8):=by rw[Ex,HLB.out];exact iP cH (Nat.zero_le _)
 have js:az [h] w w4:=⟨bc.os,bc.tape,bc.output,bc.size,fun i hi _=>bc.block i hi⟩
 have uB:carry s.v n 0=n:=carry_zero _ _;have ZQ:=hdd uB;have akm:=hdd XP;clear ho cH dK eH Db bt c0 XN PX uB XP;rw[←ZQ.out];go_loopw [1,5] (fun a i wr=> ∃t:Nat,t≤m∧i= .int .i64 ((m:Int)-1-(t:Int))∧a= .int .u64 (carry s.v n t:Nat)∧Hid (wr.heap[h]? =w4.heap[h]?)∧wr.ownsRow 0 5 1 (.slice (some ⟨gb,0,none⟩) m pw) m ((summed m t s.v n).map B8)∧az [h] w wr) (fun _ i _=>(intOf i+1).toNat);case atStart=>exact⟨0,aa,aq,rfl,rfl,gG,js⟩
 case round=>
  clear gG js;obtain⟨t,ht,rfl,rfl,DJ,aD,bU⟩:=hrel;by_cases aF:t<m
  ·obtain⟨j,hj⟩: ∃j:Nat,j=m-1-t:=⟨_,rfl⟩
   have yL:(m:Int)-1-(t:Int)=(j:Int):=aa;have hjm:j<m:=aa;have co:=aD.cellAt j aa;have fo:=aD.frozenAt j;rw[List.getElem?_map,hj,Hm m t s.v n aF,←hj]at co;simp only[Option.map]at co;obtain⟨kG,ro⟩:=aD.stored j (B8 (UInt8.ofNat ((s.v+n)/256^t%256)));rw[←List.map_set,hj,Hn m t s.v n aF,←hj]at kG;have pG:=QG s.v n t;have XJ:=Hj s.v n t;have ZP:=Hk s.v n t;have OF:(UInt8.ofNat (s.v/256^t%256)).toNat=s.v/256^t%256:=k9;have ad5:(UInt8.ofNat ((s.v+n)/256^t%256)).toNat=(s.v+n)/256^t%256:=k9;have fF:s.v/256^t%256<256:=Nat.mod_lt _ aa;have co':wr.cell? ⟨gb,j,none⟩=some (.int .u8 ((s.v/256^t%256:Nat):Int)):=(by rw[co];show some (Value.int .u8 _)=_;rw[OF]);have akn:(wr.setCell ⟨gb,j,none⟩ (.int .u8 (((s.v+n)/256^t%256:Nat):Int))).ownsRow 0 5 1 (.slice (some ⟨gb,0,none⟩) m pw) m ((summed m (t+1) s.v n).map B8):=(by have e:B8 (UInt8.ofNat ((s.v+n)/256^t%256))= .int .u8 (((s.v+n)/256^t%256:Nat):Int):=(by show Value.int .u8 _=_;rw[ad5]);rw[e]at kG;exact kG);generalize carry s.v n t=ct at*;generalize ad6:carry s.v n (t+1)=ct1 at*;have HCT:=hdd ad6;generalize s.v/256^t%256=bb at*;generalize(s.v+n)/256^t%256=sb at*;have asY:((ct:Int)+(bb:Int))%256=(sb:Int):=aa;have ako:((ct:Int)+(bb:Int))/256=(ct1:Int):=aa;have hsb:sb<256:=aa;have QH:(wr.setCell ⟨gb,j,none⟩ (.int .u8 (sb:Int))).heap[h]? =w4.heap[h]? :=(heap_setCell_other _ _ _ _ BZ).trans DJ.out;have HS:=hdd QH;have td:az [h] w (wr.setCell ⟨gb,j,none⟩ (.int .u8 (sb:Int))):=bU.setCell (.inr Lm) _;clear co kG ro XJ ZP OF ad5 hj ad6 QH;rw[yL];go_wp2_with fail;go_roundw;case rel=>exact⟨t+1,aa,congrArg (Value.int .i64) aa,congrArg (Value.int .u64) (by rw[HCT.out];exact ako),HS,akn,td⟩
   case measure=>simp[intOf]<;>omega
  ·obtain rfl:t=m:=(by omega);rw[Hl]at aD;have nh:=DJ.out.trans akm.out;have d0:=jW nh;have e0:=frozen_of_row wr h 0 _ _ nh;have YG:(t:Int)-1-(t:Int)= -1:=aa;rw[YG];generalize carry s.v n t=ct at*;go_wp2_with fail;go_end0;refine⟨rfl,gb,pw,⟨?_,?_,BZ⟩,bU.setCell (.inl ae) _,.inr Lm⟩;·show _=some (Obj.cells #[.slice (some ⟨gb,0,none⟩) (4+s.k) pw,_] _ _);rw[HM.out];exact Ac nh _
   ·show World.ownsRow _ 0 _ 1 (.slice (some ⟨gb,0,none⟩) (4+s.k) pw) (4+s.k) ((Rc.be (4+s.k) (s.v+n)).map B8);rw[HM.out];exact cS aD BZ _
theorem ad8(k v:Nat):Rc.be (4+k) v++[0]=Rc.be (4+(k+1)) (v*256):=by rw[←Nat.add_assoc,Rc.be,Nat.mul_div_cancel _ aa,Nat.mul_mod_left];rfl
theorem mC(N h o cap:Nat)(s:Rc.St)(w:World)(hE:f8 w h o cap s)(hf:s.fits)(hk:4+s.k+N≤140737488355328)(hr:16777216≤s.r*256^N):
  Calls prog 214 #[.pointer (some ⟨h,0,none⟩)] w (Did (rX w h o (Rc.St.scale N s))):=by
 go_enter func214,ntmps214;go_wp2_with fail;go_loopg [6] N (fun gk s6 wr=> ∃(o' bw:Nat) (t:Rc.St),f8 wr h o' bw t∧t.fits∧4+t.k+gk≤140737488355328∧Hid (16777216≤t.r*256^gk)∧Rc.St.scale N s=Rc.St.scale gk t∧az [h] w wr∧(o'=o∨w.heap.size≤o'));case atStart=>exact⟨o,cap,s,hE,hf,hk,hr,rfl,az.refl _ _,.inl rfl⟩
 case round=>
  obtain⟨o',bw,t,hT,TY,hkt,hrt,YI,bU,AT⟩:=hrel;have NU:=hdd YI;have c0:=jW hT.ax;have c1:=lN hT.ax;have f0:=frozen_of_row wr h 0 _ _ hT.ax;have f1:=frozen_of_row wr h 1 _ _ hT.ax;clear YI hE;by_cases aF:t.r<16777216
  ·have OE:(t.r:Int)<16777216:=(by omega);cases gk with
   | zero=>have:=hrt.out;simp at this;omega
   | succ gk=>
    have hhl:h<wr.heap.size:=block_lt_of_cell c0;have wg:=lM hT.ax (.int .u64 ((t.r:Int)*256));have cE:=cS (p:=⟨h,1,none⟩) hT.own hT.ne (.int .u64 ((t.r:Int)*256));have ff:=bU.setCell (p:=⟨h,1,none⟩) (.inl ae) (.int .u64 ((t.r:Int)*256));have tx:(wr.setCell ⟨h,1,none⟩ (.int .u64 ((t.r:Int)*256))).heap.size=wr.heap.size:=ae;generalize QI:wr.setCell ⟨h,1,none⟩ (.int .u64 ((t.r:Int)*256))=w1 at*;have vj:=hdd QI;have c01:=jW wg;have f01:=frozen_of_row w1 h 0 _ _ wg;obtain⟨hlen,PX⟩:=oW cE;have WW:=hdd (ad8 t.k t.v);generalize Uw:Rc.be (4+t.k) t.v=lb at*;have Em:0<4+t.k:=aa;generalize XO:4+t.k=m at*;have HM:=hdd XO;have fT:Value.slice (some ⟨o',0,none⟩) m bw= .slice (some ⟨o',0,none⟩) lb.length bw:=(by rw[hlen]);have GY:=hdd fT;have ee:=hdd hlen;have bt:([]:List UInt8).length+lb.length≤140737488355328:=(by rw[←hlen];simp;omega);have ad9:([]++lb:List UInt8).length+[(0:UInt8)].length≤140737488355328:=(by simp;rw[←hlen];omega);have hoe:Own w1.heap.size (w1.alloc (.cells #[] 5)) (.slice (some ⟨w1.heap.size,0,none⟩) 0 0) []:=Own.lit w1 [] (Nat.le_refl _) ae;have eH:Below w1.heap.size w1 (w1.alloc (.cells #[] 5)):=ap;have Db:w1.heap.size≤(w1.alloc (.cells #[] 5)).heap.size:=eH.size;have aea:h<w1.heap.size:=aa;have cu:=hdd wg;clear Uw XO fT hlen QI tx wg;go_upto_region 2 with(fail)
    rw[vj.out];clear c0 c1 f0 f1
    go_wp2_with (first
     | (at_builtin;refine aj rfl (.tmp 16) (.tmp 20) rfl w1.heap.size _ _ [] rfl hoe (some ⟨o',0,none⟩) lb bw GY.out (PX.below eH) bt Db ?_;intro v2 w4 cH dK;have bc:Below w1.heap.size w1 w4:=am eH dK Db (fun g' wT=>(hoe.aw g' wT).1);have ku:Bytes (w4.alloc (.cells #[.int .u8 0] 5)) (some ⟨w4.heap.size,0,none⟩) [0]:=Bytes.one w4 0;have CP:=cH.alloc (.cells #[.int .u8 0] 5);have pU:=bc.alloc bc.size (.cells #[.int .u8 0] 5);have c04:=(bc.cell (p:=⟨h,0,none⟩) aea).trans c01)
     | (at_builtin;refine aj rfl (.tmp 21) (.tmp 22) rfl w1.heap.size _ _ _ rfl CP (some ⟨w4.heap.size,0,none⟩) [0] 1 rfl ku ad9 pU.size ?_;intro v3 w5 iZ iM;have fj:Below w1.heap.size w1 w5:=am pU iM pU.size (fun g' wT=>(CP.aw g' wT).1);have QJ:=(fj.block h aea).trans cu.out;have c05:=jW QJ;have f05:=frozen_of_row w5 h 0 _ _ QJ;rw[List.nil_append]at iZ;unfold Own at iZ;rw[List.length_append,←ee.out]at iZ;obtain⟨gb,pw,rfl,Lm,Xt⟩:=World.ownsRow.form iZ ae))
    have Ev:h≠gb:=aa;have gF:=Ac QJ (.slice (some ⟨gb,0,none⟩) (m+1) pw);have PY:=cS (p:=⟨h,0,none⟩) (iP iZ (Nat.zero_le _)) Ev (.slice (some ⟨gb,0,none⟩) (m+1) pw);have nJ:az [h] w w5:=ff.trans (Y:=[]) ⟨fj.os,fj.tape,fj.output,fj.size,fun i hi _=>fj.block i hi⟩ ae;have jN:=nJ.setCell (p:=⟨h,0,none⟩) (.inl ae) (.slice (some ⟨gb,0,none⟩) (m+1) pw);have dJ:=ff.size;go_roundg gk;case measure=>omega
    case rel=>
     refine⟨gb,pw,t.up,⟨?_,?_,Ev⟩,t.Bn TY aF,by show 4+(t.k+1)+gk≤_;have:=HM.out;omega,?_,?_,jN,.inr aa⟩;·show _=some (Obj.cells #[.slice (some ⟨gb,0,none⟩) (4+(t.k+1)) pw,.int .u64 ((t.r*256:Nat):Int)] _ _);rw[←Nat.add_assoc,HM.out,show((t.r*256:Nat):Int)=(t.r:Int)*256 from aa];exact gF
     ·show World.ownsRow _ 0 _ 1 (.slice (some ⟨gb,0,none⟩) (4+(t.k+1)) pw) (4+(t.k+1)) ((Rc.be (4+(t.k+1)) (t.v*256)).map B8);rw[←WW.out,←Nat.add_assoc,HM.out];exact PY
     ·show 16777216≤t.r*256*256^gk;have:=hrt.out;rw[Nat.pow_succ,Nat.mul_comm (256^gk),←Nat.mul_assoc]at this;exact this
     ·rw[NU.out,Rc.St.scale,if_pos aF]
  ·have Dy: ¬(t.r:Int)<16777216:=(by omega);go_wp2_with fail;go_end0;refine⟨rfl,o',bw,?_,bU,AT⟩;have bJ:Rc.St.scale gk t=t:=by
    cases gk with
    | zero=>rfl
    | succ gk=>rw[Rc.St.scale,if_neg aF]
   rw[NU.out,bJ];exact hT
def QK(w:World)(h o:Nat)(p:Nat)(t:Rc.St)(e:Ending)(w':World):Prop:=e= .returned (.int .u16 (p:Nat))∧rX w h o t w'
theorem LM(r p:Nat)(hr:r<4294967296)(hp:p≤2047):IntKind.u64.wrap (((r:Int)/2048)*(p:Int))=((r/2048*p:Nat):Int):=by have h:r/2048*p≤r/2048*2047:=Nat.mul_le_mul_left _ hp;have e:((r:Int)/2048)*(p:Int)=((r/2048*p:Nat):Int):=ae;rw[e,IntWalk.u64_in _ ⟨aa,aa⟩]
theorem QL(h o cap:Nat)(s:Rc.St)(c:BitVec 16)(one:Bool)(w:World)(hE:f8 w h o cap s)(hs:s.ok)(hk:4+s.k+2≤140737488355328):
  Calls prog 173 #[.pointer (some ⟨h,0,none⟩),.int .u16 c.toNat,.int .i64 (dl one)] w
   (QK w h o (Rc.next (Rc.fair c.toNat) one) (Rc.St.scale 2 (s.pick (Rc.fair c.toNat) one))):=by
 obtain⟨FT,oO⟩:=Rc.tU c.toNat;have hv:=hdd (fun w=>QF c w);generalize Rc.fair c.toNat=p at*;have hsr:=hs.1.2;have T3:=LM s.r p hsr oO;have aiu:s.r/2048*p≤s.r/2048*2047:=Nat.mul_le_mul_left _ oO;generalize JS:s.r/2048*p=lD at*;have Dz:lD<4294967296:=aa;have hbr:lD≤s.r:=aa;have HBN:=hdd JS;clear JS;have c1:=lN hE.ax;have f1:=frozen_of_row w h 1 _ _ hE.ax;cases one with
 | false=>
  obtain⟨OH,CQ⟩:=s.lC p false hs FT oO;have FU:=hdd (fun w=>Ab p false w FT oO);rw[show dl false=0 from rfl];have Gu:s.pick p false=⟨s.k,s.v,lD⟩:=by rw[←HBN.out];rfl
  rw[Gu]at OH CQ ⊢;have rt:f8 (w.setCell ⟨h,1,none⟩ (.int .u64 ((lD:Nat):Int))) h o cap ⟨s.k,s.v,lD⟩:=⟨lM hE.ax _,cS hE.own hE.ne _,hE.ne⟩
  have CR:=hdd (mC 2 h o cap ⟨s.k,s.v,lD⟩ _ rt OH (by show 4+s.k+2≤_;exact hk) (by show 16777216≤lD*256^2;have:8192≤lD:=CQ;omega));go_enter func173,ntmps173;go_wp2_with fail;refine(hv.out _).mono ?_;rintro e w' ⟨rfl,rfl⟩;go_wp2_with fail;refine CR.out.mono ?_;rintro e w1 ⟨rfl,o',bw,DB,bU,ho⟩;go_wp2_with fail;refine(FU.out _).mono ?_;rintro e w' ⟨rfl,rfl⟩;go_wp2_with fail;go_ret;exact⟨rfl,o',bw,DB,((az.refl _ _).setCell (p:=⟨h,1,none⟩) (.inl ae) _).trans bU ae,by rcases ho with h | h;exact .inl h;exact .inr l7⟩
 | true=>
  obtain⟨OH,CQ⟩:=s.lC p true hs FT oO;have FU:=hdd (fun w=>Ab p true w FT oO);rw[show dl true=1 from rfl];have Gu:s.pick p true=⟨s.k,s.v+lD,s.r-lD⟩:=by rw[←HBN.out];rfl
  rw[Gu]at OH CQ ⊢;have Bp:=hdd (Ey h o cap s lD w hE Dz aa);have aiv:(s.r:Int)-(lD:Int)=((s.r-lD:Nat):Int):=aa;go_enter func173,ntmps173;go_wp2_with fail;refine(hv.out _).mono ?_;rintro e w' ⟨rfl,rfl⟩;go_wp2_with fail;refine Bp.out.mono ?_;rintro e w1 ⟨rfl,o1,Ez,KY,DC,CP⟩;have d1:=lN KY.ax;have e1:=frozen_of_row w1 h 1 _ _ KY.ax;have rt:f8 (w1.setCell ⟨h,1,none⟩ (.int .u64 ((s.r-lD:Nat):Int))) h o1 Ez ⟨s.k,s.v+lD,s.r-lD⟩:=⟨lM KY.ax _,cS KY.own KY.ne _,KY.ne⟩
  have CR:=hdd (mC 2 h o1 Ez ⟨s.k,s.v+lD,s.r-lD⟩ _ rt OH (by show 4+s.k+2≤_;exact hk) (by show 16777216≤(s.r-lD)*256^2;have:8192≤s.r-lD:=CQ;omega));simp only at d1;go_wp2_with fail;refine CR.out.mono ?_;rintro e w2 ⟨rfl,o',bw,DB,bU,ho⟩;go_wp2_with fail;refine(FU.out _).mono ?_;rintro e w' ⟨rfl,rfl⟩;go_wp2_with fail;go_ret;have dJ:=DC.size;refine⟨rfl,o',bw,DB,(DC.setCell (p:=⟨h,1,none⟩) (.inl ae) _).trans bU ae,?_⟩;rcases ho with h1 | h1;·rw[h1];exact CP
  ·exact .inr (by simp at h1;omega)
def QM(w:World)(e:Ending)(w':World):Prop:= ∃h o cap,e= .returned (.pointer (some ⟨h,0,none⟩))∧f8 w' h o cap zy∧Below w.heap.size w w'∧w.heap.size≤h∧w.heap.size≤o
theorem QN(w:World):Calls prog 94 #[] w (QM w):=by
 obtain⟨i,hi,nE,gU,qR⟩:=info_parts pE;go_enter func94,ntmps94;go_wp2_with (refine wpList_make_full _ rfl _ _ 22 rfl w.heap.size 5 i (.int .u8 0) 1 underlying22 hi nE gU _ _ _ _ 4 rfl rfl rfl rfl mc gD (Nat.le_refl _) ?_;intro w1 cE iY)
 have aC:Below w.heap.size w w1:=am (Below.refl _ _) iY (Nat.le_refl _) ae;have dJ:=aC.size;have aF:=(World.ownsRow.lt cE w.heap.size rfl).2;go_ret;refine⟨w1.heap.size,w.heap.size,4,rfl,⟨heap_alloc_new w1 _,?_,aa⟩,aC.alloc dJ _,dJ,Nat.le_refl _⟩;refine World.ownsRow.alloc ?_ _;show World.ownsRow _ 0 _ 1 (.slice (some ⟨w.heap.size,0,none⟩) (4+0) 4) (4+0) ((Rc.be (4+0) 0).map B8);have e:(madeCells (Value.int .u8 0).cells (4*1)).toList=(Rc.be (4+0) 0).map B8:=by rw[Nat.mul_one,show(Value.int .u8 0).cells= #[Value.int .u8 0]from rfl,toList_madeCells_one];rfl
 rw[←e];exact iP cE (Nat.zero_le _)
theorem az.Vh{X:List Nat}{a b:World}(h:az X a.drew b):az X a b:=⟨h.os,h.tape,h.output,h.size,h.block⟩
structure RE(w:World)(C base h N:Nat)(lc lp pb st:Int)(r:R4)(x:(Nat→Nat)×Rc.St)(Y:List Nat):Prop where
 ex: ∃(Pl:List Nat) (vR:Value) (gR gP dW o cap:Nat),bW w C base lc lp pb st r Pl vR (.slice (some ⟨gP,0,none⟩) N dW)∧vR.ownBlock=some gR∧f8 w h o cap x.2∧Pl.length=N∧(∀i,i<N→Pl[i]? =some (x.1 i))∧Y=[C,gR,gP,h,o]
 fair: ∀i,1≤x.1 i∧x.1 i≤2047
def cj(C base h N:Nat)(lc lp pb st:Int)(r:R4)(x:(Nat→Nat)×Rc.St)(Y:List Nat)(w w':World):Prop:= ∃Y',RE w' C base h N lc lp pb st r x Y'∧az Y w w'∧ ∀i∈Y',i∈Y∨w.heap.size≤i
def jF(v:Value)(C base h N:Nat)(lc lp pb st:Int)(r:R4)(x:(Nat→Nat)×Rc.St)(Y:List Nat)(w:World)(e:Ending)(w':World):Prop:=e= .returned v∧cj C base h N lc lp pb st r x Y w w'
theorem cj.trans{st':Int}{r':R4}{x':(Nat→Nat)×Rc.St}{Y1:List Nat}{w1 w2:World}(bU:az Y w w1)(hY: ∀i∈Y1,i∈Y∨w.heap.size≤i)(hh:cj C base h N lc lp pb st' r' x' Y1 w1 w2):cj C base h N lc lp pb st' r' x' Y w w2:=by
 obtain⟨Y2,hM,cC,rY⟩:=hh;refine⟨Y2,hM,bU.trans cC hY,fun i hi=> ?_⟩;rcases rY i hi with h1 | h1;·exact hY i h1
 ·exact .inr (Nat.le_trans bU.size h1)
theorem f8.Kl{w':World}(hR:f8 w h o cap s)(h1:w'.heap[h]? =w.heap[h]?)(h2:w'.heap[o]? =w.heap[o]?):f8 w' h o cap s:=⟨h1.trans hR.ax,DH hR.own h2,hR.ne⟩
theorem f8.row(hR:f8 w h o cap s): ∃cs,w.heap[o]? =some (.cells cs 5 (0,0)):=by
 rcases hR.own with⟨_,⟨h1,_⟩ | ⟨g,bw,cur,e,_,h3,_⟩⟩
 ·cases h1
 ·injection e with e1 _ _;injection e1 with e1;injection e1 with e1;subst e1;exact⟨cur,h3⟩
theorem gz{a b:Nat}{ca cb:Array Value}{ta tb:TypeId}{fa fb:Nat×Nat}(ha:w.heap[a]? =some (.cells ca ta fa))(hb:w.heap[b]? =some (.cells cb tb fb))(h:ta≠tb):a≠b:=by intro e;subst e;rw[ha]at hb;injection hb with hb;injection hb with _ hb _;exact h hb
theorem aP.row(h:aP t base w (.slice (some ⟨g,0,none⟩) n cap) l): ∃cs,w.heap[g]? =some (.cells cs t (0,0)):=by
 rcases h with⟨_,⟨h1,_⟩ | ⟨g',bw,cur,e,_,h3,_⟩⟩
 ·cases h1
 ·injection e with e1 _ _;injection e1 with e1;injection e1 with e1;subst e1;exact⟨cur,h3⟩
theorem LN{r:R4}{x:(Nat→Nat)×Rc.St}(hM:RE w C base h N lc lp pb st r x Y)(hs:x.2.ok)(hk:4+x.2.k+2≤140737488355328)(i:Nat)(hi:i<N)(one:Bool):
  Calls prog 135 #[PF C,PF h,.int .i64 (i:Nat),.int .i64 (dl one)] w (jF (.tuple #[]) C base h N lc lp pb st r (Md.put x.1 i (Rc.next (x.1 i) one),Rc.St.scale 2 (x.2.pick (x.1 i) one)) Y w):=by
 obtain⟨Pl,vR,gR,gP,dW,o,cap,hC,oY,hE,B5,hP,rfl⟩:=hM.ex;have wn:=hM.fair i;have hFA:=hM.fair;have⟨p,hp⟩:=ex (x.1 i);rw[hp]at wn;have DG:=QL h o cap x.2 (BitVec.ofNat 16 p) one w.drew ⟨hE.ax,hE.own,hE.ne⟩ hs hk;have e0:(BitVec.ofNat 16 p).toNat=p:=av;have e1:Rc.fair p=p:=by unfold Rc.fair;rw[if_neg aa]
 rw[e0,e1]at DG;have pr:=hdd DG;have C6:w.ownsRow base 128 1 (.slice (some ⟨gP,0,none⟩) N dW) N (Pl.map fun x=> .int .u16 (x:Nat)):=by have h0:=hC.ps;unfold aP at h0;rw[List.length_map,B5]at h0;exact h0
 have hce:(Pl.map fun x=>Value.int .u16 (x:Nat))[i]? =some (.int .u16 (p:Nat)):=by rw[List.getElem?_map,hP i hi,hp];rfl
 have hcell:w.cell? ⟨gP,i,none⟩=some (.int .u16 (p:Nat)):=(World.ownsRow.cellAt C6 i aa).trans hce;have Vi:w.frozen? ⟨gP,i,none⟩=false:=World.ownsRow.frozenAt C6 i;obtain⟨csP,QO⟩:=hC.ps.row;have hRr: ∃cs,w.heap[gR]? =some (.cells cs 3 (0,0)):=by obtain⟨g,bw,e,_⟩:=hC.fh.bK (show 0<4 by decide);rw[e]at oY;injection oY with oY;subst oY;have h0:=hC.fh;rw[e]at h0;exact h0.row
 obtain⟨csR,Vj⟩:=hRr;have n1:gP≠h:=gz QO hE.ax an;have n2:C≠h:=gz hC.box hE.ax an;have n3:gR≠h:=gz Vj hE.ax an;have n4:C≠gP:=gz hC.box QO an;have n5:gR≠gP:=gz Vj QO an;have Dh:w.cell? ⟨C,5,none⟩=some (.slice (some ⟨gP,0,none⟩) (N:Nat) dW):=hC.cells.2.2.1;have aec:N≤dW∧dW≤9223372036854775807:=by
  rcases C6.2 with⟨h0,_⟩ | ⟨g',bw,cur,h0,_,_,NS,uz,_⟩
  ·cases h0
  ·injection h0 with _ _ h0;subst h0;exact⟨NS,JC⟩
 have Km:Hid (∀w1,az [h] w w1→w1.cell? ⟨C,5,none⟩=some (.slice (some ⟨gP,0,none⟩) (N:Nat) dW)∧w1.cell? ⟨gP,i,none⟩=some (.int .u16 (p:Nat))∧w1.frozen? ⟨gP,i,none⟩=false):=hdd (fun w1 ho=>
  ⟨ao ho (by simpa using n2) Dh,ao ho (by simpa using n1) hcell,nG ho (by simpa using n1) (block_lt_of_cell hcell) Vi⟩)
 have bE:w.drew.cell? ⟨C,5,none⟩=some (.slice (some ⟨gP,0,none⟩) (N:Nat) dW):=Dh;have mq:w.drew.cell? ⟨gP,i,none⟩=some (.int .u16 (p:Nat)):=hcell;have akp:=hdd (And.intro hC (And.intro C6 (And.intro oY (And.intro B5 (And.intro hP (And.intro hFA hp))))));have HN:=hdd (And.intro n1 (And.intro n2 (And.intro n3 (And.intro n4 n5))));have uc:=hdd (And.intro QO Vj);have CU:=hdd wn;rw[hp];have hii:(i:Int)<(N:Int):=aa;have hNc:(N:Int)≤(dW:Int):=aa;have uz:(dW:Int)≤9223372036854775807:=aa;clear hM DG e0 e1 hs hk hC C6 hce hcell Vi QO Vj Dh aec B5 hP hFA hp wn hE oY n1 n2 n3 n4 n5;go_enter func135,ntmps135;refine wp_region_held_drew (S:=fun w2=>w2.cell? ⟨C,5,none⟩=some (.slice (some ⟨gP,0,none⟩) (N:Nat) dW)) ak bE (fun hS=> ?_);refine af 0 hS (h:=af 1 hS (h:=af 2 hS (h:=aZ 3 hS (h:=af 4 hS (h:=af 5 hS (h:=af 6 hS (h:=af 7 hS (h:=af 8 hS (h:=aZ 9 hS (h:=af 10 hS (h:=af 11 hS (h:= ?_))))))))))));refine af 13 hS (h:= ?_);refine aG 12 (fun K hK=> ?_);go_simp;go_wp2_with fail;refine hK.out _ _ bE (fun _=> ?_);clear hK K;refine aG 14 (fun K hK=> ?_);go_simp;refine pr.out.mono ?_;rintro e w1 ⟨rfl,o2,ld,iA,cC,j6⟩;have cK:=az.Vh cC;obtain⟨g1,k2,k3⟩:=Km.out w1 cK;have pK:=hdd iA;have vi:=hdd (And.intro cK j6);clear iA cC j6 cK;go_wp2_with fail;refine hK.out _ _ g1 (fun _=> ?_);clear hK K;refine af 15 g1 (h:= ?_);refine aG 16 (fun K hK=> ?_);go_simp;have g2:=(World.cell?_setCell_other w1 ⟨gP,i,none⟩ ⟨C,5,none⟩ (.int .u16 (Rc.next p one:Nat)) (fun e=>HN.out.2.2.2.1 (congrArg Addr.block e).symm)).trans g1;go_wp2_with fail;refine hK.out _ _ g2 (fun _=> ?_);clear hK K;refine wpAnyH_done ak ?_ _;obtain⟨hC,C6,oY,B5,hP,hFA,hp⟩:=akp.out;obtain⟨QO,Vj⟩:=uc.out;obtain⟨n1,n2,n3,n4,n5⟩:=HN.out;have bU:=vi.out.1;have XQ:=(cr QO)
 have akq:=(bU.block gP XQ (by simpa using n1)).trans QO;have bC:=bU.block C (cr hC.box) (by simpa using n2);have bR:=bU.block gR (cr Vj) (by simpa using n3);have bP:=bU.block gP XQ (by simpa using n1);obtain⟨cs2,oP⟩:=pK.out.row;have n6:o2≠gP:=gz oP akq an;obtain⟨Qk,hfh⟩:=Rc.kH CU.out.1 CU.out.2 one;have akr:w1.ownsRow base 128 1 (.slice (some ⟨gP,0,none⟩) N dW) N (Pl.map fun x=> .int .u16 (x:Nat)):=by have h0:=(show aP 128 base w (.slice (some ⟨gP,0,none⟩) N dW) (Pl.map fun x=> .int .u16 (x:Nat))from hC.ps).aI (w':=w1) (fun g e=>by injection e with e;subst e;exact bP);unfold aP at h0;rw[List.length_map,B5]at h0;exact h0
 have bJ:=(World.ownsRow.stored akr i (.int .u16 (Rc.next p one:Nat))).1;go_end0;refine⟨rfl,[C,gR,gP,h,o2],⟨⟨Pl.set i (Rc.next p one),vR,gR,gP,dW,o2,ld,⟨?_,?_,?_⟩,oY,pK.out.Kl (ag _ _ _ _ (fun e=>n1 e.symm)) (ag _ _ _ _ n6),by rw[List.length_set,B5],fun j hj=> ?_,rfl⟩,fun j=> ?_⟩,?_,?_⟩;·exact(ag _ _ _ _ n4).trans (bC.trans hC.box)
 ·exact(hC.fh.aI (w':=w1) (fun g e=>by rw[oY]at e;injection e with e;subst e;exact bR)).setOther (by rw[oY];simpa using n5) _
 ·show aP _ _ _ _ _;unfold aP;rw[List.length_map,List.length_set,B5,List.map_set];exact bJ
 ·by_cases e:j=i;·subst e;rw[List.getElem?_set_self aa];simp[Md.put]
  ·rw[List.getElem?_set_ne (fun h=>e h.symm)];simp only[Md.put,if_neg e];exact hP j hj
 ·show 1≤Md.put x.1 i _ j∧Md.put x.1 i _ j≤2047;unfold Md.put;split;·exact⟨Qk,hfh⟩
  ·exact hFA j
 ·have h0:az [C,gR,gP,h,o] w w1:=⟨bU.os,bU.tape,bU.output,bU.size,fun k hk hX=>bU.block k hk (fun h2=>hX (by simp at h2;simp[h2]))⟩
  exact h0.setCell (p:=⟨gP,i,none⟩) (.inl ae) _
 ·intro k hk;simp only[List.mem_cons,List.not_mem_nil,or_false]at hk ⊢;rcases hk with rfl | rfl | rfl | rfl | rfl;·exact .inl (.inl rfl)
  ·exact .inl (.inr (.inl rfl))
  ·exact .inl (.inr (.inr (.inl rfl)))
  ·exact .inl (.inr (.inr (.inr (.inl rfl))))
  ·rcases vi.out.2 with e | e;·exact .inl (.inr (.inr (.inr (.inr e))))
   ·exact .inr e
theorem bY{r:R4}{x:(ah g).S}(hM:RE w C base h N lc lp pb st r x Y)(aR:(ah g).ok x.2 (k+3)){i:Nat}(hi:i<N)(one:Bool){y:(ah g).S}(hy:((ah g).au i one x).2=y):
  Calls prog 135 #[PF C,PF h,.int .i64 (i:Nat),.int .i64 (dl one)] w (jF (.tuple #[]) C base h N lc lp pb st r y Y w)∧(ah g).ok y.2 (k+2):=by
 subst hy;refine⟨LN hM aR.1 (ar aR.2) i hi one,?_⟩;exact(ah g).oQ aR (hM.fair i)
theorem wrap64_in(q:Nat)(h:q<4294967296):wrap64 (q:Int)=(q:Int):=by unfold wrap64;omega
theorem mD(v j:Nat):((v/2^j%2:Nat):Int)=dl (Md.aL (v:Nat) j):=by
 unfold Md.aL dl;have e:((v:Nat):Int)/2^j%2=((v/2^j%2:Nat):Int):=ae;rw[e];by_cases h:v/2^j%2=1;·rw[h];rfl
 ·have h0:v/2^j%2=0:=by omega
  rw[h0];rfl
theorem xz{v j B:Nat}(hv:v<4294967296)(hB:v/2^j%2=B):(wrap64 ((v:Int)/((2^j:Nat):Int))).tmod 2=(B:Int):=by have h0:v/2^j≤v:=Nat.div_le_self _ _;have e:(v:Int)/((2^j:Nat):Int)=((v/2^j:Nat):Int):=ae;rw[e];generalize v/2^j=q at*;have e2:wrap64 (q:Int)=(q:Int):=wrap64_in q aa;rw[e2,Int.tmod_eq_emod_of_nonneg aa,←hB];omega
theorem iQ(v j:Nat):(Md.aL (v:Nat) j).toNat=v/2^j%2:=by
 have h:=mD v j;have h2:dl (Md.aL (v:Nat) j)=((Md.aL (v:Nat) j).toNat:Int):=by cases Md.aL (v:Nat) j<;>rfl
 rw[h2]at h;omega
theorem kc{r:R4}{x:(ah g).S}(hM:RE w C base h N lc lp pb st r x Y)(aR:(ah g).ok x.2 (k+n+3))(hn:n≤8)(bx:at_+2^n≤N)(hN:N≤1000000)(v:Nat)(hv:v<4294967296){z:(ah g).S}(hz:(Md.cM (ah g) at_ (v:Nat) n 1 x).2=z):
  Calls prog 175 #[PF C,PF h,.int .i64 (at_:Nat),.int .i64 (n:Nat),.int .i64 (v:Nat)] w (mm ((ah g).ok z.2 (k+3)) (jF (.tuple #[]) C base h N lc lp pb st r z Y w)):=by
 have⟨Q,hQ⟩:=ex (((ah g).ok z.2 (k+3)));rw[hQ];have HQ:=hdd hQ;have sO:(n:Int)≤8:=aa;have Ho:=hdd bx;have aks:(at_:Int)≤1000000:=Gj;have HZ:=hdd hz;have QP:=hdd hM;clear hQ bx hz hM;go_enter func175,ntmps175;go_wp2_with fail;go_loopw [10,11] (fun ms i wr=> ∃(j m:Nat) (x':(ah g).S) (Y':List Nat),j≤n∧ms= .int .i64 (m:Nat)∧i= .int .i64 ((j:Int)-1)∧2^(n-j)≤m∧m<2^(n-j)*2∧Hid ((ah g).ok x'.2 (k+j+3))∧Hid ((Md.cM (ah g) at_ (v:Nat) j m x').2=z)∧Hid (RE wr C base h N lc lp pb st r x' Y'∧az Y w wr∧ ∀i∈Y',i∈Y∨w.heap.size≤i)) (fun _ i _=>(intOf i+1).toNat);case atStart=>exact⟨n,1,x,Y,Nat.le_refl _,rfl,aq,ae,ae,hdd aR,HZ,hdd ⟨QP.out,az.refl _ _,fun i hi=> .inl hi⟩⟩
 case round=>
  obtain⟨j,m,x',Y',hj,rfl,rfl,fX,eY,oR,HT,HM⟩:=hrel;cases j with
  | zero=>
   clear fX eY;go_wp2_with fail;go_end0;have vn:x'=z:=HT.out;rw[←vn]at HQ ⊢;exact⟨⟨rfl,Y',HM.out.1,HM.out.2.1,HM.out.2.2⟩,by rw[←HQ.out];exact oR.out⟩
  | succ j=>
   have qS:m<2^n:=(by have e:2^(n-(j+1))*2=2^(n-j):=l8;have:2^(n-j)≤2^n:=Nat.pow_le_pow_right aa aa;omega);have K4:m<256:=(by have:2^n≤2^8:=Nat.pow_le_pow_right aa hn;omega);have zk:=hdd (fJ j aa wr);have⟨y,hy⟩:=ex (((ah g).au (at_+m) (Md.aL (v:Nat) j) x').2);obtain⟨hb,uj⟩:=bY HM.out.1 (k:=k+j+1) (by rw[show k+j+1+3=k+(j+1)+3 by omega];exact oR.out) (i:=at_+m) (ar Ho.out) (Md.aL (v:Nat) j) hy;have kZ:Hid ((Md.cM (ah g) at_ (v:Nat) j (2*m+v/2^j%2) y).2=z):=hdd (by
    rw[←HT.out];conv=>rhs;unfold Md.cM
    rw[hy,←iQ];rfl)
   rw[←mD]at hb;have⟨B,hB⟩:=ex (v/2^j%2);rw[hB]at hb kZ;have iH:B≤1:=aa;have pr:=hdd hb;have d9:=hdd uj;have jd:=hdd fX;have ry:=hdd eY;have th:(m:Int)<256:=aa;have hBi:(B:Int)≤1:=aa;have Od:((2^j:Nat):Int)≠0:=(by have:=Nat.one_le_two_pow (n:=j);omega);have TG:(wrap64 ((v:Int)/((2^j:Nat):Int))).tmod 2=(B:Int):=xz hv hB;have⟨ai,Dg⟩:=ex (at_+m);have Z5:(at_:Int)+(m:Int)=(ai:Int):=aa;rw[Dg]at pr;have⟨PW,Di⟩:=ex (2^j);rw[Di]at zk Od TG;clear hb uj fX eY hy hB K4 Di Dg;go_wp2_with fail;refine zk.out.mono ?_;rintro e w1 ⟨rfl,rfl⟩;go_wp2_with fail;refine pr.out.mono ?_;rintro e w2 ⟨rfl,kr⟩;have HW:=hdd (cj.trans HM.out.2.1 HM.out.2.2 kr);clear kr;go_wp2_with fail;obtain⟨Y3,lZ,cK,yF⟩:=HW.out;have e2:2^(n-j)=2^(n-(j+1))*2:=l8;exact⟨⟨j,2*m+B,y,Y3,aa,aq,aq,ar jd.out,ar ry.out,d9,kZ,hdd ⟨lZ,cK,yF⟩⟩,ia⟩
theorem rZ{r:R4}{x:(ah g).S}(hM:RE w C base h N lc lp pb st r x Y)(aR:(ah g).ok x.2 (k+n+3))(hn:n≤5)(bx:at_+2^n≤N)(hN:N≤1000000)(v u:Nat)(hv:v<4294967296)(hu: ∀i,i<n→Md.aL (u:Nat) i=Md.aL (v:Nat) i){z:(ah g).S}(hz:(Md.rev (ah g) at_ n (u:Nat) x).2=z):
  Calls prog 179 #[PF C,PF h,.int .i64 (at_:Nat),.int .i64 (n:Nat),.int .i64 (v:Nat)] w (mm ((ah g).ok z.2 (k+3)) (jF (.tuple #[]) C base h N lc lp pb st r z Y w)):=by
 have⟨Q,hQ⟩:=ex (((ah g).ok z.2 (k+3)));rw[hQ];have HQ:=hdd hQ;have sO:(n:Int)≤5:=aa;have Ho:=hdd bx;have aks:(at_:Int)≤1000000:=Gj;have HZ:=hdd hz;have QP:=hdd hM;have HU:=hdd hu;clear hQ bx hz hM hu;go_enter func179,ntmps179;go_wp2_with fail;go_loopw [4,10,11] (fun vs ms i wr=> ∃(j m q g2:Nat) (x':(ah g).S) (Y':List Nat),j≤n∧vs= .int .i64 (q:Nat)∧ms= .int .i64 (m:Nat)∧i= .int .i64 (j:Nat)∧Hid (q=v/2^j)∧q<4294967296∧2^j≤m∧m<2^j*2∧Hid ((ah g).ok x'.2 (k+(n-j)+3))∧Hid ((Md.jc (ah g) at_ (u:Nat) (n-j) j m g2 x').2=z)∧Hid (RE wr C base h N lc lp pb st r x' Y'∧az Y w wr∧ ∀i∈Y',i∈Y∨w.heap.size≤i)) (fun _ _ i _=>n-(intOf i).toNat);case atStart=>exact⟨0,1,v,0,x,Y,Nat.zero_le _,rfl,rfl,rfl,hdd ae,hv,ae,ae,hdd aR,HZ,hdd ⟨QP.out,az.refl _ _,fun i hi=> .inl hi⟩⟩
 case round=>
  obtain⟨j,m,q,g2,x',Y',hj,rfl,rfl,rfl,HQV,hq,fX,eY,oR,HT,HM⟩:=hrel;by_cases hjn:j<n
  ·have yL:(j:Int)<(n:Int):=(by omega);have OQ:2^j*2≤2^n:=(by rw[←Nat.pow_succ];exact Nat.pow_le_pow_right aa aa);have ie:2^n≤2^5:=Nat.pow_le_pow_right aa hn;have qS:m<2^n:=aa;have⟨y,hy⟩:=ex (((ah g).au (at_+m) (Md.aL (u:Nat) j) x').2);have ho:=oR.out;rw[show k+(n-j)+3=k+(n-(j+1))+1+3 by omega]at ho;obtain⟨hb,uj⟩:=bY HM.out.1 (k:=k+(n-(j+1))+1) ho (i:=at_+m) (ar Ho.out) (Md.aL (u:Nat) j) hy;have kZ:Hid (∃g3,(Md.jc (ah g) at_ (u:Nat) (n-(j+1)) (j+1) (2*m+v/2^j%2) g3 y).2=z):=hdd ⟨g2+(Md.aL (u:Nat) j).toNat*2^j,by
    rw[←HT.out,show n-j=(n-(j+1))+1 by omega];conv=>rhs;unfold Md.jc
    rw[hy,←iQ,←HU.out j hjn];rfl⟩
   rw[HU.out j hjn,←mD]at hb;rw[←HQV.out]at hb kZ;have⟨B,hB⟩:=ex (q%2);rw[hB]at hb kZ;have iH:B≤1:=aa;have pr:=hdd hb;have d9:=hdd uj;have cu:=hdd fX;have dY:=hdd eY;have th:(m:Int)<32:=aa;have hBi:(B:Int)≤1:=aa;have TG:((q:Nat):Int).tmod 2=(B:Int):=(by rw[Int.tmod_eq_emod_of_nonneg aa,←hB];omega);have hqi:(q:Int)<4294967296:=aa;have⟨ai,Dg⟩:=ex (at_+m);have Z5:(at_:Int)+(m:Int)=(ai:Int):=aa;rw[Dg]at pr;clear hb uj fX eY hy hB OQ ie ho qS Dg;go_wp2_with fail;refine pr.out.mono ?_;rintro e w2 ⟨rfl,kr⟩;have HW:=hdd (cj.trans HM.out.2.1 HM.out.2.2 kr);clear kr;go_wp2_with fail;obtain⟨Y3,lZ,cK,yF⟩:=HW.out;obtain⟨g3,l5⟩:=kZ.out;have e2:2^(j+1)=2^j*2:=Nat.pow_succ _ _;exact⟨⟨j+1,2*m+B,q/2,g3,y,Y3,aa,aq,aq,aq,hdd (by rw[HQV.out,Nat.div_div_eq_div_mul,←Nat.pow_succ]),aa,ar cu.out,ar dY.out,d9,hdd l5,hdd ⟨lZ,cK,yF⟩⟩,ia⟩
  ·obtain rfl:j=n:=(by omega);clear fX eY;go_wp2_with fail;go_end0;have vn:=HT.out;rw[Nat.sub_self]at vn;have qR:x'=z:=vn;have ho:=oR.out;rw[Nat.sub_self]at ho;rw[←qR]at HQ ⊢;exact⟨⟨rfl,Y',HM.out.1,HM.out.2.1,HM.out.2.2⟩,by rw[←HQ.out];exact ho⟩
section
section
variable{C base h N:Nat}{lc lp pb st:Nat}{r:R4}{x:(Nat→Nat)×Rc.St}{Y:List Nat}{w:World}
theorem RE.pV(hM:RE w C base h N (lc:Nat) (lp:Nat) (pb:Nat) (st:Nat) r x Y):w.cell? ⟨C,0,none⟩=some (.int .i64 (lc:Nat))∧w.cell? ⟨C,1,none⟩=some (.int .i64 (lp:Nat))∧w.cell? ⟨C,2,none⟩=some (.int .i64 (pb:Nat))∧w.cell? ⟨C,3,none⟩=some (.int .i64 (st:Nat)):=by obtain⟨Pl,vR,gR,gP,dW,o,cap,hC,_⟩:=hM.ex;refine⟨?_,?_,?_,?_⟩<;>(rw[cell_of_row w _ _ _ _ _ hC.box];rfl)
theorem qp(hM:RE w C base h N (lc:Nat) (lp:Nat) (pb:Nat) (st:Nat) r x Y)(bJ:st<12)(p:Nat)(hp:p<16):Calls prog 136 #[PF C,.int .i64 (p:Nat)] w fun e w'=>e= .returned (.int .i64 ((16*st+p:Nat):Int))∧w=w':=by obtain⟨_,_,_,c3⟩:=hM.pV;have GB:(st:Int)<12:=aa;have rz:(p:Int)<16:=aa;clear hM;go_enter func136,ntmps136;go_wp2_with fail;go_ret;exact⟨aq,rfl⟩
theorem EA(hM:RE w C base h N (lc:Nat) (lp:Nat) (pb:Nat) (st:Nat) r x Y)(bJ:st<12):Calls prog 138 #[PF C] w fun e w'=>e= .returned (.int .i64 ((192+st:Nat):Int))∧w=w':=by obtain⟨_,_,_,c3⟩:=hM.pV;have GB:(st:Int)<12:=aa;clear hM;go_enter func138,ntmps138;go_wp2_with fail;go_ret;exact⟨aq,rfl⟩
theorem mE(hM:RE w C base h N (lc:Nat) (lp:Nat) (pb:Nat) (st:Nat) r x Y)(bJ:st<12)(n:Nat)(hn:n≤2):Calls prog 142 #[PF C,.int .i64 (n:Nat)] w fun e w'=>e= .returned (.int .i64 ((204+12*n+st:Nat):Int))∧w=w':=by obtain⟨_,_,_,c3⟩:=hM.pV;have GB:(st:Int)<12:=aa;have sO:(n:Int)≤2:=aa;clear hM;go_enter func142,ntmps142;go_wp2_with fail;go_ret;exact⟨aq,rfl⟩
theorem Ad(hM:RE w C base h N (lc:Nat) (lp:Nat) (pb:Nat) (st:Nat) r x Y)(bJ:st<12)(p:Nat)(hp:p<16):Calls prog 143 #[PF C,.int .i64 (p:Nat)] w fun e w'=>e= .returned (.int .i64 ((240+16*st+p:Nat):Int))∧w=w':=by obtain⟨_,_,_,c3⟩:=hM.pV;have GB:(st:Int)<12:=aa;have rz:(p:Int)<16:=aa;clear hM;go_enter func143,ntmps143;go_wp2_with fail;go_ret;exact⟨aq,rfl⟩
theorem mF(w:World):Calls prog 140 #[.bool true] w fun e w'=>e= .returned (.int .i64 946)∧w=w':=by go_enter func140,ntmps140;go_wp2_with fail;go_ret;exact⟨rfl,rfl⟩
theorem EB(w:World):Calls prog 140 #[.bool false] w fun e w'=>e= .returned (.int .i64 432)∧w=w':=by go_enter func140,ntmps140;go_wp2_with fail;go_ret;exact⟨rfl,rfl⟩
theorem Hp(l:Nat)(h2:2≤l)(h3:l≤300)(w:World):Calls prog 178 #[.int .i64 (l:Nat)] w fun e w'=>e= .returned (.int .i64 ((1460+64*min (l-2) 3:Nat):Int))∧w=w':=by
 have sQ:(l:Int)≤300:=aa;have qT:(2:Int)≤(l:Int):=aa;by_cases hk:3<(l:Int)-2;·have hK:Hid (min (l-2) 3=3):=hdd aa;rw[hK.out];go_enter func178,ntmps178;go_wp2_with fail;go_ret;exact⟨rfl,rfl⟩
 ·have⟨K,hK⟩:=ex (min (l-2) 3);have hKi:(l:Int)-2=(K:Int):=aa;have hK3:(K:Int)≤3:=aa;rw[hK];clear hK hk;have hk: ¬(3:Int)<(K:Int):=aa;go_enter func178,ntmps178;go_wp2_with fail;go_ret;exact⟨aq,rfl⟩
theorem QQ(s:Nat)(hs:s<64)(w:World):Calls prog 180 #[.int .i64 (s:Nat)] w fun e w'=>e= .returned (.int .i64 ((1716+32*s:Nat):Int))∧w=w':=by have Zy:(s:Int)<64:=aa;go_enter func180,ntmps180;go_wp2_with fail;go_ret;exact⟨aq,rfl⟩
theorem Hq(w:World):Calls prog 182 #[] w fun e w'=>e= .returned (.int .i64 2164)∧w=w':=by go_enter func182,ntmps182;go_wp2_with fail;go_ret;exact⟨rfl,rfl⟩
theorem EC(A:Option Addr)(H:List UInt8)(c:Nat)(a:Int)(w:World)(hB:Bytes w A H)(hc:H.length≤c)(hH:H.length≤1000000000)(h1:1≤a)(h2:a≤4294967296):Calls prog 176 #[.slice A H.length c,.int .i64 a] w fun e w'=>e= .returned (.int .i64 (Md.jC H a:Nat))∧w=w':=by
 have⟨LK,yS⟩:=ex (Md.jC H a);rw[yS];have tY:(H.length:Int)≤(c:Int):=aa;have YT:(H.length:Int)≤1000000000:=aa;unfold Md.jC at yS;by_cases hb:a≤(H.length:Int)
 ·rw[if_pos hb]at yS;obtain⟨z,hz⟩: ∃z:Nat,(H.length:Int)-a=(z:Int):=⟨((H.length:Int)-a).toNat,aa⟩
  have Uv:(z:Int)<(H.length:Int):=aa;have TF: ¬(H.length:Int)<a:=aa;obtain⟨bb,off,rfl,_,bx⟩:=hB.addr aa;have cx:=bx z aa;rw[←cY]at cx;rw[show H.length-a.toNat=z by omega]at yS;generalize H.getD z 0=u at*;have GH:=hdd yS;clear bx yS hB;go_enter func176,ntmps176;go_wp2_with fail;go_ret;refine⟨congrArg (fun n:Int=>Ending.returned (Value.int .i64 n)) ?_,rfl⟩;rw[←GH.out];exact eN aa (ar u.toNat_lt)
 ·rw[if_neg hb]at yS;subst yS;have TF:(H.length:Int)<a:=aa;clear hB;go_enter func176,ntmps176;go_wp2_with fail;go_ret;exact⟨rfl,rfl⟩
end
end
end Go.Proofs.YtgfpocdiojifoaaGreatDoor
