import Derived.Test.YtfcaoggfnkhfiaaGreatDoorZ20
import Derived.Test.YtfcaoggfnkhfiaaGreatDoorZ19
import Derived.Deep.RegionHeld3
import Derived.RowKit3
import Derived.Deep.DeepCutAuto
namespace Go.Proofs.YtfcaoggfnkhfiaaGreatDoor
set_option maxRecDepth 100000
set_option maxHeartbeats 8000000
open Go.RowKit Go.Proofs.Tryz
variable{a:Act}{K:Act→World→Prop}{ops:Array Oper}{Q:Exit→Act→World→Prop}{l m r:List UInt8}{base bo c g gj n:Nat}{o:Oper}{A:Option Addr}{x:UInt8}{u v:Value}{w w' w1 wx:World}
def ir(bo:Nat)(w:World)(v:Value):Prop:=w.heap[bo]? =some (.cells #[v] 22 (0,0))
theorem ir.cell(h:ir bo w v):w.cell? ⟨bo,0,none⟩=some v:=by rw[cell_of_row w bo 0 _ _ _ h];rfl
theorem ir.frozen(h:ir bo w v):w.frozen? ⟨bo,0,none⟩=false:=by simp[World.frozen?,show w.heap[bo]? =_ from h]
theorem ir.lt(h:ir bo w v):bo<w.heap.size:=(cr h)
theorem ir.ne(h:ir bo w v)(ho:Own base w u l):u.ownBlock≠some bo:=by
 intro e;rcases ho with⟨_,⟨rfl,_⟩ | ⟨g,cap,cur,rfl,_,hg,_⟩⟩
 ·cases e
 ·injection e with e;subst e;rw[show w.heap[g]? =_ from h]at hg;injection hg with hg;injection hg with _ ht;exact absurd ht ak
theorem ir.set(h:ir bo w v)(u:Value):ir bo (w.setCell ⟨bo,0,none⟩ u) u:=heap_set (L:=[v]) h 0 u
theorem Own.rO(ho:Own base w u l)(h:ir bo w v)(x:Value):Own base (w.setCell ⟨bo,0,none⟩ x) u l:=by
 have hn:=h.ne ho;rcases ho with⟨h1,h2 | ⟨g,cap,cur,rfl,h3,hg,h4⟩⟩
 ·exact⟨h1,.inl h2⟩
 ·exact⟨h1,.inr ⟨g,cap,cur,rfl,h3,(ah _ _ _ _ (fun e=>hn (by simp[Value.ownBlock];exact e))).trans hg,h4⟩⟩
theorem ir.below(h:ir bo w v)(hb:Below w.heap.size w w'):ir bo w' v:=(hb.block bo h.lt).trans h
theorem ir.grown{row:Option Nat}(h:ir bo w v)(hg:w.grownBy w' row)(hn:row≠some bo):ir bo w' v:=(hg.block bo h.lt (fun e=>hn e.symm)).trans h
theorem Own.opened(h:Own base w v l)(h0:0<l.length): ∃g c,v= .slice (some ⟨g,0,none⟩) l.length c∧base≤g∧g<w.heap.size∧l.length≤c∧c≤9223372036854775807∧(∀i (h:i<(l.map B8).length),w.cell? ⟨g,i,none⟩=some (l.map B8)[i])∧ ∀i,w.frozen? ⟨g,i,none⟩=false:=by
 rcases h with⟨h1,⟨_,hn⟩ | ⟨g,cap,cur,rfl,hb,hg,MG,qn,dl,xH⟩⟩
 ·omega
 ·refine⟨g,cap,rfl,hb,?_,MG,by unfold maxLen at qn;exact qn,fun i hi=> ?_,fun i=> ?_⟩
  ·rcases Nat.lt_or_ge g w.heap.size with h | h;·exact h
   ·rw[Array.getElem?_eq_none h]at hg;cases hg
  ·rw[cell_of_row w g _ cur _ _ hg];have h2:=congrArg (fun x:List Value=>x[i]?) xH;rw[List.length_map]at hi;simp only[List.getElem?_take,Nat.mul_one,hi,if_true]at h2;rw[List.getElem?_eq_getElem (show i<(l.map B8).length by simpa using hi)]at h2;simpa using h2
  ·simp[World.frozen?,hg]
theorem Own.aA(h:Own base w v l)(hb: ∀g,v.ownBlock=some g→w'.heap[g]? =w.heap[g]?):Own base w' v l:=by
 rcases h with⟨h1,h2 | ⟨g,cap,cur,h2,h3,h4,h5⟩⟩
 ·exact⟨h1,.inl h2⟩
 ·exact⟨h1,.inr ⟨g,cap,cur,h2,h3,(hb g ow).trans h4,h5⟩⟩
theorem agN:Elem 22 5 (.int .u8 0) 1:=⟨underlying22,ai,rfl⟩
theorem Own.ans(h:Own base w v l):ey 5 base w v (l.map B8):=by have h':w.ownsRow base 5 1 v l.length (l.map B8):=h;unfold ey;rw[List.length_map];exact h'
theorem ey.bytes(h:ey 5 base w v (l.map B8++m.map B8)):Own base w v (l++m):=by have h':w.ownsRow base 5 1 v (l.map B8++m.map B8).length (l.map B8++m.map B8):=h;rw[←List.map_append,List.length_map]at h';exact h'
theorem xl(bo base:Nat)(v:Value)(L:List UInt8)(n:Nat)(w:World)(hb:ir bo w v)(ho:Own base w v L)(jS:base≤bo)(hn:n≤9223372036854775807)(hL:L.length≤100000000):
  Calls prog 74 #[.int .u64 (n:Nat),.pointer (some ⟨bo,0,none⟩)] w fun e w'=> ∃v',e= .returned (.tuple #[])∧ir bo w' v'∧Own base w' v' (L++Vl.put 9 n)∧Below base w w'∧(∀g,g<w.heap.size→g≠bo→v.ownBlock≠some g→w'.heap[g]? =w.heap[g]?)∧ ∀g,v'.ownBlock=some g→v.ownBlock=some g∨w.heap.size≤g:=by
 have HP:=ae (Mj n w hn);have HL:=ae (Vl.cN 9 n);generalize Vl.put 9 n=P at*;have ki:base≤w.heap.size:=Nat.le_trans jS (Nat.le_of_lt hb.lt);go_enter func74,ntmps74;go_wp2_with fail;refine HP.out.mono ?_;rintro e w1 ⟨v1,rfl,xa,az⟩;obtain⟨gp,c,rfl,_,hgp,cC,cU,D0,_⟩:=xa.opened HL.out.1;have Bm:=ae D0;have jA:=hb.below az;have eS:=jA.cell;have el:=ho.below az;have dl:=az.size;clear D0;go_wp2_with (refine kM agN rfl _ _ rfl base _ v (L.map B8) rfl el.ans gp P.length c (P.map B8) rfl ag Bm.out (lU P) (by have:=HL.out;simp;omega) (by have:=HL.out;simp;omega) aa ?_;intro v' w2 ab1 Qi DT;have fE:=ab1.bytes;have fL:=jA.grown Qi (fun e=>jA.ne el e);have wE:=fL.cell;have Kf:=fL.frozen;obtain⟨A3,c3,rfl,oj⟩:=fE.read;rw[List.length_append]at fE DT)
 go_end0;refine⟨_,rfl,fL.set _,fE.rO fL _,Below.setCell (ao (az.mono ki) Qi aa (fun g e=>(el.ax g e).1)) jS _,fun g h1 h2 h3=>(ah _ _ _ _ (fun e=>h2 e)).trans ((Qi.block g aa (fun e=>h3 e.symm)).trans (az.block g h1)),fun g hg=> ?_⟩;rcases DT with h | h;·exact .inl (h▸hg)
 ·refine .inr ?_;rw[h]at hg;injection hg with e;omega

def aR(k:Nat):Nat:=if 40<k then 0 else if k=40 then 4294967295 else(2+k%2)*2^(11+k/2)
theorem pB(k:Nat):aR k<4294967296:=by
 by_cases h:k≤40
 ·have: ∀k,k<41→aR k<4294967296:=by decide
  exact this k aa
 ·unfold aR;rw[if_pos aa];omega
theorem zx(i j:Nat)(h:i<j)(hj:j≤40):aR i<aR j:=by have: ∀j,j<41→ ∀i,i<j→aR i<aR j:=ak;exact this j aa i h
theorem Oz:aR 40=4294967295:=ak
def bh(d:Nat):Nat:=((List.range 41).find? fun i=>decide (d≤aR i)).getD 40
theorem zy(d k:Nat)(hk:k≤40)(h1:d≤aR k)(h2: ∀j,j<k→aR j<d):bh d=k:=by
 have:(List.range 41).find? (fun i=>decide (d≤aR i))=some k:=by rw[List.find?_range_eq_some];refine⟨by simpa using h1,av,fun j hj=>by simpa using h2 j hj⟩
 unfold bh;rw[this];rfl
theorem pC(d:Nat):bh d≤40:=by
 unfold bh;cases h:(List.range 41).find? (fun i=>decide (d≤aR i))with
 | none=>simp
 | some k=>have:=List.mem_of_find?_eq_some h;simp at this ⊢;omega
def Low(d k:Nat):Prop:= ∀j,j<k→aR j<d
theorem jn(k:Nat)(hk:k≤40)(w:World):Calls prog 37 #[.int .i64 (k:Nat)] w fun e w'=>e= .returned (.int .u32 (aR k:Nat))∧w=w':=by
 have hc:k=0∨k=1∨k=2∨k=3∨k=4∨k=5∨k=6∨k=7∨k=8∨k=9∨k=10∨k=11∨k=12∨k=13∨k=14∨k=15∨k=16∨k=17∨k=18∨k=19∨k=20∨k=21∨k=22∨k=23∨k=24∨k=25∨k=26∨k=27∨k=28∨k=29∨k=30∨k=31∨k=32∨k=33∨k=34∨k=35∨k=36∨k=37∨k=38∨k=39∨k=40:=aa;rcases hc with rfl | rfl | rfl | rfl | rfl | rfl | rfl | rfl | rfl | rfl | rfl | rfl | rfl | rfl | rfl | rfl | rfl | rfl | rfl | rfl | rfl | rfl | rfl | rfl | rfl | rfl | rfl | rfl | rfl | rfl | rfl | rfl | rfl | rfl | rfl | rfl | rfl | rfl | rfl | rfl | rfl
 all_goals
  go_enter func37,ntmps37;go_wp2_with fail;go_ret;exact⟨congrArg (fun n:Int=>Ending.returned (.int .u32 n)) ak,rfl⟩
theorem OA(a:Int)(h:a<0∨40<a)(w:World):Calls prog 37 #[.int .i64 a] w fun e w'=>e= .returned (.int .u32 0)∧w=w':=by
 rcases h with h | h;·go_enter func37,ntmps37;go_wp2_with fail;go_ret;exact⟨rfl,rfl⟩
 ·have h': ¬a<0:=by omega
  go_enter func37,ntmps37;go_wp2_with fail;go_ret;exact⟨rfl,rfl⟩
theorem TW(a:Int)(w:World):Calls prog 37 #[.int .i64 a] w fun e w'=>e= .returned (.int .u32 ((if a<0 then 0 else aR a.toNat:Nat):Int))∧w=w':=by
 by_cases h:a<0∨40<a
 ·refine(OA a h w).mono ?_;rintro e w' ⟨rfl,rfl⟩;refine⟨?_,rfl⟩;rcases h with h | h;·rw[if_pos h];rfl
  ·rw[if_neg aa];unfold aR;rw[if_pos aa];rfl
 ·obtain⟨k,rfl⟩: ∃k:Nat,a=(k:Int):=⟨a.toNat,aa⟩
  rw[if_neg aa,Int.toNat_natCast];exact jn k aa w
theorem tp(d:Nat)(hd:d<4294967296)(w:World):Calls prog 38 #[.int .u32 (d:Nat)] w fun e w'=>e= .returned (.int .i64 (bh d:Nat))∧w=w':=by
 have HE:=ae (zy d);generalize bh d=C at*;go_enter func38,ntmps38;go_wp2_with fail;go_loop [3] (fun i=> ∃k:Nat,k≤40∧i= .int .i64 k∧Low d k) (fun i=>40-(intOf i).toNat);case atStart=>exact⟨0,aa,rfl,fun j hj=>aa⟩
 case round=>
  obtain⟨k,hk,rfl,AQ⟩:=hrel;have HD:=ae (jn k hk w);have hl:=pB k;have HT:=ae Oz;by_cases aH:aR k<d
  ·have av6:k<40:=by
    rcases Nat.lt_or_ge k 40 with h | h;·exact h
    ·obtain rfl:k=40:=(by omega);rw[HT.out]at aH;omega
   have agO:Low d (k+1):=by
    intro j hj;by_cases e:j=k;·subst e;exact aH
    ·exact AQ j aa
   generalize aR k=D at*;go_wp2_with fail;refine HD.out.mono ?_;rintro e w' ⟨rfl,rfl⟩;go_wp2_with fail;go_round;case rel=>exact⟨k+1,aa,aE,agO⟩
   case measure=>simp[intOf];omega
  ·have hc:=HE.out k hk aa AQ;subst hc;generalize aR C=D at*;go_wp2_with fail;refine HD.out.mono ?_;rintro e w' ⟨rfl,rfl⟩;go_wp2_with fail;go_ret;exact⟨rfl,rfl⟩
def k9(f:bS):Option (List UInt8):=
 if f.id=33 then(if aR (bh f.n)=f.n then some [UInt8.ofNat (bh f.n)]else none)
 else if dF f=true then(if f.id=3 then some [UInt8.ofNat (f.n-1)]else if f.n=0 then some []else some (bytesOf true f.n))else none
def uT(w:World)(l:List UInt8)(tag:Value)(e:Ending)(w':World):Prop:= ∃v,e= .returned (.tuple #[v,tag])∧Own w.heap.size w' v l∧Below w.heap.size w w'
def TX(w:World)(tag:Value)(e:Ending)(w':World):Prop:=e= .returned (.tuple #[.slice none 0 0,tag])∧Below w.heap.size w w'
def ant(w:World)(yes no:Value)(r:Option (List UInt8)):Ending→World→Prop:=
 match r with
 | some l=>uT w l yes
 | none=>TX w no
theorem kD(w:World)(a b:Value)(T:TypeId):(w.alloc (.cells #[a,b] T)).drew.cell? ⟨w.heap.size,0,none⟩=some a∧(w.alloc (.cells #[a,b] T)).drew.cell? ⟨w.heap.size,1,none⟩=some b:=by
 constructor;·show(w.alloc (.cells #[a,b] T)).cell? ⟨w.heap.size,0,none⟩=some a;rw[cell_of_row _ _ _ _ _ _ (heap_alloc_last _ _)];rfl
 ·show(w.alloc (.cells #[a,b] T)).cell? ⟨w.heap.size,1,none⟩=some b;rw[cell_of_row _ _ _ _ _ _ (heap_alloc_last _ _)];rfl
theorem agP(w:World)(k base:Nat)(hk:k<256)(hb:base≤w.heap.size):Own base (w.alloc (.cells #[.int .u8 (k:Nat)] 5)) (.slice (some ⟨w.heap.size,0,none⟩) 1 1) [UInt8.ofNat k]:=by have h:=Own.lit w [UInt8.ofNat k] hb ag;have e:((UInt8.ofNat k).toNat:Nat)=k:=av;simp only[List.map,B8,e]at h;exact h
theorem TY(n:Nat):dF ⟨33,n⟩=false:=by simp[dF,Eh]
theorem OB(n:Nat)(hn:n<4294967296)(h:aR (bh n)=n)(w:World):
  Calls prog 75 #[.agg #[.int .i64 33,.int .u32 (n:Nat)]] w (uT w [UInt8.ofNat (bh n)] (.int .i64 0)):=by
 have hb:=dg w;have Kg:=ae (tp n hn);have hle:=pC n;have p_:=ae (jn (bh n) hle);rw[h]at p_;generalize bh n=C at*;clear h;go_enter func75,ntmps75;go_wp2_with fail;refine wp_region_held_drew (S:=fun w'=>w'.cell? ⟨w.heap.size,0,none⟩=some (.int .i64 33)∧w'.cell? ⟨w.heap.size,1,none⟩=some (.int .u32 (n:Nat))) ai (kD w _ _ _) (fun hS=> ?_);refine af 0 hS (h:=aL 1 hS (h:=af 2 hS (h:=af 3 hS (h:=af 4 hS (h:=aL 5 hS (h:=af 8 hS (h:=aL 9 hS (h:= ?_))))))));refine aC 6 (fun K hK=> ?_);go_simp;refine(Kg.out _).mono ?_;rintro e w' ⟨rfl,rfl⟩;go_wp2_with fail;refine hK.out _ _ hS (fun _=> ?_);clear hK K;refine aC 7 (fun K hK=> ?_);go_simp;refine(p_.out _).mono ?_;rintro e w' ⟨rfl,rfl⟩;go_wp2_with fail;refine hK.out _ _ hS (fun _=> ?_);clear hK K;refine af 10 hS (h:=af 11 hS (h:=af 12 hS (h:= ?_)));refine wpAnyH_done ai ?_ _;go_wp2_with fail;refine(Kg.out _).mono ?_;rintro e w' ⟨rfl,rfl⟩;go_wp2_with fail;go_ret2;have g:=hb (.cells #[.int .i64 33,.int .u32 (n:Nat)] 109);have e:(w.alloc (.cells #[.int .i64 33,.int .u32 (n:Nat)] 109)).heap.size=w.heap.size+1:=ag;have h:=agP (w.alloc (.cells #[.int .i64 33,.int .u32 (n:Nat)] 109)) C w.heap.size aa g.size;rw[e]at h;exact⟨_,rfl,h.drew,(g.alloc g.size _).drew⟩
theorem GG(n:Nat)(hn:n<4294967296)(h:aR (bh n)≠n)(w:World):
  Calls prog 75 #[.agg #[.int .i64 33,.int .u32 (n:Nat)]] w (TX w (.int .i64 1)):=by
 have hb:=dg w;have Kg:=ae (tp n hn);have hle:=pC n;have p_:=ae (jn (bh n) hle);have HF:=ae (mJ ⟨33,n⟩ ⟨ag,ag,hn⟩);rw[TY]at HF;simp only[bS.agg]at HF;generalize bh n=C at*;have AE:=pB C;have dH:((aR C:Int)==(n:Int))=false:=av;generalize aR C=D at*;clear h;go_enter func75,ntmps75;go_wp2_with fail;refine wp_region_held_drew (S:=fun w'=>w'.cell? ⟨w.heap.size,0,none⟩=some (.int .i64 33)∧w'.cell? ⟨w.heap.size,1,none⟩=some (.int .u32 (n:Nat))) ai (kD w _ _ _) (fun hS=> ?_);refine af 0 hS (h:=aL 1 hS (h:=af 2 hS (h:=af 3 hS (h:=af 4 hS (h:=aL 5 hS (h:=af 8 hS (h:=aL 9 hS (h:= ?_))))))));refine aC 6 (fun K hK=> ?_);go_simp;refine(Kg.out _).mono ?_;rintro e w' ⟨rfl,rfl⟩;go_wp2_with fail;refine hK.out _ _ hS (fun _=> ?_);clear hK K;refine aC 7 (fun K hK=> ?_);go_simp;refine(p_.out _).mono ?_;rintro e w' ⟨rfl,rfl⟩;go_wp2_with fail;refine hK.out _ _ hS (fun _=> ?_);clear hK K;refine af 10 hS (h:=af 11 hS (h:=af 12 hS (h:= ?_)));refine wpAnyH_done ai ?_ _;go_wp2_with fail;refine(HF.out _).mono ?_;rintro e w' ⟨rfl,aD⟩;go_wp2_with fail;go_ret2;exact⟨rfl,(hb _).drew.trans (aD.mono ag)⟩
theorem OC(id:Int)(n:Nat)(bL:(⟨id,n⟩:bS).ok)(li:id≠33)(hf:dF ⟨id,n⟩=false)(w:World):
  Calls prog 75 #[.agg #[.int .i64 id,.int .u32 (n:Nat)]] w (TX w (.int .i64 1)):=by
 have hb:=dg w;have HF:=ae (mJ ⟨id,n⟩ bL);rw[hf]at HF;simp only[bS.agg]at HF;obtain⟨o1,o2,o3⟩:=bL;simp only at o1 o2 o3;have hd:(id==33)=false:=oJ;clear li hf;go_enter func75,ntmps75;go_wp2_with fail;refine wp_region_held_drew (S:=fun w'=>w'.cell? ⟨w.heap.size,0,none⟩=some (.int .i64 id)∧w'.cell? ⟨w.heap.size,1,none⟩=some (.int .u32 (n:Nat))) ai (kD w _ _ _) (fun hS=> ?_);refine af 0 hS (h:=aL 1 hS (h:=af 2 hS (h:=af 3 hS (h:=bi 4 hS (h:=bi 5 hS (h:=bi 6 hS (h:=bi 7 hS (h:=bi 8 hS (h:=bi 9 hS (h:=bi 10 hS (h:=af 11 hS (h:= ?_))))))))))));refine af 12 hS (h:= ?_);refine wpAnyH_done ai ?_ _;go_wp2_with fail;refine(HF.out _).mono ?_;rintro e w' ⟨rfl,aD⟩;go_wp2_with fail;go_ret2;exact⟨rfl,(hb _).drew.trans (aD.mono ag)⟩
theorem TZ(n:Nat)(h1:1≤n)(h2:n≤256)(w:World):
  Calls prog 75 #[.agg #[.int .i64 3,.int .u32 (n:Nat)]] w (uT w [UInt8.ofNat (n-1)] (.int .i64 0)):=by
 have hb:=dg w;have HF:=ae (mJ ⟨3,n⟩ ⟨ag,ag,av⟩);have dw:dF ⟨3,n⟩=true:=by unfold dF;simp;omega
 rw[dw]at HF;simp only[bS.agg]at HF;clear dw;go_enter func75,ntmps75;go_wp2_with fail;refine wp_region_held_drew (S:=fun w'=>w'.cell? ⟨w.heap.size,0,none⟩=some (.int .i64 3)∧w'.cell? ⟨w.heap.size,1,none⟩=some (.int .u32 (n:Nat))) ai (kD w _ _ _) (fun hS=> ?_);refine af 0 hS (h:=aL 1 hS (h:=af 2 hS (h:=af 3 hS (h:=bi 4 hS (h:=bi 5 hS (h:=bi 6 hS (h:=bi 7 hS (h:=bi 8 hS (h:=bi 9 hS (h:=bi 10 hS (h:=af 11 hS (h:= ?_))))))))))));refine af 12 hS (h:= ?_);refine wpAnyH_done ai ?_ _;go_wp2_with fail;refine(HF.out _).mono ?_;rintro e w1 ⟨rfl,aD⟩;have k0:=(aD.cell (p:=⟨w.heap.size,0,none⟩) ag).trans hS.1;have k1:=(aD.cell (p:=⟨w.heap.size,1,none⟩) ag).trans hS.2;have g2:=(hb (.cells #[.int .i64 3,.int .u32 (n:Nat)] 109)).drew.trans (aD.mono ag);clear aD;have e:(n:Int)-1=((n-1:Nat):Int):=aa;have av7:n-1<256:=aa;generalize n-1=m at*;go_wp2_with fail;go_ret2;exact⟨_,rfl,agP _ _ _ aa g2.size,g2.alloc g2.size _⟩
theorem T3(id:Int)(bL:(⟨id,0⟩:bS).ok)(li:id≠33)(h3:id≠3)(hf:dF ⟨id,0⟩=true)(w:World):
  Calls prog 75 #[.agg #[.int .i64 id,.int .u32 0]] w (uT w [] (.int .i64 0)):=by
 have hb:=dg w;have HF:=ae (mJ ⟨id,0⟩ bL);rw[hf]at HF;simp only[bS.agg]at HF;obtain⟨o1,o2,o3⟩:=bL;simp only at o1 o2 o3;have hd:(id==33)=false:=oJ;have vV:(id==3)=false:=by simp[h3]
 clear li hf h3;go_enter func75,ntmps75;go_wp2_with fail;refine wp_region_held_drew (S:=fun w'=>w'.cell? ⟨w.heap.size,0,none⟩=some (.int .i64 id)∧w'.cell? ⟨w.heap.size,1,none⟩=some (.int .u32 0)) ai (kD w _ _ _) (fun hS=> ?_);refine af 0 hS (h:=aL 1 hS (h:=af 2 hS (h:=af 3 hS (h:=bi 4 hS (h:=bi 5 hS (h:=bi 6 hS (h:=bi 7 hS (h:=bi 8 hS (h:=bi 9 hS (h:=bi 10 hS (h:=af 11 hS (h:= ?_))))))))))));refine af 12 hS (h:= ?_);refine wpAnyH_done ai ?_ _;go_wp2_with fail;refine(HF.out _).mono ?_;rintro e w1 ⟨rfl,aD⟩;have k0:=(aD.cell (p:=⟨w.heap.size,0,none⟩) ag).trans hS.1;have k1:=(aD.cell (p:=⟨w.heap.size,1,none⟩) ag).trans hS.2;have g2:=(hb (.cells #[.int .i64 id,.int .u32 0] 109)).drew.trans (aD.mono ag);clear aD;go_wp2_with fail;go_ret2;exact⟨_,rfl,Own.nil _ _,g2⟩
theorem T4(id:Int)(n:Nat)(bL:(⟨id,n⟩:bS).ok)(li:id≠33)(h3:id≠3)(hf:dF ⟨id,n⟩=true)(h0:n≠0)(w:World):
  Calls prog 75 #[.agg #[.int .i64 id,.int .u32 (n:Nat)]] w (uT w (bytesOf true n) (.int .i64 0)):=by
 have hb:=dg w;have HF:=ae (mJ ⟨id,n⟩ bL);rw[hf]at HF;simp only[bS.agg]at HF;obtain⟨o1,o2,o3⟩:=bL;simp only at o1 o2 o3;have hd:(id==33)=false:=oJ;have vV:(id==3)=false:=by simp[h3]
 have Bc:((n:Int)==0)=false:=by simp[h0]
 clear li hf h3;have e0:(n:Int)%256=((UInt8.ofNat (n%256)).toNat:Int):=by rw[zg n];omega
 have e1:(n:Int)/256%256=((UInt8.ofNat (n/256%256)).toNat:Int):=by rw[zg (n/256)];omega
 have e2:(n:Int)/65536%256=((UInt8.ofNat (n/65536%256)).toNat:Int):=by rw[zg (n/65536)];omega
 have e3:(n:Int)/16777216%256=((UInt8.ofNat (n/16777216%256)).toNat:Int):=by rw[zg (n/16777216)];omega
 have e3':(n:Int)/16777216=((UInt8.ofNat (n/16777216%256)).toNat:Int):=by rw[zg (n/16777216)];omega
 have kO:bytesOf true n=[UInt8.ofNat (n%256),UInt8.ofNat (n/256%256),UInt8.ofNat (n/65536%256),UInt8.ofNat (n/16777216%256)]:=rfl;rw[kO];generalize UInt8.ofNat (n%256)=y0 at*;generalize UInt8.ofNat (n/256%256)=y1 at*;generalize UInt8.ofNat (n/65536%256)=y2 at*;generalize UInt8.ofNat (n/16777216%256)=y3 at*;clear kO;go_enter func75,ntmps75;go_wp2_with fail;refine wp_region_held_drew (S:=fun w'=>w'.cell? ⟨w.heap.size,0,none⟩=some (.int .i64 id)∧w'.cell? ⟨w.heap.size,1,none⟩=some (.int .u32 (n:Nat))) ai (kD w _ _ _) (fun hS=> ?_);refine af 0 hS (h:=aL 1 hS (h:=af 2 hS (h:=af 3 hS (h:=bi 4 hS (h:=bi 5 hS (h:=bi 6 hS (h:=bi 7 hS (h:=bi 8 hS (h:=bi 9 hS (h:=bi 10 hS (h:=af 11 hS (h:= ?_))))))))))));refine af 12 hS (h:= ?_);refine wpAnyH_done ai ?_ _;go_wp2_with fail;refine(HF.out _).mono ?_;rintro e w1 ⟨rfl,aD⟩;have k0:=(aD.cell (p:=⟨w.heap.size,0,none⟩) ag).trans hS.1;have k1:=(aD.cell (p:=⟨w.heap.size,1,none⟩) ag).trans hS.2;have g2:=(hb (.cells #[.int .i64 id,.int .u32 (n:Nat)] 109)).drew.trans (aD.mono ag);clear aD;go_wp2_with fail;go_ret2;exact⟨_,rfl,abE _ _ _ _ _ _ g2.size,g2.alloc g2.size _⟩
theorem Kh(f:bS)(bL:f.ok)(w:World):Calls prog 75 #[f.agg] w (ant w (.int .i64 0) (.int .i64 1) (k9 f)):=by
 obtain⟨id,n⟩:=f;have hn:=bL.2.2;simp only at hn;unfold k9;simp only;by_cases li:id=33
 ·subst li;rw[if_pos rfl];by_cases hd:aR (bh n)=n;·rw[if_pos hd];exact OB n hn hd w
  ·rw[if_neg hd];exact GG n hn hd w
 ·rw[if_neg li];by_cases hf:dF ⟨id,n⟩=true
  ·rw[if_pos hf];by_cases h3:id=3
   ·subst h3;rw[if_pos rfl];rcases zm _ hf with⟨_,g1,g2⟩ | ⟨e,_,_⟩
    ·exact TZ n g1 g2 w
    ·exact absurd rfl e
   ·rw[if_neg h3];by_cases h0:n=0;·subst h0;rw[if_pos rfl];exact T3 id bL li h3 hf w
    ·rw[if_neg h0];exact T4 id n bL li h3 hf h0 w
  ·rw[if_neg hf];exact OC id n bL li (by simpa using hf) w
def tq(w:World)(id:Int)(n:Nat)(tag:Value)(e:Ending)(w':World):Prop:=e= .returned (.tuple #[.agg #[.int .i64 id,.int .u32 (n:Nat)],tag])∧Below w.heap.size w w'
theorem Ki(id:Int)(li:id≠33)(h3:id≠3)(hi:jF id=false)(A:Option Addr)(n c:Nat)(w:World):
  Calls prog 246 #[.int .i64 id,.slice A n c] w (tq w 0 0 (.int .i64 5)):=by
 have HI:=ae (dG id);rw[hi]at HI;have d33:(id==33)=false:=oJ;have d3:(id==3)=false:=by simp[h3]
 clear li h3 hi;go_enter func246,ntmps246;go_wp2_with fail;refine(HI.out _).mono ?_;rintro e w' ⟨rfl,rfl⟩;go_wp2_with fail;refine(HI.out _).mono ?_;rintro e w' ⟨rfl,rfl⟩;go_wp2_with fail;exact bodyPost_ret (v:= .tuple #[.agg #[.int .i64 0,.int .u32 0],.int .i64 5]) ka rfl ⟨rfl,(ar).alloc ag _⟩
def eI(id:Int)(l:List UInt8):Option bS:=
 if id=33 then(match l with | [x]=>if x.toNat≤40 then some ⟨33,aR x.toNat⟩else none | _=>none)
 else if id=3 then(match l with | [x]=>some ⟨3,x.toNat+1⟩ | _=>none)
 else if jF id=true then(match l with | []=>some ⟨id,0⟩ | [a,b,c,d]=>if a.toNat%4=0 then some ⟨id,word true a b c d⟩else none | _=>none)
 else none
def anu(w:World)(yes no:Value)(r:Option bS):Ending→World→Prop:=
 match r with
 | some f=>tq w f.id f.n yes
 | none=>tq w 0 0 no
theorem Kj(A:Option Addr)(n c:Nat)(h:n≠1)(w:World):
  Calls prog 246 #[.int .i64 33,.slice A n c] w (tq w 0 0 (.int .i64 5)):=by
 have HI:=ae (dG 33);rw[show jF 33=false by decide]at HI;have d1:((n:Int)==1)=false:=av;clear h;go_enter func246,ntmps246;go_wp2_with fail;refine(HI.out _).mono ?_;rintro e w' ⟨rfl,rfl⟩;go_wp2_with fail;refine(HI.out _).mono ?_;rintro e w' ⟨rfl,rfl⟩;go_wp2_with fail;exact bodyPost_ret (v:= .tuple #[.agg #[.int .i64 0,.int .u32 0],.int .i64 5]) ka rfl ⟨rfl,(ar).alloc ag _⟩
theorem GH(b off c:Nat)(x:UInt8)(h:40<x.toNat)(w:World)(hx:w.cell? ⟨b,off,none⟩=some (B8 x))(hb:b<w.heap.size):
  Calls prog 246 #[.int .i64 33,.slice (some ⟨b,off,none⟩) 1 c] w (tq w 0 0 (.int .i64 5)):=by
 have HI:=ae (dG 33);rw[show jF 33=false by decide]at HI;have d1:decide ((x.toNat:Int)≤40)=false:=av;clear h;have P8:b≠w.heap.size:=aa;have YG:b≠w.heap.size+1:=aa;go_enter func246,ntmps246;go_wp2_with fail;refine(HI.out _).mono ?_;rintro e w' ⟨rfl,rfl⟩;go_wp2_with fail;refine(HI.out _).mono ?_;rintro e w' ⟨rfl,rfl⟩;go_wp2_with fail;exact bodyPost_ret (v:= .tuple #[.agg #[.int .i64 0,.int .u32 0],.int .i64 5]) ka rfl ⟨rfl,(ar).alloc ag _⟩
theorem T5(b off c:Nat)(x:UInt8)(h:x.toNat≤40)(w:World)(hx:w.cell? ⟨b,off,none⟩=some (B8 x))(hb:b<w.heap.size):
  Calls prog 246 #[.int .i64 33,.slice (some ⟨b,off,none⟩) 1 c] w (tq w 33 (aR x.toNat) (.int .i64 0)):=by
 have HD:=ae (jn x.toNat h);have AE:=pB x.toNat;have d1:decide ((x.toNat:Int)≤40)=true:=av;generalize aR x.toNat=D at*;have P8:b≠w.heap.size:=aa;have YG:b≠w.heap.size+1:=aa;go_enter func246,ntmps246;go_wp2_with fail;refine(HD.out _).mono ?_;rintro e w' ⟨rfl,rfl⟩;go_wp2_with fail;exact bodyPost_ret (v:= .tuple #[.agg #[.int .i64 33,.int .u32 (D:Nat)],.int .i64 0]) ka rfl ⟨rfl,(ar).alloc ag _⟩
theorem YH(b off c:Nat)(x:UInt8)(w:World)(hx:w.cell? ⟨b,off,none⟩=some (B8 x))(hb:b<w.heap.size):
  Calls prog 246 #[.int .i64 3,.slice (some ⟨b,off,none⟩) 1 c] w (tq w 3 (x.toNat+1) (.int .i64 0)):=by
 have hl:=x.toNat_lt;have P8:b≠w.heap.size:=aa;have YG:b≠w.heap.size+1:=aa;go_enter func246,ntmps246;go_wp2_with fail;exact bodyPost_ret (v:= .tuple #[.agg #[.int .i64 3,.int .u32 ((x.toNat:Int)+1)],.int .i64 0]) ka rfl ⟨congrArg (fun n:Int=>Ending.returned (.tuple #[.agg #[.int .i64 3,.int .u32 n],.int .i64 0])) aa,(ar).alloc ag _⟩
theorem OD(A:Option Addr)(n c:Nat)(h:n≠1)(w:World):
  Calls prog 246 #[.int .i64 3,.slice A n c] w (tq w 0 0 (.int .i64 5)):=by
 have HI:=ae (dG 3);rw[show jF 3=false by decide]at HI;have d1:((n:Int)==1)=false:=av;clear h;go_enter func246,ntmps246;go_wp2_with fail;refine(HI.out _).mono ?_;rintro e w' ⟨rfl,rfl⟩;go_wp2_with fail;refine(HI.out _).mono ?_;rintro e w' ⟨rfl,rfl⟩;go_wp2_with fail;exact bodyPost_ret (v:= .tuple #[.agg #[.int .i64 0,.int .u32 0],.int .i64 5]) ka rfl ⟨rfl,(ar).alloc ag _⟩
theorem YI(id:Int)(li:id≠33)(h3:id≠3)(hi:jF id=true)(A:Option Addr)(c:Nat)(w:World):
  Calls prog 246 #[.int .i64 id,.slice A 0 c] w (tq w id 0 (.int .i64 0)):=by
 have HI:=ae (dG id);rw[hi]at HI;have d33:(id==33)=false:=oJ;have d3:(id==3)=false:=by simp[h3]
 clear li h3 hi;go_enter func246,ntmps246;go_wp2_with fail;refine(HI.out _).mono ?_;rintro e w' ⟨rfl,rfl⟩;go_wp2_with fail;exact bodyPost_ret (v:= .tuple #[.agg #[.int .i64 id,.int .u32 0],.int .i64 0]) ka rfl ⟨rfl,(ar).alloc ag _⟩
theorem GI(id:Int)(li:id≠33)(h3:id≠3)(hi:jF id=true)(A:Option Addr)(n c:Nat)(Bc:n≠0)(hn4:n≠4)(w:World):
  Calls prog 246 #[.int .i64 id,.slice A n c] w (tq w 0 0 (.int .i64 5)):=by
 have HI:=ae (dG id);rw[hi]at HI;have d33:(id==33)=false:=oJ;have d3:(id==3)=false:=by simp[h3]
 have e0:((n:Int)==0)=false:=av;have e4:((n:Int)==4)=false:=av;clear li h3 hi Bc hn4;go_enter func246,ntmps246;go_wp2_with fail;refine(HI.out _).mono ?_;rintro e w' ⟨rfl,rfl⟩;go_wp2_with fail;refine(HI.out _).mono ?_;rintro e w' ⟨rfl,rfl⟩;go_wp2_with fail;exact bodyPost_ret (v:= .tuple #[.agg #[.int .i64 0,.int .u32 0],.int .i64 5]) ka rfl ⟨rfl,(ar).alloc ag _⟩
theorem OE(id:Int)(li:id≠33)(h3:id≠3)(hi:jF id=true)(b off c:Nat)(x:UInt8)(h:x.toNat%4≠0)(w:World)(hx:w.cell? ⟨b,off,none⟩=some (B8 x))(hb:b<w.heap.size):
  Calls prog 246 #[.int .i64 id,.slice (some ⟨b,off,none⟩) 4 c] w (tq w 0 0 (.int .i64 5)):=by
 have HI:=ae (dG id);rw[hi]at HI;have d33:(id==33)=false:=oJ;have d3:(id==3)=false:=by simp[h3]
 have e4:((x.toNat:Int)%4==0)=false:=av;have P8:b≠w.heap.size:=aa;have YG:b≠w.heap.size+1:=aa;clear li h3 hi h;go_enter func246,ntmps246;go_wp2_with fail;refine(HI.out _).mono ?_;rintro e w' ⟨rfl,rfl⟩;go_wp2_with fail;refine(HI.out _).mono ?_;rintro e w' ⟨rfl,rfl⟩;go_wp2_with fail;exact bodyPost_ret (v:= .tuple #[.agg #[.int .i64 0,.int .u32 0],.int .i64 5]) ka rfl ⟨rfl,(ar).alloc ag _⟩
theorem OG(w:World)(a0 a1 b0 b1:Value)(T:TypeId):((w.alloc (.cells #[a0,a1] T)).alloc (.cells #[b0,b1] T)).drew.cell? ⟨w.heap.size,0,none⟩=some a0∧((w.alloc (.cells #[a0,a1] T)).alloc (.cells #[b0,b1] T)).drew.cell? ⟨w.heap.size,1,none⟩=some a1∧
  ((w.alloc (.cells #[a0,a1] T)).alloc (.cells #[b0,b1] T)).drew.cell? ⟨w.heap.size+1,0,none⟩=some b0∧((w.alloc (.cells #[a0,a1] T)).alloc (.cells #[b0,b1] T)).drew.cell? ⟨w.heap.size+1,1,none⟩=some b1∧
  ((w.alloc (.cells #[a0,a1] T)).alloc (.cells #[b0,b1] T)).drew.frozen? ⟨w.heap.size,0,none⟩=false∧((w.alloc (.cells #[a0,a1] T)).alloc (.cells #[b0,b1] T)).drew.frozen? ⟨w.heap.size,1,none⟩=false∧
  Below w.heap.size w ((w.alloc (.cells #[a0,a1] T)).alloc (.cells #[b0,b1] T)).drew:=by
 have e:(w.alloc (.cells #[a0,a1] T)).heap.size=w.heap.size+1:=ag;have hb:=dg (w.alloc (.cells #[a0,a1] T)) (.cells #[b0,b1] T);refine⟨(hb.cell (p:=⟨w.heap.size,0,none⟩) ag).trans ?_,(hb.cell (p:=⟨w.heap.size,1,none⟩) ag).trans ?_,?_,?_,(hb.frozen (p:=⟨w.heap.size,0,none⟩) ag).trans ?_,(hb.frozen (p:=⟨w.heap.size,1,none⟩) ag).trans ?_,((dg w _).trans (hb.mono ag)).drew⟩;·rw[cell_of_row _ _ _ _ _ _ (heap_alloc_last _ _)];rfl
 ·rw[cell_of_row _ _ _ _ _ _ (heap_alloc_last _ _)];rfl
 ·rw[←e];show((w.alloc _).alloc _).cell? _=_;rw[cell_of_row _ _ _ _ _ _ (heap_alloc_last _ _)];rfl
 ·rw[←e];show((w.alloc _).alloc _).cell? _=_;rw[cell_of_row _ _ _ _ _ _ (heap_alloc_last _ _)];rfl
 ·rw[frozen?_alloc_cells];simp[World.frozen?]
 ·rw[frozen?_alloc_cells];simp[World.frozen?]
theorem tr(w:World)(o p:Obj)(b k:Nat)(hb:b<w.heap.size):((w.alloc o).alloc p).drew.cell? ⟨b,k,none⟩=w.cell? ⟨b,k,none⟩:=
 (((dg w o).alloc (dg w o).size p).drew).cell (p:=⟨b,k,none⟩) hb
theorem YJ(id:Int)(li:id≠33)(h3:id≠3)(hi:jF id=true)(b off c:Nat)(x0 x1 x2 x3:UInt8)(h:x0.toNat%4=0)(w:World)(hb:b<w.heap.size)(h0:w.cell? ⟨b,off,none⟩=some (B8 x0))(h1:w.cell? ⟨b,off+1,none⟩=some (B8 x1))(h2:w.cell? ⟨b,off+2,none⟩=some (B8 x2))(h3':w.cell? ⟨b,off+3,none⟩=some (B8 x3)):
  Calls prog 246 #[.int .i64 id,.slice (some ⟨b,off,none⟩) 4 c] w (tq w id (word true x0 x1 x2 x3) (.int .i64 0)):=by
 have HI:=ae (dG id);rw[hi]at HI;have HW:=ae (Ee _ _ _ _ x0.toNat_lt x1.toNat_lt x2.toNat_lt x3.toNat_lt);have Oi:word true x0 x1 x2 x3=x0.toNat+x1.toNat*256+x2.toNat*65536+x3.toNat*16777216:=rfl;rw[←Oi]at HW;generalize word true x0 x1 x2 x3=R at*;have d33:(id==33)=false:=oJ;have d3:(id==3)=false:=by simp[h3]
 have e4:((x0.toNat:Int)%4==0)=true:=av;have P8:b≠w.heap.size:=aa;have YG:b≠w.heap.size+1:=aa;clear li h3 hi h Oi;go_enter func246,ntmps246;go_wp2_with fail;refine(HI.out _).mono ?_;rintro e w' ⟨rfl,rfl⟩;go_wp2_with fail;refine(HI.out _).mono ?_;rintro e w' ⟨rfl,rfl⟩;go_wp2_with fail;have k0:=fun o p=>(tr w o p b off hb).trans h0;have k1:=fun o p=>(tr w o p b (off+1) hb).trans h1;have k2:=fun o p=>(tr w o p b (off+2) hb).trans h2;have k3:=fun o p=>(tr w o p b (off+3) hb).trans h3';refine wp_region_held_drew (S:=fun w'=>w'.cell? ⟨b,off,none⟩=some (B8 x0)∧w'.cell? ⟨b,off+1,none⟩=some (B8 x1)∧w'.cell? ⟨b,off+2,none⟩=some (B8 x2)∧w'.cell? ⟨b,off+3,none⟩=some (B8 x3)) ai ⟨k0 _ _,k1 _ _,k2 _ _,k3 _ _⟩ (fun hS=> ?_);refine af 0 hS (h:=af 1 hS (h:=aL 2 hS (h:=af 3 hS (h:=af 4 hS (h:=af 5 hS (h:=aL 6 hS (h:=af 7 hS (h:=af 8 hS (h:=af 9 hS (h:=af 10 hS (h:=af 11 hS (h:= ?_))))))))))));refine aL 12 hS (h:=af 13 hS (h:=af 14 hS (h:=af 15 hS (h:=af 16 hS (h:=af 17 hS (h:=aL 18 hS (h:=af 19 hS (h:=af 20 hS (h:=af 21 hS (h:=af 22 hS (h:= ?_)))))))))));rw[HW.out];refine aC 23 (fun K hK=> ?_);go_simp;refine hK.out _ _ ⟨k0 _ _,k1 _ _,k2 _ _,k3 _ _⟩ (fun _=> ?_);clear hK K;refine wpAnyH_done ai ?_ _;clear k0 k1 k2 k3 h0 h1 h2 h3' HW;have q:=OG w (.int .i64 0) (.int .u32 0) (.int .i64 id) (.int .u32 (R:Nat)) 109;generalize((w.alloc (.cells #[.int .i64 0,.int .u32 0] 109)).alloc (.cells #[.int .i64 id,.int .u32 (R:Nat)] 109)).drew=W at*;obtain⟨q1,q2,q3,q4,q5,q6,q7⟩:=q;have r1:=World.cell?_setCell_same' W ⟨w.heap.size,0,none⟩ (.int .i64 id) (by rw[q1];rfl);have r2:=World.cell?_setCell_same' (W.setCell ⟨w.heap.size,0,none⟩ (.int .i64 id)) ⟨w.heap.size,1,none⟩ (.int .u32 (R:Nat)) (by rw[World.cell?_setCell_other _ _ _ _ ag,q2];rfl);go_wp2_with fail;exact bodyPost_ret (v:= .tuple #[.agg #[.int .i64 id,.int .u32 (R:Nat)],.int .i64 0]) (by simp[results,results246,go_sem,r1,r2]) rfl ⟨rfl,(q7.setCell (Nat.le_refl _) _).setCell (Nat.le_refl _) _⟩


theorem Bytes.ab2{x0 x1 x2 x3:UInt8}(h:Bytes w A [x0,x1,x2,x3]): ∃b off,A=some ⟨b,off,none⟩∧b<w.heap.size∧w.cell? ⟨b,off,none⟩=some (B8 x0)∧w.cell? ⟨b,off+1,none⟩=some (B8 x1)∧w.cell? ⟨b,off+2,none⟩=some (B8 x2)∧w.cell? ⟨b,off+3,none⟩=some (B8 x3):=by obtain⟨b,off,rfl,hb,hc⟩:=h.addr ag;exact⟨b,off,rfl,hb,hc 0 ag,hc 1 ag,hc 2 ag,hc 3 ag⟩
theorem Bytes.T6(h:Bytes w A [x]): ∃b off,A=some ⟨b,off,none⟩∧b<w.heap.size∧w.cell? ⟨b,off,none⟩=some (B8 x):=by obtain⟨b,off,rfl,hb,hc⟩:=h.addr ag;exact⟨b,off,rfl,hb,hc 0 ag⟩
theorem OH(l:List UInt8):l=[]∨(∃x,l=[x])∨(∃a b c d,l=[a,b,c,d])∨(l.length≠0∧l.length≠1∧l.length≠4):=by
 match l with
 | []=>exact .inl rfl
 | [x]=>exact .inr (.inl ⟨x,rfl⟩)
 | [_,_]=>exact .inr (.inr (.inr ⟨ag,ag,ag⟩))
 | [_,_,_]=>exact .inr (.inr (.inr ⟨ag,ag,ag⟩))
 | [a,b,c,d]=>exact .inr (.inr (.inl ⟨a,b,c,d,rfl⟩))
 | _::_::_::_::_::_=>exact .inr (.inr (.inr ⟨ag,ag,ag⟩))
theorem OI(l:List UInt8)(h:l.length≠1):eI 33 l=none:=by
 unfold eI;rw[if_pos rfl];match l with
 | []=>rfl
 | [x]=>simp at h
 | _::_::_=>rfl
theorem T7(l:List UInt8)(h:l.length≠1):eI 3 l=none:=by
 unfold eI;rw[if_neg aa,if_pos rfl];match l with
 | []=>rfl
 | [x]=>simp at h
 | _::_::_=>rfl
theorem Mk(id:Int)(li:id≠33)(h3:id≠3)(l:List UInt8)(h0:l.length≠0)(h4:l.length≠4):eI id l=none:=by
 unfold eI;rw[if_neg li,if_neg h3];split
 ·match l with
  | []=>simp at h0
  | [_]=>rfl
  | [_,_]=>rfl
  | [_,_,_]=>rfl
  | [_,_,_,_]=>simp at h4
  | _::_::_::_::_::_=>rfl
 ·rfl
theorem T8(a b c d:UInt8):word true a b c d%4=a.toNat%4:=by simp only[word,if_true];omega
theorem OJ(id:Int)(A:Option Addr)(l:List UInt8)(c:Nat)(w:World)(hB:Bytes w A l):
  Calls prog 246 #[.int .i64 id,.slice A l.length c] w (anu w (.int .i64 0) (.int .i64 5) (eI id l)):=by
 by_cases li:id=33
 ·subst li;by_cases h1:l.length=1
  ·obtain⟨x,rfl⟩: ∃x,l=[x]:=by
    match l,h1 with
    | [x],_=>exact⟨x,rfl⟩
   obtain⟨b,off,rfl,hb,hx⟩:=hB.T6;have e:eI 33 [x]=if x.toNat≤40 then some ⟨33,aR x.toNat⟩else none:=rfl;rw[e];by_cases h:x.toNat≤40;·rw[if_pos h];exact T5 b off c x h w hx hb
   ·rw[if_neg h];exact GH b off c x aa w hx hb
  ·rw[OI l h1];exact Kj A _ c h1 w
 by_cases h3:id=3
 ·subst h3;by_cases h1:l.length=1
  ·obtain⟨x,rfl⟩: ∃x,l=[x]:=by
    match l,h1 with
    | [x],_=>exact⟨x,rfl⟩
   obtain⟨b,off,rfl,hb,hx⟩:=hB.T6;exact YH b off c x w hx hb
  ·rw[T7 l h1];exact OD A _ c h1 w
 cases hi:jF id with
 | false=>
  have e:eI id l=none:=by unfold eI;rw[if_neg li,if_neg h3,if_neg (by simp[hi])]
  rw[e];exact Ki id li h3 hi A _ c w
 | true=>
  rcases OH l with rfl | ⟨x,rfl⟩ | ⟨x0,x1,x2,x3,rfl⟩ | ⟨h0,_,h4⟩
  ·have e:eI id []=some ⟨id,0⟩:=(by unfold eI;rw[if_neg li,if_neg h3,if_pos hi]);rw[e];exact YI id li h3 hi A c w
  ·rw[Mk id li h3 [x] ag ag];exact GI id li h3 hi A _ c ag ag w
  ·obtain⟨b,off,rfl,hb,k0,k1,k2,k3⟩:=hB.ab2;have e:eI id [x0,x1,x2,x3]=if x0.toNat%4=0 then some ⟨id,word true x0 x1 x2 x3⟩else none:=(by unfold eI;rw[if_neg li,if_neg h3,if_pos hi]);rw[e];by_cases h:x0.toNat%4=0;·rw[if_pos h];exact YJ id li h3 hi b off c x0 x1 x2 x3 h w hb k0 k1 k2 k3
   ·rw[if_neg h];exact OE id li h3 hi b off c x0 h w k0 hb
  ·rw[Mk id li h3 l h0 h4];exact GI id li h3 hi A _ c h0 h4 w
theorem lN(k:Nat)(h:k<256):(UInt8.ofNat k).toNat=k:=av
theorem Kk(f:bS)(bL:f.ok)(l:List UInt8)(h:k9 f=some l):eI f.id l=some f:=by
 obtain⟨id,n⟩:=f;obtain⟨_,_,hn⟩:=bL;simp only at hn;unfold k9 at h;simp only at h ⊢;by_cases li:id=33
 ·subst li;rw[if_pos rfl]at h;by_cases hd:aR (bh n)=n;·rw[if_pos hd]at h;injection h with h;subst h;have hle:=pC n;show(if(UInt8.ofNat (bh n)).toNat≤40 then some (⟨33,aR (UInt8.ofNat (bh n)).toNat⟩:bS)else none)=_;rw[lN _ aa,if_pos hle,hd]
  ·rw[if_neg hd]at h;cases h
 ·rw[if_neg li]at h;by_cases hf:dF ⟨id,n⟩=true
  ·rw[if_pos hf]at h;rcases zm _ hf with⟨e,g1,g2⟩ | ⟨e,g1,g2⟩
   ·simp only at e g1 g2;subst e;rw[if_pos rfl]at h;injection h with h;subst h;show some (⟨3,(UInt8.ofNat (n-1)).toNat+1⟩:bS)=_;rw[lN _ aa,show n-1+1=n by omega]
   ·simp only at e g1 g2;have hi:jF id=true:=(by unfold JX at g1;unfold jF;simp;omega);rw[if_neg e]at h;by_cases h0:n=0;·subst h0;rw[if_pos rfl]at h;injection h with h;subst h;unfold eI;rw[if_neg li,if_neg e,if_pos hi]
    ·rw[if_neg h0]at h;injection h with h;subst h;obtain⟨a,b,c,d,h1,h2⟩:=tg true n hn;rw[h1];have hm:=T8 a b c d;rw[h2]at hm;unfold eI;rw[if_neg li,if_neg e,if_pos hi];simp only;rw[if_pos aa,h2]
  ·rw[if_neg hf]at h;cases h
theorem Ua(id:Int)(l:List UInt8)(g:bS)(h:eI id l=some g):g.n<4294967296:=by
 unfold eI at h;split at h
 ·split at h
  ·split at h;·injection h with h;subst h;exact pB _
   ·cases h
  ·cases h
 ·split at h
  ·split at h;·rename_i x;injection h with h;subst h;have:=x.toNat_lt;simp only;omega
   ·cases h
  ·split at h
   ·split at h;·injection h with h;subst h;simp
    ·split at h;·injection h with h;subst h;exact word_lt true _ _ _ _
     ·cases h
    ·cases h
   ·cases h
def dP(l:List bS):List Value:=l.flatMap fun f=>[Value.int .i64 f.id,Value.int .u32 (f.n:Nat)]
theorem n7(l:List bS):(dP l).length=l.length*2:=by
 induction l with
 | nil=>rfl
 | cons a l ih=>simp only[dP,List.flatMap_cons,List.length_append,List.length_cons,List.length_nil]at ih ⊢;omega
theorem wF(l m:List bS):dP (l++m)=dP l++dP m:=by simp[dP]
theorem tw(l:List bS): ∀i (h:i<l.length),(dP l)[i*2]? =some (.int .i64 l[i].id)∧(dP l)[i*2+1]? =some (.int .u32 (l[i].n:Nat)):=by
 induction l with
 | nil=>intro i h;simp at h
 | cons a l ih=>
  intro i h;cases i with
  | zero=>exact⟨rfl,rfl⟩
  | succ i=>
   have:=ih i kJ;rw[show(i+1)*2=i*2+1+1 by omega];exact this
theorem Eo(l:List bS): ∀u∈dP l,u.oneCell'=true:=by intro u hu;simp only[dP,List.mem_flatMap]at hu;obtain⟨f,_,hu⟩:=hu;simp at hu;rcases hu with rfl | rfl<;>rfl
def eM(base:Nat)(w:World)(v:Value)(l:List bS):Prop:=w.ownsRow base 109 2 v l.length (dP l)
theorem YK:(prog.info? 109).map (fun i=>(i.zero,i.size,i.bytes))=some (some (.agg #[.int .i64 0,.int .u32 0]),2,16):=ai
theorem eM.nil(base:Nat)(w:World):eM base w (.slice none 0 0) []:=World.ownsRow_nil w base _ 2
theorem eM.aA{l:List bS}(h:eM base w v l)(hb: ∀g,v.ownBlock=some g→w'.heap[g]? =w.heap[g]?):eM base w' v l:=by
 rcases h with⟨h1,h2 | ⟨g,cap,cur,h2,h3,h4,h5⟩⟩
 ·exact⟨h1,.inl h2⟩
 ·exact⟨h1,.inr ⟨g,cap,cur,h2,h3,(hb g ow).trans h4,h5⟩⟩
theorem eM.lt{l:List bS}(h:eM base w v l)(g:Nat)(hg:v.ownBlock=some g):base≤g∧g<w.heap.size:=World.ownsRow.lt h g hg
theorem eM.below{l:List bS}(h:eM base w v l)(hb:Below w.heap.size w w'):eM base w' v l:=h.aA fun g hg=>hb.block g (h.lt g hg).2
theorem eM.alloc{l:List bS}(h:eM base w v l)(o:Obj):eM base (w.alloc o) v l:=h.below (ar)
theorem eM.weaken{l:List bS}(h:eM base w v l)(hb:gj≤base):eM gj w v l:=by
 rcases h with⟨h1,h2 | ⟨g,cap,cur,h2,h3,h4⟩⟩
 ·exact⟨h1,.inl h2⟩
 ·exact⟨h1,.inr ⟨g,cap,cur,h2,Nat.le_trans hb h3,h4⟩⟩
theorem eM.read{l:List bS}(h:eM base w v l)(bL: ∀f∈l,f.ok): ∃A c,v= .slice A l.length c∧l.length≤c∧c≤9223372036854775807∧fN w A l:=by
 rcases h with⟨h1,⟨h2,h3⟩ | ⟨g,cap,cur,h2,h3,h4,h5,h6,h7⟩⟩
 ·have e:l=[]:=List.eq_nil_of_length_eq_zero h3;subst e;exact⟨none,0,h2,ag,aa,.inl rfl⟩
 ·refine⟨_,cap,h2,h5,xt,.inr ⟨g,0,rfl,?_,fun k hk=> ?_⟩⟩
  ·rcases Nat.lt_or_ge g w.heap.size with h | h;·exact h
   ·rw[Array.getElem?_eq_none h]at h4;cases h4
  ·have e1: ∀j,j<l.length*2→cur[j]? =(dP l)[j]? :=fun j hj=>(by have h9:=congrArg (fun x:List Value=>x[j]?) h7.2;simpa only[List.getElem?_take,hj,if_true,Array.getElem?_toList]using h9);have hg:=tw l k hk;rw[Nat.zero_add];exact⟨by rw[cell_of_row w g _ cur _ _ h4];exact(e1 (k*2) aa).trans hg.1,by rw[cell_of_row w g _ cur _ _ h4];exact(e1 (k*2+1) aa).trans hg.2,bL _ (List.getElem_mem hk)⟩
theorem eM.pD{l:List bS}(h:eM base w (.slice A n c) l)(bL: ∀f∈l,f.ok):fN w A l:=by obtain⟨A',c',e,_,_,hf⟩:=h.read bL;injection e with e1 e2 e3;rw[e1];exact hf
theorem eM.ne{l:List bS}(h:eM base w v l)(ho:Own gj w u m)(g:Nat)(hg:v.ownBlock=some g):u.ownBlock≠some g:=by
 intro e;rcases h with⟨_,⟨rfl,_⟩ | ⟨g1,cap,cur,rfl,_,h4,_⟩⟩
 ·cases hg
 ·injection hg with hg;subst hg;rcases ho with⟨_,⟨rfl,_⟩ | ⟨g2,uf,av8,rfl,_,k4,_⟩⟩
  ·cases e
  ·injection e with e;subst e;rw[show w.heap[g2]? =_ from k4]at h4;injection h4 with h4;injection h4 with _ ht;exact absurd ht ak
theorem eM.Kl{l:List bS}(h:eM base w v l)(hx:ir bo w u)(g:Nat)(hg:v.ownBlock=some g):g≠bo:=by
 intro e;subst e;rcases h with⟨_,⟨rfl,_⟩ | ⟨g1,cap,cur,rfl,_,h4,_⟩⟩
 ·cases hg
 ·injection hg with hg;subst hg;rw[show w.heap[g1]? =_ from hx]at h4;injection h4 with h4;injection h4 with _ ht;exact absurd ht ak
theorem oa(base:Nat)(ty:TypeId)(w:World)(v:Value)(xs:List bS)(aK:eM base w v xs)(A:Option Addr)(l:List bS)(c:Nat)(hF:fN w A l)
  (dl:xs.length+l.length≤1000000) (bR:base≤w.heap.size):
  ∃v' w',(Builtin.append_ #[23,23] ty #[v,.slice A l.length c]).run prog w= .ok v' w'∧eM base w' v' (xs++l)∧w.grownBy w' v.ownBlock:=by
 obtain⟨i,hi,hz⟩:=Option.map_eq_some_iff.1 YK;injection hz with kw hz;injection hz with eQ oC;cases A with
 | none=>
  have hl:l=[]:=by
   rcases hF with h | ⟨_,_,h,_⟩
   ·exact h
   ·cases h
  subst hl;refine⟨v,w,?_,by simpa using aK,World.grownBy.refl w _⟩;rcases aK.2 with⟨rfl,h0⟩ | ⟨g,cap,cur,rfl,_,_,MG,_⟩
  ·simp[Builtin.append_,run_underlying underlying23,sizeOf,typeInfo,hi,Builtin.lenOf,Builtin.firstCells]
  ·simp[Builtin.append_,run_underlying underlying23,sizeOf,typeInfo,hi,Builtin.lenOf,Builtin.firstCells,MG,storeCells]
 | some ad=>
  have vk: ∀j u,(dP l)[j]? =some u→w.cell? (ad.add j)=some u:=by
   intro j u hu;by_cases hj:j<l.length*2
   ·obtain⟨b,off,e,_,dm⟩:=hF.addr aa;injection e with e;subst e;rw[show(⟨b,off,none⟩:Addr).add j=⟨b,off+j,none⟩from ml];have h2:=dm (j/2) aa;have hg:=tw l (j/2) aa;rcases Nat.mod_two_eq_zero_or_one j with hm | hm;·have e2:j/2*2=j:=(by omega);rw[e2]at hg;rw[hg.1]at hu;have:=h2.c0;rw[e2]at this;rw[this];exact hu
    ·have e2:j/2*2+1=j:=(by omega);rw[e2]at hg;rw[hg.2]at hu;have:=h2.c1;rw[show off+j/2*2+1=off+j by omega]at this;rw[this];exact hu
   ·rw[List.getElem?_eq_none (by rw[n7];omega)]at hu;simp at hu
  obtain⟨v',w',hr,h2,h3,_⟩:=run_append_own (P:=prog) w base 23 ty 109 i (.agg #[.int .i64 0,.int .u32 0]) 2 16 underlying23 hi kw eQ oC rfl ak
   v xs.length (dP xs) aK ad l.length c (dP l) (n7 l) vk (Eo l) fF aa bR
  exact⟨v',w',hr,by unfold eM;rw[wF,List.length_append];exact h2,h3⟩
theorem gg(mb:o.guard=none)(s x:Operand)
  (ho:o.op= .call {callee:= .builtin .append,args:= #[s,x],argTypes:= #[23,23]})
  (base:Nat) (w:World) (v:Value) (xs:List bS) (hs:a.eval s=v) (aK:eM base w v xs) (A:Option Addr) (l:List bS) (c:Nat) (hx:a.eval x= .slice A l.length c) (hF:fN w A l)
  (dl:xs.length+l.length≤1000000) (bR:base≤w.heap.size)
  (h: ∀v' w',eM base w' v' (xs++l)→w.grownBy w' v.ownBlock→K (a.put o.dst v') w'):if Region.wanted o (yielded ops a.tmps)=true then Oper.wp prog o a w K Q else K (a.put o.dst undef) w:=by
 rw[if_pos tY];obtain⟨v',w',hr,h2,h3⟩:=oa base o.type w v xs aK A l c hF dl bR;unfold Oper.wp execOp;simp only[ho,resolve,invoke,builtin,Sem.run_bind,Sem.run_pure,Result.andThen_ok,List.map_toArray,List.map_cons,List.map_nil,hs,hx,hr];exact h v' w' h2 h3
theorem rP{rest:List Oper}(mb:o.guard=none)(s x:Operand)
  (ho:o.op= .call {callee:= .builtin .append,args:= #[s,x],argTypes:= #[23,23]})
  (base:Nat) (w:World) (v:Value) (xs:List bS) (hs:a.eval s=v) (aK:eM base w v xs) (A:Option Addr) (l:List bS) (c:Nat) (hx:a.eval x= .slice A l.length c) (hF:fN w A l)
  (dl:xs.length+l.length≤1000000) (bR:base≤w.heap.size)
  (h: ∀v' w',eM base w' v' (xs++l)→w.grownBy w' v.ownBlock→wpList prog ops Q rest (a.put o.dst v') w'):wpList prog ops Q (o::rest) a w:=by
 refine wpList_plain mb fun K hK=> ?_;obtain⟨v',w',hr,h2,h3⟩:=oa base o.type w v xs aK A l c hF dl bR;unfold Oper.wp execOp;simp only[ho,resolve,invoke,builtin,Sem.run_bind,Sem.run_pure,Result.andThen_ok,List.map_toArray,List.map_cons,List.map_nil,hs,hx,hr];exact hK _ _ (h v' w' h2 h3)
theorem zz(w:World)(f:bS)(bL:f.ok):fN (w.alloc (.cells #[.int .i64 f.id,.int .u32 (f.n:Nat)] 109)) (some ⟨w.heap.size,0,none⟩) [f]:=by refine .inr ⟨w.heap.size,0,rfl,ag,fun i hi=> ?_⟩;obtain rfl:i=0:=iZ;exact⟨ag,ag,bL⟩
theorem Own.store(h:Own base w (.slice (some ⟨g,0,none⟩) n c) l)(i:Nat)(_hi:i<l.length)(x:UInt8):Own base (w.setCell ⟨g,i,none⟩ (.int .u8 (x.toNat:Nat))) (.slice (some ⟨g,0,none⟩) n c) (l.set i x):=by
 rcases h with⟨h1,⟨h2,_⟩ | ⟨g1,cap,cur,h2,h3,h4,h5,h6,h7,h8⟩⟩
 ·cases h2
 ·injection h2 with e1 e2 e3;injection e1 with e1;injection e1 with e1;subst e1;subst e3;obtain⟨L,hL⟩: ∃L:List Value,L.toArray=cur:=⟨cur.toList,Array.toArray_toList⟩
  subst hL;refine⟨ag,.inr ⟨g,c,(L.set i (.int .u8 (x.toNat:Nat))).toArray,by rw[e2];simp,h3,heap_set h4 i _,by simpa using h5,h6,by simpa using h7,?_⟩⟩;simp only[Nat.mul_one,List.length_set]at h8 ⊢;rw[List.map_set,←h8,List.take_set]
def rQ(p q:Int):Bool:=(decide (p= -1)||decide (1≤p))&&(decide (q= -1)||decide (0≤q))
def tx(d:Nat):Bool:=decide (aR (bh d)=d)
structure eO where
 p:Int
 q:Int
 l:List bS
 d:Nat
def eO.ok(h:eO):Prop:= -9223372036854775808≤h.p∧h.p≤9223372036854775807∧ -9223372036854775808≤h.q∧h.q≤9223372036854775807∧h.d<4294967296
def ie(h:eO):Bool:=rQ h.p h.q&&jE h.l&&tx h.d
abbrev CE(h:eO)(A:Option Addr)(c:Nat):Value:= .agg #[.int .i64 h.p,.int .i64 h.q,.slice A h.l.length c,.int .u32 (h.d:Nat)]
abbrev jw(h:eO)(A:Option Addr)(c:Nat):Obj:= .cells #[.int .i64 h.p,.int .i64 h.q,.slice A h.l.length c,.int .u32 (h.d:Nat)] 75
theorem qX(w:World)(h:eO)(A:Option Addr)(c:Nat):(w.alloc (jw h A c)).cell? ⟨w.heap.size,0,none⟩=some (.int .i64 h.p)∧(w.alloc (jw h A c)).cell? ⟨w.heap.size,1,none⟩=some (.int .i64 h.q)∧
  (w.alloc (jw h A c)).cell? ⟨w.heap.size,2,none⟩=some (.slice A h.l.length c)∧(w.alloc (jw h A c)).cell? ⟨w.heap.size,3,none⟩=some (.int .u32 (h.d:Nat)):=by
 refine⟨ag,ag,ag,ag⟩
theorem Km(h:eO)(bL:h.ok)(A:Option Addr)(c:Nat)(w:World)(hF0:fN w A h.l)(hl:h.l.length≤20):
  Calls prog 73 #[CE h A c] w fun e w'=>e= .returned (.bool (ie h))∧Below w.heap.size w w':=by
 have HV:=ae (show ie h=(rQ h.p h.q&&jE h.l&&tx h.d)from rfl);have NK:Below w.heap.size w (w.alloc (jw h A c)):=ar;have hcs:=qX w h A c;have hF:=hF0.below NK;have HM:=ae (fun w' (hf:fN w' A h.l)=>th A h.l c w' hf hl);obtain⟨p,q,l,d⟩:=h;obtain⟨o1,o2,o3,o4,o5⟩: -9223372036854775808≤p∧p≤9223372036854775807∧ -9223372036854775808≤q∧q≤9223372036854775807∧d<4294967296:=bL;have Kg:=ae (fun w'=>tp d o5 w');have p_:=ae (fun w'=>jn (bh d) (pC d) w');have Se:=pB (bh d);have HDB:=ae (show tx d=decide (aR (bh d)=d)from rfl);simp only[jw]at hcs NK hF;simp only at HV HM;generalize ie ⟨p,q,l,d⟩=R at*;generalize hBX:Obj.cells #[Value.int .i64 p,.int .i64 q,.slice A l.length c,.int .u32 (d:Nat)] 75=BX at*;have YL:=ae (show rQ p q=((decide (p= -1)||decide (1≤p))&&(decide (q= -1)||decide (0≤q)))from rfl);have Ie:=ae NK;clear NK;generalize rQ p q=sz at*;have dl:w.heap.size<(w.alloc BX).heap.size:=ag;have YM:=ae (fun(w':World) (hb:Below (w.alloc BX).heap.size (w.alloc BX) w')=>(hb.cell (p:=⟨w.heap.size,2,none⟩) dl).trans hcs.2.2.1);have HC3:=ae (fun(w':World) (hb:Below (w.alloc BX).heap.size (w.alloc BX) w')=>(hb.cell (p:=⟨w.heap.size,3,none⟩) dl).trans hcs.2.2.2);obtain⟨k0,k1,_,_⟩:=hcs;subst hBX;go_enter func73,ntmps73;go_upto_region 1 with fail;go_cut [3]from 4 (fun s3 wx=>s3= .bool (decide (p= -1)||decide (1≤p))∧wx=w.alloc (.cells #[.int .i64 p,.int .i64 q,.slice A l.length c,.int .u32 (d:Nat)] 75));case first=>
  by_cases hp:p= -1;·subst hp;go_wp2_with fail;go_meet;exact⟨rfl,rfl⟩
  ·by_cases Fn:1≤p;·have e:(decide (p= -1)||decide (1≤p))=true:=(by simp[Fn]);have GJ:=ae e;clear e;go_wp2_with fail;go_meet;exact⟨by rw[GJ.out],rfl⟩
   ·have e:(decide (p= -1)||decide (1≤p))=false:=(by simp[hp,Fn]);have GJ:=ae e;clear e;go_wp2_with fail;go_meet;exact⟨by rw[GJ.out,show(p== -1)=false by simp[hp]],rfl⟩
 case rest=>
 obtain⟨rfl,rfl⟩:=hcut;generalize(decide (p= -1)||decide (1≤p))=b1 at*;go_upto_region 2 with fail;go_cut [3]from 4 (fun s3 wx=>s3= .bool sz∧wx=w.alloc (.cells #[.int .i64 p,.int .i64 q,.slice A l.length c,.int .u32 (d:Nat)] 75));case first=>
  cases b1 with
  | false=>
   have e:sz=false:=(by rw[YL.out,Bool.false_and]);have GJ:=ae e;clear e;go_wp2_with fail;go_meet;exact⟨by rw[GJ.out],rfl⟩
  | true=>
   have HE:Hid (sz=(decide (q= -1)||decide (0≤q))):=ae (by rw[YL.out,Bool.true_and]);by_cases hq:q= -1;·subst hq;have e:sz=true:=kb;have GJ:=ae e;clear e;go_wp2_with fail;go_meet;exact⟨by rw[GJ.out],rfl⟩
   ·by_cases Lj:0≤q;·have e:sz=true:=(by rw[HE.out];simp[Lj]);have GJ:=ae e;clear e;go_wp2_with fail;go_meet;exact⟨by rw[GJ.out],rfl⟩
    ·have e:sz=false:=(by rw[HE.out];simp[hq,Lj]);have GJ:=ae e;clear e;go_wp2_with fail;go_meet;exact⟨by rw[GJ.out,show(q== -1)=false by simp[hq]],rfl⟩
 case rest=>
 obtain⟨rfl,rfl⟩:=hcut;clear YL k0 k1 hF0;have⟨BX,hBX⟩:=ex (Obj.cells #[Value.int .i64 p,.int .i64 q,.slice A l.length c,.int .u32 (d:Nat)] 75);rw[hBX]at Ie hF YM HC3 ⊢;have bw:Below (w.alloc BX).heap.size (w.alloc BX) (w.alloc BX).drew:=bg _;have hdw:=bw;clear hBX dl o1 o2 o3 o4;cases sz with
 | false=>
  have HF:Hid (R=false):=ae (by rw[HV.out];rfl);go_upto_region 3 with fail;refine wp_region_held_drew (S:=fun w'=>Below (w.alloc BX).heap.size (w.alloc BX) w') ai bw (fun hS=> ?_);refine af 0 hS (h:=af 1 hS (h:=bi 2 hS (h:=bi 3 hS (h:=bi 4 hS (h:=af 5 hS (h:=af 6 hS (h:=bi 7 hS (h:=bi 8 hS (h:=bi 9 hS (h:=bi 10 hS (h:=bi 11 hS (h:= ?_))))))))))));refine bi 12 hS (h:=bi 13 hS (h:=af 14 hS (h:=af 15 hS (h:= ?_))));refine wpAnyH_done ai ?_ _;go_wp2_with fail;go_ret;exact⟨ez,aM Ie.out bw⟩
 | true=>
  rw[Bool.true_and]at HV;generalize jE l=m at*;cases m with
  | false=>
   have HF:Hid (R=false):=ae (by rw[HV.out];rfl);go_upto_region 3 with fail;refine wp_region_held_drew (S:=fun w'=>Below (w.alloc BX).heap.size (w.alloc BX) w') ai bw (fun hS=> ?_);refine af 0 hS (h:=af 1 hS (h:=af 2 hS (h:=bI 3 YM.out hS (h:= ?_))));refine aC 4 (fun K hK=> ?_);go_simp;refine(HM.out (w.alloc BX).drew (hF.below hdw)).mono ?_;rintro e w1 ⟨rfl,az⟩;have g1:Below (w.alloc BX).heap.size (w.alloc BX) w1:=aM bw az;go_wp2_with fail;refine hK.out _ _ g1 (fun _=> ?_);clear hK K;refine af 5 g1 (h:=af 6 g1 (h:=bi 7 g1 (h:=bi 8 g1 (h:=bi 9 g1 (h:=bi 10 g1 (h:=bi 11 g1 (h:=bi 12 g1 (h:=bi 13 g1 (h:=af 14 g1 (h:=af 15 g1 (h:= ?_)))))))))));refine wpAnyH_done ai ?_ _;go_wp2_with fail;go_ret;exact⟨ez,aM Ie.out g1⟩
  | true=>
   have HF:Hid (R=tx d):=ae (by rw[HV.out,Bool.true_and]);have nD:tx d=((aR (bh d):Int)==(d:Int)):=(by rw[HDB.out,Bool.eq_iff_iff];simp;omega);rw[nD]at HF;clear nD HDB;generalize aR (bh d)=D at*;go_upto_region 3 with fail;refine wp_region_held_drew (S:=fun w'=>Below (w.alloc BX).heap.size (w.alloc BX) w') ai bw (fun hS=> ?_);refine af 0 hS (h:=af 1 hS (h:=af 2 hS (h:=bI 3 YM.out hS (h:= ?_))));refine aC 4 (fun K hK=> ?_);go_simp;refine(HM.out (w.alloc BX).drew (hF.below hdw)).mono ?_;rintro e w1 ⟨rfl,az⟩;have g1:Below (w.alloc BX).heap.size (w.alloc BX) w1:=aM bw az;go_wp2_with fail;refine hK.out _ _ g1 (fun _=> ?_);clear hK K;refine af 5 g1 (h:=af 6 g1 (h:=af 7 g1 (h:=bI 8 HC3.out g1 (h:=af 11 g1 (h:=bI 12 HC3.out g1 (h:= ?_))))));refine aC 9 (fun K hK=> ?_);go_simp;refine(Kg.out w1).mono ?_;rintro e w2 ⟨rfl,rfl⟩;go_wp2_with fail;refine hK.out _ _ g1 (fun _=> ?_);clear hK K;refine aC 10 (fun K hK=> ?_);go_simp;refine(p_.out w1).mono ?_;rintro e w2 ⟨rfl,rfl⟩;go_wp2_with fail;refine hK.out _ _ g1 (fun _=> ?_);clear hK K;refine af 13 g1 (h:=af 14 g1 (h:=af 15 g1 (h:= ?_)));refine wpAnyH_done ai ?_ _;go_wp2_with fail;go_ret;exact⟨ez,aM Ie.out g1⟩
def aO(n:Nat):Nat:=(4-n%4)%4
def di(b:List UInt8):List UInt8:=b++List.replicate (aO b.length) 0
def jo(x:Int):List UInt8:=if x= -1 then []else Vl.put 9 x.toNat
def dQ(f:bS):List UInt8:=(k9 f).getD []
def uU(f:bS):List UInt8:=Vl.put 9 f.id.toNat++(Vl.put 9 (dQ f).length++dQ f)
def ea(l:List bS):List UInt8:=l.flatMap uU
def bT(d:Nat):bS:=⟨33,d⟩
def eD(h:eO):Nat:=h.l.length+(if h.p= -1 then 0 else 64)+(if h.q= -1 then 0 else 128)
def tz(h:eO):List UInt8:=jo h.p++jo h.q++ea (h.l++[bT h.d])
def bE(h:eO):List UInt8:=0::UInt8.ofNat (eD h)::tz h
def gv(h:eO):List UInt8:=(di (bE h)).set 0 (UInt8.ofNat ((di (bE h)).length/4))
def fD(h:eO):List UInt8:=gv h++eL (gv h)
theorem zA(l:List bS)(f:bS):ea (l++[f])=ea l++uU f:=by simp[ea]
def qY(f:bS):Prop:=f.ok∧0≤f.id∧f.id≤33∧k9 f=some (dQ f)∧(dQ f).length≤4
theorem Ub(f:bS)(bL:f.ok)(h:dF f=true):qY f:=by
 have hid:f.id≠33:=by intro e;obtain⟨id,n⟩:=f;obtain rfl:id=33:=e;rw[TY]at h;cases h
 have hb:k9 f=if f.id=3 then some [UInt8.ofNat (f.n-1)]else if f.n=0 then some []else some (bytesOf true f.n):=by unfold k9;rw[if_neg hid,if_pos h]
 have hr:0≤f.id∧f.id≤33:=by
  rcases zm f h with⟨e,_⟩ | ⟨_,e,_⟩
  ·omega
  ·rcases e with e | e | e | e<;>omega
 refine⟨bL,hr.1,hr.2,?_,?_⟩
 ·unfold dQ;rw[hb];split;·rfl
  ·split<;>rfl
 ·unfold dQ;rw[hb];split;·simp
  ·split;·simp
   ·simp[bytesOf]
theorem OK(d:Nat)(hd:d<4294967296)(h:tx d=true):qY (bT d):=by
 have h':aR (bh d)=d:=by simpa [tx]using h
 have hb:k9 (bT d)=some [UInt8.ofNat (bh d)]:=by unfold k9 bT;rw[if_pos rfl,if_pos h']
 refine⟨⟨by show(-9223372036854775808:Int)≤33;omega,by show(33:Int)≤9223372036854775807;omega,hd⟩,by show(0:Int)≤33;omega,by show(33:Int)≤33;omega,?_,?_⟩;·unfold dQ;rw[hb];rfl
 ·unfold dQ;rw[hb];simp
theorem pE(h:eO)(bL:h.ok)(hf: ∀f∈h.l,f.ok)(hv:ie h=true):(∀f∈h.l++[bT h.d],qY f)∧h.l.length≤3∧(h.p= -1∨1≤h.p)∧(h.q= -1∨0≤h.q):=by
 simp only[ie,rQ,jE,Bool.and_eq_true,Bool.or_eq_true,decide_eq_true_eq,List.all_eq_true]at hv;obtain⟨⟨⟨h1,h2⟩,h3,h4⟩,h5⟩:=hv;refine⟨fun f hm=> ?_,h3,h1,h2⟩;rcases List.mem_append.1 hm with hm | hm;·exact Ub f (hf f hm) (h4 f hm)
 ·obtain rfl:f=bT h.d:=by simpa using hm
  exact OK _ bL.2.2.2.2 h5
theorem GK(f:bS)(h:qY f):(uU f).length≤24:=by have h1:=(Vl.cN 9 f.id.toNat).2;have h2:=(Vl.cN 9 (dQ f).length).2;have h3:=h.2.2.2.2;simp only[uU,List.length_append];omega
theorem nE(l:List bS)(h: ∀f∈l,qY f):(ea l).length≤24*l.length:=by
 induction l with
 | nil=>simp[ea]
 | cons f l ih=>
  have h1:=GK f (h f ag);have h2:=ih (fun g hg=>h g (by simp[hg]));simp only[ea,List.flatMap_cons,List.length_append,List.length_cons]at h2 ⊢;omega
theorem fQ(x:Int):(jo x).length≤10:=by
 unfold jo;split;·simp
 ·exact(Vl.cN 9 _).2
theorem anw(n:Nat)(h:n≤3):bits .or .u8 (n:Int) 64=((n+64:Nat):Int):=by
 match n,h with
 | 0,_=>rfl
 | 1,_=>rfl
 | 2,_=>rfl
 | 3,_=>rfl
theorem Mg(n:Nat)(h:n≤3):bits .or .u8 (n:Int) 128=((n+128:Nat):Int)∧bits .or .u8 ((n+64:Nat):Int) 128=((n+64+128:Nat):Int):=by
 match n,h with
 | 0,_=>exact⟨rfl,rfl⟩
 | 1,_=>exact⟨rfl,rfl⟩
 | 2,_=>exact⟨rfl,rfl⟩
 | 3,_=>exact⟨rfl,rfl⟩
def Ep(bo base:Nat)(w1:World)(L:List UInt8)(wx:World):Prop:= ∃v,ir bo wx v∧Own base wx v L∧Below base w1 wx
theorem Ep.opened{a:UInt8}(h:Ep bo base w1 (a::x::r) wx): ∃g c,ir bo wx (.slice (some ⟨g,0,none⟩) (r.length+2) c)∧Own base wx (.slice (some ⟨g,0,none⟩) (r.length+2) c) (a::x::r)∧Below base w1 wx∧base≤g∧g≠bo∧
  wx.cell? ⟨g,1,none⟩=some (.int .u8 (x.toNat:Nat))∧wx.frozen? ⟨g,1,none⟩=false∧wx.frozen? ⟨g,0,none⟩=false∧r.length+2≤c∧c≤9223372036854775807∧wx.cell? ⟨g,0,none⟩=some (.int .u8 (a.toNat:Nat)):=by
 obtain⟨v,hx,ho,hb⟩:=h;obtain⟨g,c,rfl,h1,h2,h3,h4,h5,h6⟩:=ho.opened ag;refine⟨g,c,hx,ho,hb,h1,?_,h5 1 ag,h6 1,h6 0,by simpa using h3,h4,h5 0 ag⟩;intro e;exact hx.ne ho (by rw[e];rfl)
theorem ir.store{i:Nat}(h:ir bo w v)(hg:g≠bo):ir bo (w.setCell ⟨g,i,none⟩ u) v:=(ah _ _ _ _ (fun e=>hg e.symm)).trans h
theorem zB{a:UInt8}(hx:ir bo wx (.slice (some ⟨g,0,none⟩) (r.length+2) c))(ho:Own base wx (.slice (some ⟨g,0,none⟩) (r.length+2) c) (a::x::r))(hb:Below base w1 wx)(hg:base≤g)(dH:g≠bo)(s:Nat)(hs:s<256):
  ir bo (wx.setCell ⟨g,1,none⟩ (.int .u8 (s:Nat))) (.slice (some ⟨g,0,none⟩) (r.length+2) c)∧Own base (wx.setCell ⟨g,1,none⟩ (.int .u8 (s:Nat))) (.slice (some ⟨g,0,none⟩) (r.length+2) c) (a::UInt8.ofNat s::r)∧Below base w1 (wx.setCell ⟨g,1,none⟩ (.int .u8 (s:Nat))):=by
 have h:=ho.store 1 ag (UInt8.ofNat s);have e:((UInt8.ofNat s).toNat:Nat)=s:=Dc;rw[e]at h;exact⟨hx.store dH,h,Below.setCell hb hg _⟩
def Er(bo:Nat)(w:World):Nat:=match w.cell? ⟨bo,0,none⟩with
 | some (.slice _ n _)=>n
 | _=>0
theorem ir.len(h:ir bo w (.slice A n c)):Er bo w=n:=by unfold Er;rw[h.cell]
theorem OL{a:UInt8}(hx:ir bo wx (.slice (some ⟨g,0,none⟩) n c))(ho:Own base wx (.slice (some ⟨g,0,none⟩) n c) (a::r))(hb:Below base w1 wx)(hg:base≤g)(dH:g≠bo)(s:Nat)(hs:s<256):
  ir bo (wx.setCell ⟨g,0,none⟩ (.int .u8 (s:Nat))) (.slice (some ⟨g,0,none⟩) n c)∧Own base (wx.setCell ⟨g,0,none⟩ (.int .u8 (s:Nat))) (.slice (some ⟨g,0,none⟩) n c) (UInt8.ofNat s::r)∧Below base w1 (wx.setCell ⟨g,0,none⟩ (.int .u8 (s:Nat))):=by
 have h:=ho.store 0 ag (UInt8.ofNat s);have e:((UInt8.ofNat s).toNat:Nat)=s:=Dc;rw[e]at h;exact⟨hx.store dH,h,Below.setCell hb hg _⟩
theorem rT(mb:o.guard=none)(s x:Operand)
  (ho:o.op= .call {callee:= .builtin .append,args:= #[s,x],argTypes:= #[22,22]})
  (base:Nat) (w:World) (v:Value) (xs:List UInt8) (hs:a.eval s=v) (aK:Own base w v xs) (A:Option Addr) (l:List UInt8) (c:Nat) (hx:a.eval x= .slice A l.length c) (hB:Bytes w A l)
  (dl:xs.length+l.length≤140737488355328) (bR:base≤w.heap.size)
  (h: ∀v' w',Own base w' v' (xs++l)→w.grownBy w' v.ownBlock→K (a.put o.dst v') w'):if Region.wanted o (yielded ops a.tmps)=true then Oper.wp prog o a w K Q else K (a.put o.dst undef) w:=by
 rw[if_pos tY];obtain⟨v',w',hr,h2,h3⟩:=fT base o.type w v xs aK A l c hB dl bR;unfold Oper.wp execOp;simp only[ho,resolve,invoke,builtin,Sem.run_bind,Sem.run_pure,Result.andThen_ok,List.map_toArray,List.map_cons,List.map_nil,hs,hx,hr];exact h v' w' h2 h3
end Go.Proofs.YtfcaoggfnkhfiaaGreatDoor
