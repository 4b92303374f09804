import Derived.Test.YtgfpocdiojifoaaGreatDoorZ33
import Derived.Deep.RegionHeld3
namespace Go.Proofs.YtgfpocdiojifoaaGreatDoor
set_option maxRecDepth 100000
set_option maxHeartbeats 8000000
open Go.RowKit
def Box(bo:Nat)(w:World)(v:Value):Prop:=w.heap[bo]? =some (.cells #[v] 22 (0,0))
theorem Box.cell{bo:Nat}{w:World}{v:Value}(h:Box bo w v):w.cell? ⟨bo,0,none⟩=some v:=by
 rw[cell_of_row w bo 0 _ _ _ h];rfl
theorem Box.frozen{bo:Nat}{w:World}{v:Value}(h:Box bo w v):w.frozen? ⟨bo,0,none⟩=false:=by
 simp[World.frozen?,show w.heap[bo]? =_ from h]
theorem Box.lt{bo:Nat}{w:World}{v:Value}(h:Box bo w v):bo<w.heap.size:=(Array.getElem?_eq_some_iff.1 h).1
theorem Box.ne{bo base:Nat}{w:World}{v u:Value}{l:List UInt8}(h:Box bo w v)(ho:Own base w u l):u.ownBlock≠some bo:=by
 intro e
 rcases ho with⟨_,⟨rfl,_⟩ | ⟨g,cap,cur,rfl,_,hg,_⟩⟩
 ·cases e
 ·injection e with e
  subst e
  rw[show w.heap[g]? =_ from h]at hg
  injection hg with hg
  injection hg with _ ht
  exact absurd ht (by decide)
theorem Box.set{bo:Nat}{w:World}{v:Value}(h:Box bo w v)(u:Value):Box bo (w.setCell ⟨bo,0,none⟩ u) u:=heap_set (L:=[v]) h 0 u
theorem Own.Pj{bo base:Nat}{w:World}{v u:Value}{l:List UInt8}(ho:Own base w u l)(h:Box bo w v)(x:Value):Own base (w.setCell ⟨bo,0,none⟩ x) u l:=by
 have hn:=h.ne ho
 rcases ho with⟨h1,h2 | ⟨g,cap,cur,rfl,h3,hg,h4⟩⟩
 ·exact⟨h1,.inl h2⟩
 ·exact⟨h1,.inr ⟨g,cap,cur,rfl,h3,(ah _ _ _ _ (fun e=>hn (by simp[Value.ownBlock];exact e))).trans hg,h4⟩⟩
theorem Box.below{bo:Nat}{w w':World}{v:Value}(h:Box bo w v)(hb:Below w.heap.size w w'):Box bo w' v:=(hb.block bo h.lt).trans h
theorem Box.grown{bo:Nat}{w w':World}{v:Value}{row:Option Nat}(h:Box bo w v)(hg:w.grownBy w' row)(hn:row≠some bo):Box bo w' v:=(hg.block bo h.lt (fun e=>hn e.symm)).trans h
theorem Own.opened{base:Nat}{w:World}{v:Value}{l:List UInt8}(h:Own base w v l)(h0:0<l.length): ∃g c,v= .slice (some ⟨g,0,none⟩) l.length c∧base≤g∧g<w.heap.size∧l.length≤c∧c≤9223372036854775807∧(∀i (h:i<(l.map B8).length),w.cell? ⟨g,i,none⟩=some (l.map B8)[i])∧ ∀i,w.frozen? ⟨g,i,none⟩=false:=by
 rcases h with⟨h1,⟨_,hn⟩ | ⟨g,cap,cur,rfl,hb,hg,hnc,hcm,hsz,htake⟩⟩
 ·omega
 ·refine⟨g,cap,rfl,hb,?_,hnc,by unfold maxLen at hcm;exact hcm,fun i hi=> ?_,fun i=> ?_⟩
  ·rcases Nat.lt_or_ge g w.heap.size with h | h
   ·exact h
   ·rw[Array.getElem?_eq_none h]at hg;cases hg
  ·rw[cell_of_row w g _ cur _ _ hg]
   have h2:=congrArg (fun x:List Value=>x[i]?) htake
   rw[List.length_map]at hi
   simp only[List.getElem?_take,Nat.mul_one,hi,if_true]at h2
   rw[List.getElem?_eq_getElem (show i<(l.map B8).length by simpa using hi)]at h2
   simpa using h2
  ·simp[World.frozen?,hg]
theorem Own.keep{base:Nat}{w w':World}{v:Value}{l:List UInt8}(h:Own base w v l)(hb: ∀g,v.ownBlock=some g→w'.heap[g]? =w.heap[g]?):Own base w' v l:=by
 rcases h with⟨h1,h2 | ⟨g,cap,cur,h2,h3,h4,h5⟩⟩
 ·exact⟨h1,.inl h2⟩
 ·exact⟨h1,.inr ⟨g,cap,cur,h2,h3,(hb g (by rw[h2];rfl)).trans h4,h5⟩⟩
theorem ai0:Elem 22 5 (.int .u8 0) 1:=⟨Tryz.underlying22,by kernel_rfl,rfl⟩
theorem Own.vals{base:Nat}{w:World}{v:Value}{l:List UInt8}(h:Own base w v l):dB 5 base w v (l.map B8):=by
 have h':w.ownsRow base 5 1 v l.length (l.map B8):=h
 unfold dB;rw[List.length_map];exact h'
theorem dB.bytes{base:Nat}{w:World}{v:Value}{l m:List UInt8}(h:dB 5 base w v (l.map B8++m.map B8)):Own base w v (l++m):=by
 have h':w.ownsRow base 5 1 v (l.map B8++m.map B8).length (l.map B8++m.map B8):=h
 rw[←List.map_append,List.length_map]at h'
 exact h'
theorem Bl(bo base:Nat)(v:Value)(L:List UInt8)(n:Nat)(w:World)(hb:Box bo w v)(ho:Own base w v L)(hbb:base≤bo)(hn:n≤9223372036854775807)(hL:L.length≤100000000):
  Calls Tryz.prog 44 #[.int .u64 (n:Nat),.pointer (some ⟨bo,0,none⟩)] w fun e w'=> ∃v',e= .returned (.tuple #[])∧Box bo w' v'∧Own base w' v' (L++Vl.put 9 n)∧Below base w w'∧(∀g,g<w.heap.size→g≠bo→v.ownBlock≠some g→w'.heap[g]? =w.heap[g]?)∧ ∀g,v'.ownBlock=some g→v.ownBlock=some g∨w.heap.size≤g:=by
 have HP:=Lib.hid (put_any n w hn)
 have HL:=Lib.hid (Vl.iE 9 n)
 generalize Vl.put 9 n=P at*
 have hbw:base≤w.heap.size:=Nat.le_trans hbb (Nat.le_of_lt hb.lt)
 go_enter Tryz.func44,Tryz.ntmps44
 go_wp2_with fail
 refine HP.out.mono ?_
 rintro e w1 ⟨v1,rfl,ho1,hb1⟩
 obtain⟨gp,c,rfl,_,hgp,hc1,hc2,hP1,_⟩:=ho1.opened HL.out.1
 have HP1:=Lib.hid hP1
 have hx1:=hb.below hb1
 have hcl:=hx1.cell
 have ho2:=ho.below hb1
 have hsz:=hb1.size
 clear hP1
 go_wp2_with (refine mY ai0 rfl _ _ rfl base _ v (L.map B8) rfl ho2.vals gp P.length c (P.map B8) rfl (by simp) HP1.out (oJ P) (by have:=HL.out;simp;omega) (by have:=HL.out;simp;omega) (by omega) ?_;intro v' w2 am7 hg3 hloc;have ho3:=am7.bytes;have hx2:=hx1.grown hg3 (fun e=>hx1.ne ho2 e);have asT:=hx2.cell;have asU:=hx2.frozen;obtain⟨A3,c3,rfl,hc3⟩:=ho3.read;rw[List.length_append]at ho3 hloc)
 go_end0
 refine⟨_,rfl,hx2.set _,ho3.Pj hx2 _,Below.setCell (below_grown (hb1.mono hbw) hg3 (by omega) (fun g e=>(ho2.aF g e).1)) hbb _,fun g h1 h2 h3=>(ah _ _ _ _ (fun e=>h2 e)).trans ((hg3.block g (by omega) (fun e=>h3 e.symm)).trans (hb1.block g h1)),fun g hg=> ?_⟩
 rcases hloc with h | h
 ·exact .inl (h▸hg)
 ·refine .inr ?_
  rw[h]at hg
  injection hg with e
  omega
theorem gJ.rest{w:World}{b off:Nat}{f:bK}{l:List bK}(h:gJ w (some ⟨b,off,none⟩) (f::l)):gJ w (some ⟨b,off+2,none⟩) l:=by
 rcases h with h | ⟨b',off',e,hlt,hat⟩
 ·cases h
 ·injection e with e;injection e with e1 e2;subst e1;subst e2
  refine .inr ⟨_,_,rfl,hlt,fun i hi=> ?_⟩
  have:=hat (i+1) (by simp;omega)
  simp only[List.getElem_cons_succ]at this
  rw[show off+2+i*2=off+(i+1)*2 by omega];exact this
theorem gJ.cut{w:World}{b off:Nat}{f:bK}{l:List bK}(h:gJ w (some ⟨b,off,none⟩) (f::l))(c:Nat)(hc:(f::l).length≤c):gJ w (if c=1 then some ⟨b,off,none⟩else some ⟨b,off+2,none⟩) l:=by
 by_cases e:c=1
 ·have:l=[]:=by
   have:l.length=0:=by simp at hc;omega
   exact List.eq_nil_of_length_eq_zero this
  exact .inl this
 ·rw[if_neg e];exact h.rest
def aJ(k:Nat):Nat:=if 40<k then 0 else if k=40 then 4294967295 else(2+k%2)*2^(11+k/2)
theorem ug(k:Nat):aJ k<4294967296:=by
 by_cases h:k≤40
 ·have: ∀k,k<41→aJ k<4294967296:=by decide
  exact this k (by omega)
 ·unfold aJ;rw[if_pos (by omega)];omega
theorem Em(i j:Nat)(h:i<j)(hj:j≤40):aJ i<aJ j:=by
 have: ∀j,j<41→ ∀i,i<j→aJ i<aJ j:=by decide
 exact this j (by omega) i h
theorem Ut:aJ 40=4294967295:=by decide
def aV(d:Nat):Nat:=((List.range 41).find? fun i=>decide (d≤aJ i)).getD 40
theorem En(d k:Nat)(hk:k≤40)(h1:d≤aJ k)(h2: ∀j,j<k→aJ j<d):aV d=k:=by
 have:(List.range 41).find? (fun i=>decide (d≤aJ i))=some k:=by
  rw[List.find?_range_eq_some]
  refine⟨by simpa using h1,by simp;omega,fun j hj=>by simpa using h2 j hj⟩
 unfold aV;rw[this];rfl
theorem uh(d:Nat):aV d≤40:=by
 unfold aV
 cases h:(List.range 41).find? (fun i=>decide (d≤aJ i))with
 | none=>simp
 | some k=>have:=List.mem_of_find?_eq_some h;simp at this ⊢;omega
def Low(d k:Nat):Prop:= ∀j,j<k→aJ j<d
theorem kP(k:Nat)(hk:k≤40)(w:World):Calls Tryz.prog 16 #[.int .i64 (k:Nat)] w fun e w'=>e= .returned (.int .u32 (aJ k:Nat))∧w=w':=by
 have hc:k=0∨k=1∨k=2∨k=3∨k=4∨k=5∨k=6∨k=7∨k=8∨k=9∨k=10∨k=11∨k=12∨k=13∨k=14∨k=15∨k=16∨k=17∨k=18∨k=19∨k=20∨k=21∨k=22∨k=23∨k=24∨k=25∨k=26∨k=27∨k=28∨k=29∨k=30∨k=31∨k=32∨k=33∨k=34∨k=35∨k=36∨k=37∨k=38∨k=39∨k=40:=by omega
 rcases hc with rfl | rfl | rfl | rfl | rfl | rfl | rfl | rfl | rfl | rfl | rfl | rfl | rfl | rfl | rfl | rfl | rfl | rfl | rfl | rfl | rfl | rfl | rfl | rfl | rfl | rfl | rfl | rfl | rfl | rfl | rfl | rfl | rfl | rfl | rfl | rfl | rfl | rfl | rfl | rfl | rfl
 all_goals
  go_enter Tryz.func16,Tryz.ntmps16
  go_wp2_with fail
  go_ret
  exact⟨congrArg (fun n:Int=>Ending.returned (.int .u32 n)) (by decide),rfl⟩
theorem Uu(a:Int)(h:a<0∨40<a)(w:World):Calls Tryz.prog 16 #[.int .i64 a] w fun e w'=>e= .returned (.int .u32 0)∧w=w':=by
 rcases h with h | h
 ·go_enter Tryz.func16,Tryz.ntmps16
  go_wp2_with fail
  go_ret
  exact⟨rfl,rfl⟩
 ·have h': ¬a<0:=by omega
  go_enter Tryz.func16,Tryz.ntmps16
  go_wp2_with fail
  go_ret
  exact⟨rfl,rfl⟩
theorem Zb(a:Int)(w:World):Calls Tryz.prog 16 #[.int .i64 a] w fun e w'=>e= .returned (.int .u32 ((if a<0 then 0 else aJ a.toNat:Nat):Int))∧w=w':=by
 by_cases h:a<0∨40<a
 ·refine(Uu a h w).mono ?_
  rintro e w' ⟨rfl,rfl⟩
  refine⟨?_,rfl⟩
  rcases h with h | h
  ·rw[if_pos h];rfl
  ·rw[if_neg (by omega)];unfold aJ;rw[if_pos (by omega)];rfl
 ·obtain⟨k,rfl⟩: ∃k:Nat,a=(k:Int):=⟨a.toNat,by omega⟩
  rw[if_neg (by omega),Int.toNat_natCast]
  exact kP k (by omega) w
theorem yx(d:Nat)(hd:d<4294967296)(w:World):Calls Tryz.prog 17 #[.int .u32 (d:Nat)] w fun e w'=>e= .returned (.int .i64 (aV d:Nat))∧w=w':=by
 have HE:=Lib.hid (En d)
 generalize aV d=C at*
 go_enter Tryz.func17,Tryz.ntmps17
 go_wp2_with fail
 go_loop [3] (fun i=> ∃k:Nat,k≤40∧i= .int .i64 k∧Low d k) (fun i=>40-(intOf i).toNat)
 case atStart=>exact⟨0,by omega,rfl,fun j hj=>by omega⟩
 case round=>
  obtain⟨k,hk,rfl,hlow⟩:=hrel
  have HD:=Lib.hid (kP k hk w)
  have hl:=ug k
  have HT:=Lib.hid Ut
  by_cases hlt:aJ k<d
  ·have asV:k<40:=by
    rcases Nat.lt_or_ge k 40 with h | h
    ·exact h
    ·obtain rfl:k=40:=by omega
     rw[HT.out]at hlt;omega
   have hlow':Low d (k+1):=by
    intro j hj
    by_cases e:j=k
    ·subst e;exact hlt
    ·exact hlow j (by omega)
   generalize aJ k=D at*
   go_wp2_with fail
   refine HD.out.mono ?_
   rintro e w' ⟨rfl,rfl⟩
   go_wp2_with fail
   go_round
   case rel=>exact⟨k+1,by omega,by go_num,hlow'⟩
   case measure=>simp[intOf];omega
  ·have hc:=HE.out k hk (by omega) hlow
   subst hc
   generalize aJ C=D at*
   go_wp2_with fail
   refine HD.out.mono ?_
   rintro e w' ⟨rfl,rfl⟩
   go_wp2_with fail
   go_ret
   exact⟨rfl,rfl⟩
def nI(f:bK):Option (List UInt8):=
 if f.id=33 then(if aJ (aV f.n)=f.n then some [UInt8.ofNat (aV f.n)]else none)
 else if eG f=true then(if f.id=3 then some [UInt8.ofNat (f.n-1)]else if f.n=0 then some []else some (bytesOf true f.n))else none
def zH(w:World)(l:List UInt8)(tag:Value)(e:Ending)(w':World):Prop:= ∃v,e= .returned (.tuple #[v,tag])∧Own w.heap.size w' v l∧Below w.heap.size w w'
def Zc(w:World)(tag:Value)(e:Ending)(w':World):Prop:=e= .returned (.tuple #[.slice none 0 0,tag])∧Below w.heap.size w w'
def am8(w:World)(yes no:Value)(r:Option (List UInt8)):Ending→World→Prop:=
 match r with
 | some l=>zH w l yes
 | none=>Zc w no
theorem mO(w:World)(a b:Value)(T:TypeId):(w.alloc (.cells #[a,b] T)).drew.cell? ⟨w.heap.size,0,none⟩=some a∧(w.alloc (.cells #[a,b] T)).drew.cell? ⟨w.heap.size,1,none⟩=some b:=by
 constructor
 ·show(w.alloc (.cells #[a,b] T)).cell? ⟨w.heap.size,0,none⟩=some a
  rw[cell_of_row _ _ _ _ _ _ (heap_alloc_last _ _)];rfl
 ·show(w.alloc (.cells #[a,b] T)).cell? ⟨w.heap.size,1,none⟩=some b
  rw[cell_of_row _ _ _ _ _ _ (heap_alloc_last _ _)];rfl
theorem ai1(w:World)(k base:Nat)(hk:k<256)(hb:base≤w.heap.size):Own base (w.alloc (.cells #[.int .u8 (k:Nat)] 5)) (.slice (some ⟨w.heap.size,0,none⟩) 1 1) [UInt8.ofNat k]:=by
 have h:=Own.lit w [UInt8.ofNat k] hb (by simp)
 have e:((UInt8.ofNat k).toNat:Nat)=k:=by simp;omega
 simp only[List.map,B8,e]at h
 exact h
theorem Zd(n:Nat):eG ⟨33,n⟩=false:=by simp[eG,I5]
theorem Uw(n:Nat)(hn:n<4294967296)(h:aJ (aV n)=n)(w:World):
  Calls Tryz.prog 46 #[.agg #[.int .i64 33,.int .u32 (n:Nat)]] w (zH w [UInt8.ofNat (aV n)] (.int .i64 0)):=by
 have hb:=dN w
 have HCO:=Lib.hid (yx n hn)
 have hle:=uh n
 have HDI:=Lib.hid (kP (aV n) hle)
 rw[h]at HDI
 generalize aV n=C at*
 clear h
 go_enter Tryz.func46,Tryz.ntmps46
 go_wp2_with fail
 refine wp_region_held_drew (S:=fun w'=>w'.cell? ⟨w.heap.size,0,none⟩=some (.int .i64 33)∧w'.cell? ⟨w.heap.size,1,none⟩=some (.int .u32 (n:Nat))) (by kernel_rfl) (mO w _ _ _) (fun hS=> ?_)
 refine tq 0 hS ?_
 refine tp 1 rfl (fun w hSw=>by obtain⟨j0,j1⟩:=hSw;go_simp;all_goals(with_reducible rfl)) hS ?_
 refine tq 2 hS ?_
 refine tq 3 hS ?_
 refine tq 4 hS ?_
 refine tp 5 rfl (fun w hSw=>by obtain⟨j0,j1⟩:=hSw;go_simp;all_goals(with_reducible rfl)) hS ?_
 refine tq 8 hS ?_
 refine tp 9 rfl (fun w hSw=>by obtain⟨j0,j1⟩:=hSw;go_simp;all_goals(with_reducible rfl)) hS ?_
 refine tr 6 (fun K hK=> ?_)
 go_simp
 refine(HCO.out _).mono ?_
 rintro e w' ⟨rfl,rfl⟩
 go_wp2_with fail
 refine hK.out _ _ hS (fun _=> ?_)
 clear hK K
 refine tr 7 (fun K hK=> ?_)
 go_simp
 refine(HDI.out _).mono ?_
 rintro e w' ⟨rfl,rfl⟩
 go_wp2_with fail
 refine hK.out _ _ hS (fun _=> ?_)
 clear hK K
 refine tq 10 hS ?_
 refine tq 11 hS ?_
 refine tq 12 hS ?_
 refine wpAnyH_done (by kernel_rfl) ?_ _
 go_wp2_with fail
 refine(HCO.out _).mono ?_
 rintro e w' ⟨rfl,rfl⟩
 go_wp2_with fail
 go_ret2
 have g:=hb (.cells #[.int .i64 33,.int .u32 (n:Nat)] 84)
 have e:(w.alloc (.cells #[.int .i64 33,.int .u32 (n:Nat)] 84)).heap.size=w.heap.size+1:=by simp
 have h:=ai1 (w.alloc (.cells #[.int .i64 33,.int .u32 (n:Nat)] 84)) C w.heap.size (by omega) g.size
 rw[e]at h
 exact⟨_,rfl,h.drew,(g.alloc g.size _).drew⟩
theorem LW(n:Nat)(hn:n<4294967296)(h:aJ (aV n)≠n)(w:World):
  Calls Tryz.prog 46 #[.agg #[.int .i64 33,.int .u32 (n:Nat)]] w (Zc w (.int .i64 1)):=by
 have hb:=dN w
 have HCO:=Lib.hid (yx n hn)
 have hle:=uh n
 have HDI:=Lib.hid (kP (aV n) hle)
 have HF:=Lib.hid (pV ⟨33,n⟩ ⟨by simp,by simp,hn⟩)
 rw[Zd]at HF
 simp only[bK.agg]at HF
 generalize aV n=C at*
 have hdl:=ug C
 have hne:((aJ C:Int)==(n:Int))=false:=by simp;omega
 generalize aJ C=D at*
 clear h
 go_enter Tryz.func46,Tryz.ntmps46
 go_wp2_with fail
 refine wp_region_held_drew (S:=fun w'=>w'.cell? ⟨w.heap.size,0,none⟩=some (.int .i64 33)∧w'.cell? ⟨w.heap.size,1,none⟩=some (.int .u32 (n:Nat))) (by kernel_rfl) (mO w _ _ _) (fun hS=> ?_)
 refine tq 0 hS ?_
 refine tp 1 rfl (fun w hSw=>by obtain⟨j0,j1⟩:=hSw;go_simp;all_goals(with_reducible rfl)) hS ?_
 refine tq 2 hS ?_
 refine tq 3 hS ?_
 refine tq 4 hS ?_
 refine tp 5 rfl (fun w hSw=>by obtain⟨j0,j1⟩:=hSw;go_simp;all_goals(with_reducible rfl)) hS ?_
 refine tq 8 hS ?_
 refine tp 9 rfl (fun w hSw=>by obtain⟨j0,j1⟩:=hSw;go_simp;all_goals(with_reducible rfl)) hS ?_
 refine tr 6 (fun K hK=> ?_)
 go_simp
 refine(HCO.out _).mono ?_
 rintro e w' ⟨rfl,rfl⟩
 go_wp2_with fail
 refine hK.out _ _ hS (fun _=> ?_)
 clear hK K
 refine tr 7 (fun K hK=> ?_)
 go_simp
 refine(HDI.out _).mono ?_
 rintro e w' ⟨rfl,rfl⟩
 go_wp2_with fail
 refine hK.out _ _ hS (fun _=> ?_)
 clear hK K
 refine tq 10 hS ?_
 refine tq 11 hS ?_
 refine tq 12 hS ?_
 refine wpAnyH_done (by kernel_rfl) ?_ _
 go_wp2_with fail
 refine(HF.out _).mono ?_
 rintro e w' ⟨rfl,hb2⟩
 go_wp2_with fail
 go_ret2
 exact⟨rfl,(hb _).drew.trans (hb2.mono (by simp))⟩
theorem Ux(id:Int)(n:Nat)(hok:(⟨id,n⟩:bK).ok)(lI:id≠33)(hf:eG ⟨id,n⟩=false)(w:World):
  Calls Tryz.prog 46 #[.agg #[.int .i64 id,.int .u32 (n:Nat)]] w (Zc w (.int .i64 1)):=by
 have hb:=dN w
 have HF:=Lib.hid (pV ⟨id,n⟩ hok)
 rw[hf]at HF
 simp only[bK.agg]at HF
 obtain⟨o1,o2,o3⟩:=hok
 simp only at o1 o2 o3
 have hd:(id==33)=false:=by simp[lI]
 clear lI hf
 go_enter Tryz.func46,Tryz.ntmps46
 go_wp2_with fail
 refine wp_region_held_drew (S:=fun w'=>w'.cell? ⟨w.heap.size,0,none⟩=some (.int .i64 id)∧w'.cell? ⟨w.heap.size,1,none⟩=some (.int .u32 (n:Nat))) (by kernel_rfl) (mO w _ _ _) (fun hS=> ?_)
 refine tq 0 hS ?_
 refine tp 1 rfl (fun w hSw=>by obtain⟨j0,j1⟩:=hSw;go_simp;all_goals(with_reducible rfl)) hS ?_
 refine tq 2 hS ?_
 refine tq 3 hS ?_
 refine wpAnyH_take (i:=4) (oi:={dst:=some 25,op:=Op.fieldAddr 84 (Operand.tmp 1) 1,type:=0,pos:= "chain.go:63",after:= #[{on:=3,ground:=Ground.guard}],guard:=some (3,true)}) (v:=undef) rfl (by kernel_rfl) (by kernel_rfl) (by kernel_rfl) (fun _ _ _ h=>h) (Or.inr ⟨by rfl,rfl⟩) hS ?_
 simp only[Act.put,List.setIfInBounds_toArray,List.set_cons_zero,List.set_cons_succ]
 refine wpAnyH_take (i:=5) (oi:={dst:=some 26,op:=Op.load 24 (Operand.tmp 25),type:=24,pos:= "chain.go:63",after:= #[{on:=4,ground:=Ground.data},{on:=3,ground:=Ground.guard}],guard:=some (3,true)}) (v:=undef) rfl (by kernel_rfl) (by kernel_rfl) (by kernel_rfl) (fun _ _ _ h=>h) (Or.inr ⟨by rfl,rfl⟩) hS ?_
 simp only[Act.put,List.setIfInBounds_toArray,List.set_cons_zero,List.set_cons_succ]
 refine wpAnyH_take (i:=6) (oi:={dst:=some 27,op:=Op.call {callee:=Callee.value (Operand.func 17),args:= #[Operand.tmp 26],argTypes:= #[24]},type:=3,pos:= "chain.go:63",after:= #[{on:=5,ground:=Ground.data},{on:=3,ground:=Ground.chain},{on:=3,ground:=Ground.guard}],guard:=some (3,true)}) (v:=undef) rfl (by kernel_rfl) (by kernel_rfl) (by kernel_rfl) (fun _ _ _ h=>h) (Or.inr ⟨by rfl,rfl⟩) hS ?_
 simp only[Act.put,List.setIfInBounds_toArray,List.set_cons_zero,List.set_cons_succ]
 refine wpAnyH_take (i:=7) (oi:={dst:=some 28,op:=Op.call {callee:=Callee.value (Operand.func 16),args:= #[Operand.tmp 27],argTypes:= #[3]},type:=24,pos:= "chain.go:63",after:= #[{on:=6,ground:=Ground.data},{on:=6,ground:=Ground.chain},{on:=3,ground:=Ground.guard}],guard:=some (3,true)}) (v:=undef) rfl (by kernel_rfl) (by kernel_rfl) (by kernel_rfl) (fun _ _ _ h=>h) (Or.inr ⟨by rfl,rfl⟩) hS ?_
 simp only[Act.put,List.setIfInBounds_toArray,List.set_cons_zero,List.set_cons_succ]
 refine wpAnyH_take (i:=8) (oi:={dst:=some 29,op:=Op.fieldAddr 84 (Operand.tmp 1) 1,type:=0,pos:= "chain.go:63",after:= #[{on:=3,ground:=Ground.guard}],guard:=some (3,true)}) (v:=undef) rfl (by kernel_rfl) (by kernel_rfl) (by kernel_rfl) (fun _ _ _ h=>h) (Or.inr ⟨by rfl,rfl⟩) hS ?_
 simp only[Act.put,List.setIfInBounds_toArray,List.set_cons_zero,List.set_cons_succ]
 refine wpAnyH_take (i:=9) (oi:={dst:=some 30,op:=Op.load 24 (Operand.tmp 29),type:=24,pos:= "chain.go:63",after:= #[{on:=8,ground:=Ground.data},{on:=3,ground:=Ground.guard}],guard:=some (3,true)}) (v:=undef) rfl (by kernel_rfl) (by kernel_rfl) (by kernel_rfl) (fun _ _ _ h=>h) (Or.inr ⟨by rfl,rfl⟩) hS ?_
 simp only[Act.put,List.setIfInBounds_toArray,List.set_cons_zero,List.set_cons_succ]
 refine wpAnyH_take (i:=10) (oi:={dst:=some 31,op:=Op.binOp BinOp.eql 24 (Operand.tmp 28) (Operand.tmp 30) 24,type:=4,pos:= "chain.go:63",after:= #[{on:=7,ground:=Ground.data},{on:=9,ground:=Ground.data},{on:=3,ground:=Ground.guard}],guard:=some (3,true)}) (v:=undef) rfl (by kernel_rfl) (by kernel_rfl) (by kernel_rfl) (fun _ _ _ h=>h) (Or.inr ⟨by rfl,rfl⟩) hS ?_
 simp only[Act.put,List.setIfInBounds_toArray,List.set_cons_zero,List.set_cons_succ]
 refine tq 11 hS ?_
 refine tq 12 hS ?_
 refine wpAnyH_done (by kernel_rfl) ?_ _
 go_wp2_with fail
 refine(HF.out _).mono ?_
 rintro e w' ⟨rfl,hb2⟩
 go_wp2_with fail
 go_ret2
 exact⟨rfl,(hb _).drew.trans (hb2.mono (by simp))⟩
theorem Ze(n:Nat)(h1:1≤n)(h2:n≤256)(w:World):
  Calls Tryz.prog 46 #[.agg #[.int .i64 3,.int .u32 (n:Nat)]] w (zH w [UInt8.ofNat (n-1)] (.int .i64 0)):=by
 have hb:=dN w
 have HF:=Lib.hid (pV ⟨3,n⟩ ⟨by simp,by simp,by simp;omega⟩)
 have hfit:eG ⟨3,n⟩=true:=by unfold eG;simp;omega
 rw[hfit]at HF
 simp only[bK.agg]at HF
 clear hfit
 go_enter Tryz.func46,Tryz.ntmps46
 go_wp2_with fail
 refine wp_region_held_drew (S:=fun w'=>w'.cell? ⟨w.heap.size,0,none⟩=some (.int .i64 3)∧w'.cell? ⟨w.heap.size,1,none⟩=some (.int .u32 (n:Nat))) (by kernel_rfl) (mO w _ _ _) (fun hS=> ?_)
 refine tq 0 hS ?_
 refine tp 1 rfl (fun w hSw=>by obtain⟨j0,j1⟩:=hSw;go_simp;all_goals(with_reducible rfl)) hS ?_
 refine tq 2 hS ?_
 refine tq 3 hS ?_
 refine wpAnyH_take (i:=4) (oi:={dst:=some 25,op:=Op.fieldAddr 84 (Operand.tmp 1) 1,type:=0,pos:= "chain.go:63",after:= #[{on:=3,ground:=Ground.guard}],guard:=some (3,true)}) (v:=undef) rfl (by kernel_rfl) (by kernel_rfl) (by kernel_rfl) (fun _ _ _ h=>h) (Or.inr ⟨by rfl,rfl⟩) hS ?_
 simp only[Act.put,List.setIfInBounds_toArray,List.set_cons_zero,List.set_cons_succ]
 refine wpAnyH_take (i:=5) (oi:={dst:=some 26,op:=Op.load 24 (Operand.tmp 25),type:=24,pos:= "chain.go:63",after:= #[{on:=4,ground:=Ground.data},{on:=3,ground:=Ground.guard}],guard:=some (3,true)}) (v:=undef) rfl (by kernel_rfl) (by kernel_rfl) (by kernel_rfl) (fun _ _ _ h=>h) (Or.inr ⟨by rfl,rfl⟩) hS ?_
 simp only[Act.put,List.setIfInBounds_toArray,List.set_cons_zero,List.set_cons_succ]
 refine wpAnyH_take (i:=6) (oi:={dst:=some 27,op:=Op.call {callee:=Callee.value (Operand.func 17),args:= #[Operand.tmp 26],argTypes:= #[24]},type:=3,pos:= "chain.go:63",after:= #[{on:=5,ground:=Ground.data},{on:=3,ground:=Ground.chain},{on:=3,ground:=Ground.guard}],guard:=some (3,true)}) (v:=undef) rfl (by kernel_rfl) (by kernel_rfl) (by kernel_rfl) (fun _ _ _ h=>h) (Or.inr ⟨by rfl,rfl⟩) hS ?_
 simp only[Act.put,List.setIfInBounds_toArray,List.set_cons_zero,List.set_cons_succ]
 refine wpAnyH_take (i:=7) (oi:={dst:=some 28,op:=Op.call {callee:=Callee.value (Operand.func 16),args:= #[Operand.tmp 27],argTypes:= #[3]},type:=24,pos:= "chain.go:63",after:= #[{on:=6,ground:=Ground.data},{on:=6,ground:=Ground.chain},{on:=3,ground:=Ground.guard}],guard:=some (3,true)}) (v:=undef) rfl (by kernel_rfl) (by kernel_rfl) (by kernel_rfl) (fun _ _ _ h=>h) (Or.inr ⟨by rfl,rfl⟩) hS ?_
 simp only[Act.put,List.setIfInBounds_toArray,List.set_cons_zero,List.set_cons_succ]
 refine wpAnyH_take (i:=8) (oi:={dst:=some 29,op:=Op.fieldAddr 84 (Operand.tmp 1) 1,type:=0,pos:= "chain.go:63",after:= #[{on:=3,ground:=Ground.guard}],guard:=some (3,true)}) (v:=undef) rfl (by kernel_rfl) (by kernel_rfl) (by kernel_rfl) (fun _ _ _ h=>h) (Or.inr ⟨by rfl,rfl⟩) hS ?_
 simp only[Act.put,List.setIfInBounds_toArray,List.set_cons_zero,List.set_cons_succ]
 refine wpAnyH_take (i:=9) (oi:={dst:=some 30,op:=Op.load 24 (Operand.tmp 29),type:=24,pos:= "chain.go:63",after:= #[{on:=8,ground:=Ground.data},{on:=3,ground:=Ground.guard}],guard:=some (3,true)}) (v:=undef) rfl (by kernel_rfl) (by kernel_rfl) (by kernel_rfl) (fun _ _ _ h=>h) (Or.inr ⟨by rfl,rfl⟩) hS ?_
 simp only[Act.put,List.setIfInBounds_toArray,List.set_cons_zero,List.set_cons_succ]
 refine wpAnyH_take (i:=10) (oi:={dst:=some 31,op:=Op.binOp BinOp.eql 24 (Operand.tmp 28) (Operand.tmp 30) 24,type:=4,pos:= "chain.go:63",after:= #[{on:=7,ground:=Ground.data},{on:=9,ground:=Ground.data},{on:=3,ground:=Ground.guard}],guard:=some (3,true)}) (v:=undef) rfl (by kernel_rfl) (by kernel_rfl) (by kernel_rfl) (fun _ _ _ h=>h) (Or.inr ⟨by rfl,rfl⟩) hS ?_
 simp only[Act.put,List.setIfInBounds_toArray,List.set_cons_zero,List.set_cons_succ]
 refine tq 11 hS ?_
 refine tq 12 hS ?_
 refine wpAnyH_done (by kernel_rfl) ?_ _
 go_wp2_with fail
 refine(HF.out _).mono ?_
 rintro e w1 ⟨rfl,hb2⟩
 have k0:=(hb2.cell (p:=⟨w.heap.size,0,none⟩) (by simp)).trans hS.1
 have k1:=(hb2.cell (p:=⟨w.heap.size,1,none⟩) (by simp)).trans hS.2
 have g2:=(hb (.cells #[.int .i64 3,.int .u32 (n:Nat)] 84)).drew.trans (hb2.mono (by simp))
 clear hb2
 have e:(n:Int)-1=((n-1:Nat):Int):=by omega
 have asW:n-1<256:=by omega
 generalize n-1=m at*
 go_wp2_with fail
 go_ret2
 exact⟨_,rfl,ai1 _ _ _ (by omega) g2.size,g2.alloc g2.size _⟩
theorem Zf(id:Int)(hok:(⟨id,0⟩:bK).ok)(lI:id≠33)(h3:id≠3)(hf:eG ⟨id,0⟩=true)(w:World):
  Calls Tryz.prog 46 #[.agg #[.int .i64 id,.int .u32 0]] w (zH w [] (.int .i64 0)):=by
 have hb:=dN w
 have HF:=Lib.hid (pV ⟨id,0⟩ hok)
 rw[hf]at HF
 simp only[bK.agg]at HF
 obtain⟨o1,o2,o3⟩:=hok
 simp only at o1 o2 o3
 have hd:(id==33)=false:=by simp[lI]
 have hd3:(id==3)=false:=by simp[h3]
 clear lI hf h3
 go_enter Tryz.func46,Tryz.ntmps46
 go_wp2_with fail
 refine wp_region_held_drew (S:=fun w'=>w'.cell? ⟨w.heap.size,0,none⟩=some (.int .i64 id)∧w'.cell? ⟨w.heap.size,1,none⟩=some (.int .u32 0)) (by kernel_rfl) (mO w _ _ _) (fun hS=> ?_)
 refine tq 0 hS ?_
 refine tp 1 rfl (fun w hSw=>by obtain⟨j0,j1⟩:=hSw;go_simp;all_goals(with_reducible rfl)) hS ?_
 refine tq 2 hS ?_
 refine tq 3 hS ?_
 refine wpAnyH_take (i:=4) (oi:={dst:=some 25,op:=Op.fieldAddr 84 (Operand.tmp 1) 1,type:=0,pos:= "chain.go:63",after:= #[{on:=3,ground:=Ground.guard}],guard:=some (3,true)}) (v:=undef) rfl (by kernel_rfl) (by kernel_rfl) (by kernel_rfl) (fun _ _ _ h=>h) (Or.inr ⟨by rfl,rfl⟩) hS ?_
 simp only[Act.put,List.setIfInBounds_toArray,List.set_cons_zero,List.set_cons_succ]
 refine wpAnyH_take (i:=5) (oi:={dst:=some 26,op:=Op.load 24 (Operand.tmp 25),type:=24,pos:= "chain.go:63",after:= #[{on:=4,ground:=Ground.data},{on:=3,ground:=Ground.guard}],guard:=some (3,true)}) (v:=undef) rfl (by kernel_rfl) (by kernel_rfl) (by kernel_rfl) (fun _ _ _ h=>h) (Or.inr ⟨by rfl,rfl⟩) hS ?_
 simp only[Act.put,List.setIfInBounds_toArray,List.set_cons_zero,List.set_cons_succ]
 refine wpAnyH_take (i:=6) (oi:={dst:=some 27,op:=Op.call {callee:=Callee.value (Operand.func 17),args:= #[Operand.tmp 26],argTypes:= #[24]},type:=3,pos:= "chain.go:63",after:= #[{on:=5,ground:=Ground.data},{on:=3,ground:=Ground.chain},{on:=3,ground:=Ground.guard}],guard:=some (3,true)}) (v:=undef) rfl (by kernel_rfl) (by kernel_rfl) (by kernel_rfl) (fun _ _ _ h=>h) (Or.inr ⟨by rfl,rfl⟩) hS ?_
 simp only[Act.put,List.setIfInBounds_toArray,List.set_cons_zero,List.set_cons_succ]
 refine wpAnyH_take (i:=7) (oi:={dst:=some 28,op:=Op.call {callee:=Callee.value (Operand.func 16),args:= #[Operand.tmp 27],argTypes:= #[3]},type:=24,pos:= "chain.go:63",after:= #[{on:=6,ground:=Ground.data},{on:=6,ground:=Ground.chain},{on:=3,ground:=Ground.guard}],guard:=some (3,true)}) (v:=undef) rfl (by kernel_rfl) (by kernel_rfl) (by kernel_rfl) (fun _ _ _ h=>h) (Or.inr ⟨by rfl,rfl⟩) hS ?_
 simp only[Act.put,List.setIfInBounds_toArray,List.set_cons_zero,List.set_cons_succ]
 refine wpAnyH_take (i:=8) (oi:={dst:=some 29,op:=Op.fieldAddr 84 (Operand.tmp 1) 1,type:=0,pos:= "chain.go:63",after:= #[{on:=3,ground:=Ground.guard}],guard:=some (3,true)}) (v:=undef) rfl (by kernel_rfl) (by kernel_rfl) (by kernel_rfl) (fun _ _ _ h=>h) (Or.inr ⟨by rfl,rfl⟩) hS ?_
 simp only[Act.put,List.setIfInBounds_toArray,List.set_cons_zero,List.set_cons_succ]
 refine wpAnyH_take (i:=9) (oi:={dst:=some 30,op:=Op.load 24 (Operand.tmp 29),type:=24,pos:= "chain.go:63",after:= #[{on:=8,ground:=Ground.data},{on:=3,ground:=Ground.guard}],guard:=some (3,true)}) (v:=undef) rfl (by kernel_rfl) (by kernel_rfl) (by kernel_rfl) (fun _ _ _ h=>h) (Or.inr ⟨by rfl,rfl⟩) hS ?_
 simp only[Act.put,List.setIfInBounds_toArray,List.set_cons_zero,List.set_cons_succ]
 refine wpAnyH_take (i:=10) (oi:={dst:=some 31,op:=Op.binOp BinOp.eql 24 (Operand.tmp 28) (Operand.tmp 30) 24,type:=4,pos:= "chain.go:63",after:= #[{on:=7,ground:=Ground.data},{on:=9,ground:=Ground.data},{on:=3,ground:=Ground.guard}],guard:=some (3,true)}) (v:=undef) rfl (by kernel_rfl) (by kernel_rfl) (by kernel_rfl) (fun _ _ _ h=>h) (Or.inr ⟨by rfl,rfl⟩) hS ?_
 simp only[Act.put,List.setIfInBounds_toArray,List.set_cons_zero,List.set_cons_succ]
 refine tq 11 hS ?_
 refine tq 12 hS ?_
 refine wpAnyH_done (by kernel_rfl) ?_ _
 go_wp2_with fail
 refine(HF.out _).mono ?_
 rintro e w1 ⟨rfl,hb2⟩
 have k0:=(hb2.cell (p:=⟨w.heap.size,0,none⟩) (by simp)).trans hS.1
 have k1:=(hb2.cell (p:=⟨w.heap.size,1,none⟩) (by simp)).trans hS.2
 have g2:=(hb (.cells #[.int .i64 id,.int .u32 0] 84)).drew.trans (hb2.mono (by simp))
 clear hb2
 go_wp2_with fail
 go_ret2
 exact⟨_,rfl,Own.nil _ _,g2⟩
theorem Zg(id:Int)(n:Nat)(hok:(⟨id,n⟩:bK).ok)(lI:id≠33)(h3:id≠3)(hf:eG ⟨id,n⟩=true)(h0:n≠0)(w:World):
  Calls Tryz.prog 46 #[.agg #[.int .i64 id,.int .u32 (n:Nat)]] w (zH w (bytesOf true n) (.int .i64 0)):=by
 have hb:=dN w
 have HF:=Lib.hid (pV ⟨id,n⟩ hok)
 rw[hf]at HF
 simp only[bK.agg]at HF
 obtain⟨o1,o2,o3⟩:=hok
 simp only at o1 o2 o3
 have hd:(id==33)=false:=by simp[lI]
 have hd3:(id==3)=false:=by simp[h3]
 have hn0:((n:Int)==0)=false:=by simp[h0]
 clear lI hf h3
 have e0:(n:Int)%256=((UInt8.ofNat (n%256)).toNat:Int):=by rw[DY n];omega
 have e1:(n:Int)/256%256=((UInt8.ofNat (n/256%256)).toNat:Int):=by rw[DY (n/256)];omega
 have e2:(n:Int)/65536%256=((UInt8.ofNat (n/65536%256)).toNat:Int):=by rw[DY (n/65536)];omega
 have e3:(n:Int)/16777216%256=((UInt8.ofNat (n/16777216%256)).toNat:Int):=by rw[DY (n/16777216)];omega
 have e3':(n:Int)/16777216=((UInt8.ofNat (n/16777216%256)).toNat:Int):=by rw[DY (n/16777216)];omega
 have ng:bytesOf true n=[UInt8.ofNat (n%256),UInt8.ofNat (n/256%256),UInt8.ofNat (n/65536%256),UInt8.ofNat (n/16777216%256)]:=rfl
 rw[ng]
 generalize UInt8.ofNat (n%256)=y0 at*
 generalize UInt8.ofNat (n/256%256)=y1 at*
 generalize UInt8.ofNat (n/65536%256)=y2 at*
 generalize UInt8.ofNat (n/16777216%256)=y3 at*
 clear ng
 go_enter Tryz.func46,Tryz.ntmps46
 go_wp2_with fail
 refine wp_region_held_drew (S:=fun w'=>w'.cell? ⟨w.heap.size,0,none⟩=some (.int .i64 id)∧w'.cell? ⟨w.heap.size,1,none⟩=some (.int .u32 (n:Nat))) (by kernel_rfl) (mO w _ _ _) (fun hS=> ?_)
 refine tq 0 hS ?_
 refine tp 1 rfl (fun w hSw=>by obtain⟨j0,j1⟩:=hSw;go_simp;all_goals(with_reducible rfl)) hS ?_
 refine tq 2 hS ?_
 refine tq 3 hS ?_
 refine wpAnyH_take (i:=4) (oi:={dst:=some 25,op:=Op.fieldAddr 84 (Operand.tmp 1) 1,type:=0,pos:= "chain.go:63",after:= #[{on:=3,ground:=Ground.guard}],guard:=some (3,true)}) (v:=undef) rfl (by kernel_rfl) (by kernel_rfl) (by kernel_rfl) (fun _ _ _ h=>h) (Or.inr ⟨by rfl,rfl⟩) hS ?_
 simp only[Act.put,List.setIfInBounds_toArray,List.set_cons_zero,List.set_cons_succ]
 refine wpAnyH_take (i:=5) (oi:={dst:=some 26,op:=Op.load 24 (Operand.tmp 25),type:=24,pos:= "chain.go:63",after:= #[{on:=4,ground:=Ground.data},{on:=3,ground:=Ground.guard}],guard:=some (3,true)}) (v:=undef) rfl (by kernel_rfl) (by kernel_rfl) (by kernel_rfl) (fun _ _ _ h=>h) (Or.inr ⟨by rfl,rfl⟩) hS ?_
 simp only[Act.put,List.setIfInBounds_toArray,List.set_cons_zero,List.set_cons_succ]
 refine wpAnyH_take (i:=6) (oi:={dst:=some 27,op:=Op.call {callee:=Callee.value (Operand.func 17),args:= #[Operand.tmp 26],argTypes:= #[24]},type:=3,pos:= "chain.go:63",after:= #[{on:=5,ground:=Ground.data},{on:=3,ground:=Ground.chain},{on:=3,ground:=Ground.guard}],guard:=some (3,true)}) (v:=undef) rfl (by kernel_rfl) (by kernel_rfl) (by kernel_rfl) (fun _ _ _ h=>h) (Or.inr ⟨by rfl,rfl⟩) hS ?_
 simp only[Act.put,List.setIfInBounds_toArray,List.set_cons_zero,List.set_cons_succ]
 refine wpAnyH_take (i:=7) (oi:={dst:=some 28,op:=Op.call {callee:=Callee.value (Operand.func 16),args:= #[Operand.tmp 27],argTypes:= #[3]},type:=24,pos:= "chain.go:63",after:= #[{on:=6,ground:=Ground.data},{on:=6,ground:=Ground.chain},{on:=3,ground:=Ground.guard}],guard:=some (3,true)}) (v:=undef) rfl (by kernel_rfl) (by kernel_rfl) (by kernel_rfl) (fun _ _ _ h=>h) (Or.inr ⟨by rfl,rfl⟩) hS ?_
 simp only[Act.put,List.setIfInBounds_toArray,List.set_cons_zero,List.set_cons_succ]
 refine wpAnyH_take (i:=8) (oi:={dst:=some 29,op:=Op.fieldAddr 84 (Operand.tmp 1) 1,type:=0,pos:= "chain.go:63",after:= #[{on:=3,ground:=Ground.guard}],guard:=some (3,true)}) (v:=undef) rfl (by kernel_rfl) (by kernel_rfl) (by kernel_rfl) (fun _ _ _ h=>h) (Or.inr ⟨by rfl,rfl⟩) hS ?_
 simp only[Act.put,List.setIfInBounds_toArray,List.set_cons_zero,List.set_cons_succ]
 refine wpAnyH_take (i:=9) (oi:={dst:=some 30,op:=Op.load 24 (Operand.tmp 29),type:=24,pos:= "chain.go:63",after:= #[{on:=8,ground:=Ground.data},{on:=3,ground:=Ground.guard}],guard:=some (3,true)}) (v:=undef) rfl (by kernel_rfl) (by kernel_rfl) (by kernel_rfl) (fun _ _ _ h=>h) (Or.inr ⟨by rfl,rfl⟩) hS ?_
 simp only[Act.put,List.setIfInBounds_toArray,List.set_cons_zero,List.set_cons_succ]
 refine wpAnyH_take (i:=10) (oi:={dst:=some 31,op:=Op.binOp BinOp.eql 24 (Operand.tmp 28) (Operand.tmp 30) 24,type:=4,pos:= "chain.go:63",after:= #[{on:=7,ground:=Ground.data},{on:=9,ground:=Ground.data},{on:=3,ground:=Ground.guard}],guard:=some (3,true)}) (v:=undef) rfl (by kernel_rfl) (by kernel_rfl) (by kernel_rfl) (fun _ _ _ h=>h) (Or.inr ⟨by rfl,rfl⟩) hS ?_
 simp only[Act.put,List.setIfInBounds_toArray,List.set_cons_zero,List.set_cons_succ]
 refine tq 11 hS ?_
 refine tq 12 hS ?_
 refine wpAnyH_done (by kernel_rfl) ?_ _
 go_wp2_with fail
 refine(HF.out _).mono ?_
 rintro e w1 ⟨rfl,hb2⟩
 have k0:=(hb2.cell (p:=⟨w.heap.size,0,none⟩) (by simp)).trans hS.1
 have k1:=(hb2.cell (p:=⟨w.heap.size,1,none⟩) (by simp)).trans hS.2
 have g2:=(hb (.cells #[.int .i64 id,.int .u32 (n:Nat)] 84)).drew.trans (hb2.mono (by simp))
 clear hb2
 go_wp2_with fail
 go_ret2
 exact⟨_,rfl,afs _ _ _ _ _ _ g2.size,g2.alloc g2.size _⟩
theorem Pm(f:bK)(hok:f.ok)(w:World):Calls Tryz.prog 46 #[f.agg] w (am8 w (.int .i64 0) (.int .i64 1) (nI f)):=by
 obtain⟨id,n⟩:=f
 have hn:=hok.2.2
 simp only at hn
 unfold nI
 simp only
 by_cases lI:id=33
 ·subst lI
  rw[if_pos rfl]
  by_cases hd:aJ (aV n)=n
  ·rw[if_pos hd];exact Uw n hn hd w
  ·rw[if_neg hd];exact LW n hn hd w
 ·rw[if_neg lI]
  by_cases hf:eG ⟨id,n⟩=true
  ·rw[if_pos hf]
   by_cases h3:id=3
   ·subst h3
    rw[if_pos rfl]
    rcases D9 _ hf with⟨_,g1,g2⟩ | ⟨e,_,_⟩
    ·exact Ze n g1 g2 w
    ·exact absurd rfl e
   ·rw[if_neg h3]
    by_cases h0:n=0
    ·subst h0;rw[if_pos rfl];exact Zf id hok lI h3 hf w
    ·rw[if_neg h0];exact Zg id n hok lI h3 hf h0 w
  ·rw[if_neg hf];exact Ux id n hok lI (by simpa using hf) w
def yA(w:World)(id:Int)(n:Nat)(tag:Value)(e:Ending)(w':World):Prop:=e= .returned (.tuple #[.agg #[.int .i64 id,.int .u32 (n:Nat)],tag])∧Below w.heap.size w w'
theorem Pn(id:Int)(lI:id≠33)(h3:id≠3)(hi:lC id=false)(A:Option Addr)(n c:Nat)(w:World):
  Calls Tryz.prog 184 #[.int .i64 id,.slice A n c] w (yA w 0 0 (.int .i64 5)):=by
 have HI:=Lib.hid (eH id)
 rw[hi]at HI
 have d33:(id==33)=false:=by simp[lI]
 have d3:(id==3)=false:=by simp[h3]
 clear lI h3 hi
 go_enter Tryz.func184,Tryz.ntmps184
 go_wp2_with fail
 refine(HI.out _).mono ?_
 rintro e w' ⟨rfl,rfl⟩
 go_wp2_with fail
 refine(HI.out _).mono ?_
 rintro e w' ⟨rfl,rfl⟩
 go_wp2_with fail
 exact bodyPost_ret (v:= .tuple #[.agg #[.int .i64 0,.int .u32 0],.int .i64 5]) (by simp[results,Tryz.results184,go_sem]) rfl ⟨rfl,((Below.refl _ _).alloc (Nat.le_refl _) _).alloc (by simp) _⟩
end Go.Proofs.YtgfpocdiojifoaaGreatDoor
