import Derived.Deep.RegionHeld3
import Derived.Test.YtgfpocdiojifoaaGreatDoorZ13
import Derived.Deep.Slices
import Derived.Deep.Fields
import Derived.ChangeSame
import Derived.Lib.SmallJoins
namespace Go.Proofs.YtgfpocdiojifoaaGreatDoor
set_option maxRecDepth 100000
set_option maxHeartbeats 8000000
open Go.RowKit
def Iu(w:World)(l:List UInt8)(e:Ending)(w':World):Prop:= ∃v,e= .returned v∧Own w.heap.size w' v l∧Below w.heap.size w w'
def low4(lw:Nat):List Value:=[.int .u8 (IntKind.u8.wrap ((lw:Int)/16777216)),.int .u8 (IntKind.u8.wrap ((lw:Int)/65536)),.int .u8 (IntKind.u8.wrap ((lw:Int)/256)),.int .u8 (IntKind.u8.wrap (lw:Int))]
theorem Xr{lw:Nat}: ∀u∈low4 lw,u.oneCell'=true:=by
 intro u hu;simp[low4]at hu;rcases hu with rfl | rfl | rfl | rfl<;>rfl
theorem N9(v lw:Nat)(h:v%4294967296=lw):low4 lw=(Rc.be 4 v).map B8:=by
 have e:Rc.be 4 v=[UInt8.ofNat (v/256/256/256%256),UInt8.ofNat (v/256/256%256),UInt8.ofNat (v/256%256),UInt8.ofNat (v%256)]:=rfl
 rw[e]
 simp only[low4,List.map,B8,IntKind.wrap_u8',UInt8.toNat_ofNat']
 congr 2<;>(try congr 2)<;>(try congr 2)<;>(try congr 2)<;>omega
theorem abv(k v:Nat):Rc.be (1+k) (v/4294967296)++Rc.be 4 v=Rc.be (5+k) v:=by
 rw[show 5+k=(1+k)+4 by omega,Rc.VJ (1+k) 4]
theorem SA{w:World}{base g cap n:Nat}{l:List UInt8}(h:w.ownsRow base 5 1 (.slice (some ⟨g,0,none⟩) n cap) n (l.map B8)):n=l.length∧Bytes w (some ⟨g,0,none⟩) l:=by
 have hn:n=l.length:=by have:=h.1;simp at this;omega
 subst hn
 obtain⟨A,c,e,_,_,h3⟩:=Own.read (base:=base) (l:=l) h
 injection e with e1 e2 e3
 subst e1
 exact⟨rfl,h3⟩
theorem SB(g o cap:Nat)(s:Rc.St)(w:World)(hE:gQ w g o cap s)(hk:1+s.k+4≤140737488355328):
  Calls Tryz.prog 125 #[.pointer (some ⟨g,0,none⟩)] w (Iu w (Rc.be (5+s.k) s.v)):=by
 obtain⟨i,hi,hz0,hz1,hz2⟩:=info_parts wW
 have c0:=BK hE.blk
 have c2:=JJ hE.blk
 have hgl:g<w.heap.size:=block_lt_of_cell c0
 have hmk:i.bytes*(1+s.k+4)≤281474976710656:=by rw[hz2];omega
 have hml:1+s.k+4≤maxLen:=by unfold maxLen;omega
 have hm1:1≤1+s.k:=by omega
 obtain⟨hlen,hrB⟩:=SA hE.own
 have adq:=abv s.k s.v
 have hl4:=N9 s.v (s.v%4294967296) rfl
 generalize hlb:Rc.be (1+s.k) (s.v/4294967296)=lb at*
 generalize Rc.be (5+s.k) s.v=res at*
 generalize Rc.be 4 s.v=l4 at*
 generalize s.v%4294967296=lw at*
 generalize 1+s.k=m at*
 have hsrc:Value.slice (some ⟨o,0,none⟩) m cap= .slice (some ⟨o,0,none⟩) lb.length cap:=by rw[hlen]
 have HLEN:=Lib.hid hlen
 have HJ:=Lib.hid adq
 have CJ:=Lib.hid hl4
 have abw:=Lib.hid hsrc
 clear hlen adq hl4 hlb hsrc hE
 have hfit:([]:List UInt8).length+lb.length≤140737488355328:=by rw[←HLEN.out];simp;omega
 go_enter Tryz.func125,Tryz.ntmps125
 go_wp2_with (first
  | (refine wpList_make_own _ rfl _ _ 22 rfl w.heap.size 5 i (.int .u8 0) 1 Tryz.underlying22 hi hz0 hz1 _ _ _ (m+4) rfl rfl rfl hmk hml (Nat.le_refl _) ?_;intro w1 hown1 hg1;have hb1:Below w.heap.size w w1:=below_grown (Below.refl _ _) hg1 (Nat.le_refl _) (by simp);have c01:=(hb1.cell (p:=⟨g,0,none⟩) hgl).trans c0;have c21:=(hb1.cell (p:=⟨g,2,none⟩) hgl).trans c2)
  | (at_builtin;refine ay rfl (.tmp 13) (.tmp 17) rfl w.heap.size _ _ [] rfl hown1 (some ⟨o,0,none⟩) lb cap abw.out (hrB.below hb1) hfit hb1.size ?_;intro v2 w4 fE hg4;have hb4:Below w.heap.size w w4:=below_grown hb1 hg4 hb1.size (fun g' hg'=>(Own.aF (l:=[]) hown1 g' hg').1)))
 rw[List.nil_append]at fE
 generalize hn:lb.length=n at*
 unfold Own at fE
 rw[hn]at fE
 have hnm:m=n:=HLEN.out
 obtain⟨gb,abx,rfl,hgb,ahR⟩:=World.ownsRow.form fE (by omega)
 have c04:=(hb4.cell (p:=⟨g,0,none⟩) hgl).trans c0
 have hc4:w4.drew.cell? ⟨g,0,none⟩=some (.int .u32 (lw:Int)):=c04
 have alM:g<w4.heap.size:=Nat.lt_of_lt_of_le hgl hb4.size
 have ahS: ∀o:Obj,(w4.alloc o).drew.cell? ⟨g,0,none⟩=some (.int .u32 (lw:Int)):=fun o=>(World.cell?_alloc_lt w4 o ⟨g,0,none⟩ alM).trans c04
 have hoa:=World.ownsRow.alloc fE (.cells #[.int .u8 (IntKind.u8.wrap ((lw:Int)/16777216)),.int .u8 (IntKind.u8.wrap ((lw:Int)/65536)),.int .u8 (IntKind.u8.wrap ((lw:Int)/256)),.int .u8 (IntKind.u8.wrap (lw:Int))] 5)
 have hnews:=World.news_of_block (heap_alloc_new w4 (.cells #[.int .u8 (IntKind.u8.wrap ((lw:Int)/16777216)),.int .u8 (IntKind.u8.wrap ((lw:Int)/65536)),.int .u8 (IntKind.u8.wrap ((lw:Int)/256)),.int .u8 (IntKind.u8.wrap (lw:Int))] 5))
 have h63:n+4≤maxLen:=by unfold maxLen;omega
 have hby:(n+4)*1≤140737488355328:=by omega
 have hbs:w.heap.size≤(w4.alloc (.cells #[.int .u8 (IntKind.u8.wrap ((lw:Int)/16777216)),.int .u8 (IntKind.u8.wrap ((lw:Int)/65536)),.int .u8 (IntKind.u8.wrap ((lw:Int)/256)),.int .u8 (IntKind.u8.wrap (lw:Int))] 5)).drew.heap.size:=by
  have:=hb4.size
  show w.heap.size≤(w4.alloc _).heap.size
  simp;omega
 have hHH:(w4.alloc (.cells #[.int .u8 (IntKind.u8.wrap ((lw:Int)/16777216)),.int .u8 (IntKind.u8.wrap ((lw:Int)/65536)),.int .u8 (IntKind.u8.wrap ((lw:Int)/256)),.int .u8 (IntKind.u8.wrap (lw:Int))] 5)).drew.heap.size=w4.heap.size+1:=by show(w4.alloc _).heap.size=_;simp
 have HH:=Lib.hid hHH
 have hK: ∀w6:World,(w4.alloc (.cells #[.int .u8 (IntKind.u8.wrap ((lw:Int)/16777216)),.int .u8 (IntKind.u8.wrap ((lw:Int)/65536)),.int .u8 (IntKind.u8.wrap ((lw:Int)/256)),.int .u8 (IntKind.u8.wrap (lw:Int))] 5)).drew.grownBy w6 (Value.ownBlock (.slice (some ⟨gb,0,none⟩) n abx))→w6.cell? ⟨g,0,none⟩=some (.int .u32 (lw:Int)):=by
  intro w6 h
  refine(h.cell_far ⟨g,0,none⟩ ?_ ?_).trans (ahS _)
  ·show g<(w4.alloc _).heap.size;simp;omega
  ·simp[Value.ownBlock];omega
 have HK:=Lib.hid hK
 have HNM:=Lib.hid hnm
 have HN:=Lib.hid hn
 clear hHH hK hn hnm hown1 hg1 hg4 c01 c21 c0 c2
 refine wp_region_held_drew (S:=fun w'=>w'.cell? ⟨g,0,none⟩=some (.int .u32 (lw:Int))) (by kernel_rfl) hc4 (fun hS=> ?_)
 refine tk 0 (v:= ?vb0) ?yb0 hS ?_
 case yb0=>intro w hSw;go_simp;all_goals(with_reducible rfl)
 simp only[Act.put,List.setIfInBounds_toArray,List.set_cons_zero,List.set_cons_succ]
 refine tk 1 (v:= ?vb1) ?yb1 hS ?_
 case yb1=>intro w hSw;go_simp;all_goals(with_reducible rfl)
 simp only[Act.put,List.setIfInBounds_toArray,List.set_cons_zero,List.set_cons_succ]
 refine tk 2 (v:= ?vb2) ?yb2 hS ?_
 case yb2=>intro w hSw;go_simp;all_goals(with_reducible rfl)
 simp only[Act.put,List.setIfInBounds_toArray,List.set_cons_zero,List.set_cons_succ]
 refine tk 3 (v:= ?vb3) ?yb3 hS ?_
 case yb3=>intro w hSw;go_simp;all_goals(with_reducible rfl)
 simp only[Act.put,List.setIfInBounds_toArray,List.set_cons_zero,List.set_cons_succ]
 refine tk 4 (v:= ?vb4) ?yb4 hS ?_
 case yb4=>intro w hSw;go_simp;all_goals(with_reducible rfl)
 simp only[Act.put,List.setIfInBounds_toArray,List.set_cons_zero,List.set_cons_succ]
 refine tk 5 (v:= ?vb5) ?yb5 hS ?_
 case yb5=>intro w hSw;go_simp;all_goals(with_reducible rfl)
 simp only[Act.put,List.setIfInBounds_toArray,List.set_cons_zero,List.set_cons_succ]
 refine tk 6 (v:= ?vb6) ?yb6 hS ?_
 case yb6=>intro w hSw;go_simp;all_goals(with_reducible rfl)
 simp only[Act.put,List.setIfInBounds_toArray,List.set_cons_zero,List.set_cons_succ]
 refine tk 7 (v:= ?vb7) ?yb7 hS ?_
 case yb7=>intro w hSw;go_simp;all_goals(with_reducible rfl)
 simp only[Act.put,List.setIfInBounds_toArray,List.set_cons_zero,List.set_cons_succ]
 refine tk 8 (v:= ?vb8) ?yb8 hS ?_
 case yb8=>intro w hSw;go_simp;all_goals(with_reducible rfl)
 simp only[Act.put,List.setIfInBounds_toArray,List.set_cons_zero,List.set_cons_succ]
 refine tk 9 (v:= ?vb9) ?yb9 hS ?_
 case yb9=>intro w hSw;go_simp;all_goals(with_reducible rfl)
 simp only[Act.put,List.setIfInBounds_toArray,List.set_cons_zero,List.set_cons_succ]
 refine tk 10 (v:= ?arn) ?alN hS ?_
 case alN=>intro w hSw;go_simp;all_goals(with_reducible rfl)
 simp only[Act.put,List.setIfInBounds_toArray,List.set_cons_zero,List.set_cons_succ]
 refine tk 11 (v:= ?aro) ?alO hS ?_
 case alO=>intro w hSw;go_simp;all_goals(with_reducible rfl)
 simp only[Act.put,List.setIfInBounds_toArray,List.set_cons_zero,List.set_cons_succ]
 refine tk 12 (v:= ?arp) ?alP hS ?_
 case alP=>intro w hSw;go_simp;all_goals(with_reducible rfl)
 simp only[Act.put,List.setIfInBounds_toArray,List.set_cons_zero,List.set_cons_succ]
 refine tk 13 (v:= ?arq) ?alQ hS ?_
 case alQ=>intro w hSw;go_simp;all_goals(with_reducible rfl)
 simp only[Act.put,List.setIfInBounds_toArray,List.set_cons_zero,List.set_cons_succ]
 refine tk 14 (v:= ?ars) ?alR hS ?_
 case alR=>intro w hSw;go_simp;all_goals(with_reducible rfl)
 simp only[Act.put,List.setIfInBounds_toArray,List.set_cons_zero,List.set_cons_succ]
 refine tk 15 (v:= ?aru) ?alS hS ?_
 case alS=>intro w hSw;go_simp;all_goals(with_reducible rfl)
 simp only[Act.put,List.setIfInBounds_toArray,List.set_cons_zero,List.set_cons_succ]
 refine tk 16 (v:= ?arv) ?alT hS ?_
 case alT=>intro w hSw;go_simp;all_goals(with_reducible rfl)
 simp only[Act.put,List.setIfInBounds_toArray,List.set_cons_zero,List.set_cons_succ]
 refine tk 17 (v:= ?arw) ?alU hS ?_
 case alU=>intro w hSw;go_simp;all_goals(with_reducible rfl)
 simp only[Act.put,List.setIfInBounds_toArray,List.set_cons_zero,List.set_cons_succ]
 refine tk 18 (v:= ?arx) ?alV hS ?_
 case alV=>intro w hSw;go_simp;all_goals(with_reducible rfl)
 simp only[Act.put,List.setIfInBounds_toArray,List.set_cons_zero,List.set_cons_succ]
 refine tk 19 (v:= ?arz) ?alW hS ?_
 case alW=>intro w hSw;go_simp;all_goals(with_reducible rfl)
 simp only[Act.put,List.setIfInBounds_toArray,List.set_cons_zero,List.set_cons_succ]
 refine tk 20 (v:= ?arA) ?alX hS ?_
 case alX=>intro w hSw;go_simp;all_goals(with_reducible rfl)
 simp only[Act.put,List.setIfInBounds_toArray,List.set_cons_zero,List.set_cons_succ]
 refine tk 21 (v:= ?arB) ?alY hS ?_
 case alY=>intro w hSw;go_simp;all_goals(with_reducible rfl)
 simp only[Act.put,List.setIfInBounds_toArray,List.set_cons_zero,List.set_cons_succ]
 refine tk 22 (v:= ?arC) ?alZ hS ?_
 case alZ=>intro w hSw;go_simp;all_goals(with_reducible rfl)
 simp only[Act.put,List.setIfInBounds_toArray,List.set_cons_zero,List.set_cons_succ]
 refine tk 23 (v:= ?arD) ?al0 hS ?_
 case al0=>intro w hSw;go_simp;all_goals(with_reducible rfl)
 simp only[Act.put,List.setIfInBounds_toArray,List.set_cons_zero,List.set_cons_succ]
 refine wpAnyH_ready (rs:=[24]) (by kernel_rfl) (by simp) ?_
 refine AllReadyH.cons (o:={dst:=some 43,op:=Op.buildSlice 22 4 #[(0,Operand.tmp 25),(1,Operand.tmp 31),(2,Operand.tmp 37),(3,Operand.tmp 42)],type:=22,pos:= "rcenc.go:68",after:= #[{on:=6,ground:=Ground.data},{on:=12,ground:=Ground.data},{on:=18,ground:=Ground.data},{on:=23,ground:=Ground.data}],guard:=none}) rfl (fun K hK=> ?_) AllReadyH.nil
 go_simp
 skip
 refine hK.out _ _ (ahS _) (fun ao0=> ?_)
 clear hK K
 refine wpAnyH_ready (rs:=[25]) (by kernel_rfl) (by simp) ?_
 refine AllReadyH.cons (o:={dst:=some 44,op:=Op.call {callee:=Callee.builtin Builtin.append,args:= #[Operand.tmp 19,Operand.tmp 43],argTypes:= #[22,22]},type:=22,pos:= "rcenc.go:68",after:= #[{on:=0,ground:=Ground.data},{on:=24,ground:=Ground.data}],guard:=none}) rfl (fun K hK=> ?_) AllReadyH.nil
 refine step_append_lies (P:=Tryz.prog) _ rfl (.tmp 19) (.tmp 43) 22 rfl w.heap.size 5 i (.int .u8 0) 1 1 Tryz.underlying22 hi hz0 hz1 hz2 rfl (by decide) (.slice (some ⟨gb,0,none⟩) n abx) n _ rfl hoa.drew ⟨w4.heap.size,0,none⟩ 4 4 (low4 lw) rfl rfl hnews Xr (by decide) h63 hby hbs (w4.heap.size+1) HH.out ?_
 intro g2 cap2 w6 hown6 hg6 _ _
 have al1:=HK.out w6 hg6
 refine hK.out _ _ al1 (fun ahT=> ?_)
 clear hK K
 refine tk 26 (v:= ?arE) ?al2 ahT ?_
 case al2=>intro w hSw;go_simp;all_goals(with_reducible rfl)
 simp only[Act.put,List.setIfInBounds_toArray,List.set_cons_zero,List.set_cons_succ]
 refine wpAnyH_done (by kernel_rfl) ?_ _
 go_wp2_with fail
 go_ret
 refine⟨_,rfl,?_,?_⟩
 ·unfold Own
  have hlr:res.length=n+4:=by
   have h4:=congrArg List.length CJ.out
   rw[←HJ.out,List.length_append,HN.out];simp[low4]at h4;omega
  rw[hlr,←HJ.out,List.map_append,←CJ.out];exact hown6
 ·exact below_grown ((hb4.alloc hb4.size _).drew) hg6 hbs (fun g' hg'=>by
   have:gb=g':=by simpa [Value.ownBlock]using hg'
   omega)
abbrev qB(lc lp pb nice chunk block check:Int)(chain:Value)(dict:Nat):List Value:=[.int .i64 lc,.int .i64 lp,.int .i64 pb,.int .i64 nice,.int .i64 chunk,.int .i64 block,.int .i64 check,chain,.int .u32 (dict:Nat)]
abbrev FK(lc lp pb nice chunk block check:Int)(chain:Value)(dict:Nat):Value:= .agg #[.int .i64 lc,.int .i64 lp,.int .i64 pb,.int .i64 nice,.int .i64 chunk,.int .i64 block,.int .i64 check,chain,.int .u32 (dict:Nat)]
def lT(lc lp pb nice chunk:Int)(dict:Nat):Bool:=lS lc lp pb&&decide ((2≤nice∧nice≤273)∧(1≤chunk∧chunk≤65536)∧4096≤dict∧dict≤67108864)
def inB(n lo hi:Int):Bool:=decide (lo≤n∧n≤hi)
theorem CO(n lo hi:Int)(w:World):Calls Tryz.prog 51 #[.int .i64 n,.int .i64 lo,.int .i64 hi] w fun e w'=>e= .returned (.bool (inB n lo hi))∧w=w':=by
 by_cases h0:lo≤n
 ·have HS:Hid (inB n lo hi=decide (n≤hi)):=Lib.hid (by unfold inB;exact decide_eq_decide.2 (by omega))
  rw[HS.out]
  go_enter Tryz.func51,Tryz.ntmps51
  go_wp2_with fail
  go_ret
  exact⟨rfl,rfl⟩
 ·have HS:Hid (inB n lo hi=false):=Lib.hid (by unfold inB;exact decide_eq_false (by omega))
  rw[HS.out]
  go_enter Tryz.func51,Tryz.ntmps51
  go_wp2_with fail
  go_ret
  exact⟨rfl,rfl⟩
theorem gY{w W:World}{vs:List Value}{t:TypeId}(h:w.alloc (.cells vs.toArray t)=W):W.heap[w.heap.size]? =some (.cells vs.toArray t (0,0))∧Below w.heap.size w W:=by
 subst h
 exact⟨heap_alloc_new w _,(Below.refl _ _).alloc (Nat.le_refl _) _⟩
def xG(b:Bool)(w:World)(e:Ending)(w':World):Prop:=e= .returned (.bool b)∧Below w.heap.size w w'
theorem Kw(lc lp pb nice chunk block check:Int)(chain:Value)(dict:Nat)(w:World):
  Calls Tryz.prog 24 #[FK lc lp pb nice chunk block check chain dict] w (xG (lT lc lp pb nice chunk dict) w):=by
 obtain⟨R,hR⟩: ∃R,lT lc lp pb nice chunk dict=R:=⟨_,rfl⟩
 rw[hR]
 obtain⟨W,hW⟩: ∃W,w.alloc (.cells #[.int .i64 lc,.int .i64 lp,.int .i64 pb,.int .i64 nice,.int .i64 chunk,.int .i64 block,.int .i64 check,chain,.int .u32 (dict:Nat)] 26)=W:=⟨_,rfl⟩
 obtain⟨hrow,hbW⟩:=gY (vs:=qB lc lp pb nice chunk block check chain dict) hW
 have HC:Hid (∀W',Below W.heap.size W W'→W'.cell? ⟨w.heap.size,0,none⟩=some (.int .i64 lc)∧W'.cell? ⟨w.heap.size,1,none⟩=some (.int .i64 lp)∧W'.cell? ⟨w.heap.size,2,none⟩=some (.int .i64 pb)∧W'.cell? ⟨w.heap.size,3,none⟩=some (.int .i64 nice)∧W'.cell? ⟨w.heap.size,4,none⟩=some (.int .i64 chunk)∧W'.cell? ⟨w.heap.size,8,none⟩=some (.int .u32 (dict:Nat))):=Lib.hid (fun W' hb=>by
  have h:=(hb.block _ (Array.getElem?_eq_some_iff.1 hrow).1).trans hrow
  refine⟨?_,?_,?_,?_,?_,?_⟩<;>(rw[cell_of_row W' _ _ _ _ _ h];rfl))
 obtain⟨c0,c1,c2,_,_,_⟩:=HC.out W (Below.refl _ _)
 have HW:=Lib.hid hW
 have fV:=Lib.hid hbW
 have HR:=Lib.hid hR
 have HN:=Lib.hid (CO nice 2 273)
 have HK:=Lib.hid (CO chunk 1 65536)
 clear hrow hW hbW hR
 cases hp:lS lc lp pb with
 | false=>
  have HM:=Lib.hid (Kv lc lp pb W hp)
  have xE:Hid (R=false):=Lib.hid (by rw[←HR.out];unfold lT;rw[hp];rfl)
  clear hp
  go_enter Tryz.func24,Tryz.ntmps24
  go_upto_region 1 with fail
  rw[HW.out]
  go_wp2_with fail
  refine HM.out.mono ?_
  rintro e w1 ⟨rfl,rfl⟩
  go_wp2_with fail
  go_ret
  exact⟨by rw[xE.out];rfl,fV.out⟩
 | true=>
  have hp':=of_decide_eq_true hp
  obtain⟨lc,rfl⟩: ∃n:Nat,lc=n:=⟨lc.toNat,by omega⟩
  obtain⟨lp,rfl⟩: ∃n:Nat,lp=n:=⟨lp.toNat,by omega⟩
  obtain⟨pb,rfl⟩: ∃n:Nat,pb=n:=⟨pb.toNat,by omega⟩
  have HM:=Lib.hid (uJ lc lp pb W (by omega) (by omega) (by omega) (by omega))
  have xE:Hid (R=decide ((2≤nice∧nice≤273)∧(1≤chunk∧chunk≤65536)∧4096≤dict∧dict≤67108864)):=Lib.hid (by rw[←HR.out];unfold lT;rw[hp];rfl)
  clear hp hp'
  by_cases h1:2≤nice∧nice≤273
  case neg=>
   have e1:inB nice 2 273=false:=decide_eq_false h1
   rw[e1]at HN
   have Xt:Hid (R=false):=Lib.hid (by rw[xE.out];exact decide_eq_false (fun h=>h1 h.1))
   clear h1 e1
   go_enter Tryz.func24,Tryz.ntmps24
   go_upto_region 1 with fail
   rw[HW.out]
   go_wp2_with fail
   refine HM.out.mono ?_
   rintro e w1 ⟨C,L,rfl,_,hb1,_,_⟩
   obtain⟨_,_,_,d3,d4,d8⟩:=HC.out w1 hb1
   have HB1:=Lib.hid hb1
   clear hb1 c0 c1 c2
   go_wp2_with fail
   refine(HN.out w1).mono ?_
   rintro e w2 ⟨rfl,rfl⟩
   go_wp2_with fail
   go_ret
   exact⟨by rw[Xt.out];rfl,fV.out.trans (HB1.out.mono fV.out.size)⟩
  case pos=>
   have e1:inB nice 2 273=true:=decide_eq_true h1
   rw[e1]at HN
   by_cases h2:1≤chunk∧chunk≤65536
   case neg=>
    have e2:inB chunk 1 65536=false:=decide_eq_false h2
    rw[e2]at HK
    have Xt:Hid (R=false):=Lib.hid (by rw[xE.out];exact decide_eq_false (fun h=>h2 h.2.1))
    clear h1 e1 h2 e2
    go_enter Tryz.func24,Tryz.ntmps24
    go_upto_region 1 with fail
    rw[HW.out]
    go_wp2_with fail
    refine HM.out.mono ?_
    rintro e w1 ⟨C,L,rfl,_,hb1,_,_⟩
    obtain⟨_,_,_,d3,d4,d8⟩:=HC.out w1 hb1
    have HB1:=Lib.hid hb1
    clear hb1 c0 c1 c2
    go_wp2_with fail
    refine(HN.out w1).mono ?_
    rintro e w2 ⟨rfl,rfl⟩
    go_wp2_with fail
    refine(HK.out w1).mono ?_
    rintro e w2 ⟨rfl,rfl⟩
    go_wp2_with fail
    go_ret
    exact⟨by rw[Xt.out];rfl,fV.out.trans (HB1.out.mono fV.out.size)⟩
   case pos=>
    have e2:inB chunk 1 65536=true:=decide_eq_true h2
    rw[e2]at HK
    have HRw:Hid (R=decide (4096≤dict∧dict≤67108864)):=Lib.hid (by rw[xE.out];exact decide_eq_decide.2 ⟨fun h=>h.2.2,fun h=>⟨h1,h2,h⟩⟩)
    clear h1 e1 h2 e2
    by_cases h3:4096≤dict
    case neg=>
     have Xt:Hid (R=false):=Lib.hid (by rw[HRw.out];exact decide_eq_false (fun h=>h3 h.1))
     have e3: ¬(4096:Int)≤(dict:Int):=by omega
     go_enter Tryz.func24,Tryz.ntmps24
     go_upto_region 1 with fail
     rw[HW.out]
     go_wp2_with fail
     refine HM.out.mono ?_
     rintro e w1 ⟨C,L,rfl,_,hb1,_,_⟩
     obtain⟨_,_,_,d3,d4,d8⟩:=HC.out w1 hb1
     have HB1:=Lib.hid hb1
     clear hb1 c0 c1 c2
     go_wp2_with fail
     refine(HN.out w1).mono ?_
     rintro e w2 ⟨rfl,rfl⟩
     go_wp2_with fail
     refine(HK.out w1).mono ?_
     rintro e w2 ⟨rfl,rfl⟩
     go_wp2_with fail
     go_ret
     exact⟨by rw[Xt.out];rfl,fV.out.trans (HB1.out.mono fV.out.size)⟩
    case pos=>
     have e3:(4096:Int)≤(dict:Int):=by omega
     obtain⟨q,hq⟩: ∃q,decide (dict≤67108864)=q:=⟨_,rfl⟩
     have hq2:decide ((dict:Int)≤67108864)=q:=by rw[←hq];exact decide_eq_decide.2 (by omega)
     have Xt:Hid (R=q):=Lib.hid (by rw[HRw.out,←hq];exact decide_eq_decide.2 (by omega))
     go_enter Tryz.func24,Tryz.ntmps24
     go_upto_region 1 with fail
     rw[HW.out]
     go_wp2_with fail
     refine HM.out.mono ?_
     rintro e w1 ⟨C,L,rfl,_,hb1,_,_⟩
     obtain⟨_,_,_,d3,d4,d8⟩:=HC.out w1 hb1
     have HB1:=Lib.hid hb1
     clear hb1 c0 c1 c2
     go_wp2_with fail
     refine(HN.out w1).mono ?_
     rintro e w2 ⟨rfl,rfl⟩
     go_wp2_with fail
     refine(HK.out w1).mono ?_
     rintro e w2 ⟨rfl,rfl⟩
     go_wp2_with fail
     go_ret
     exact⟨by rw[Xt.out];simp,fV.out.trans (HB1.out.mono fV.out.size)⟩
def yZ(n:Nat):List UInt8:=[UInt8.ofNat (n/256),UInt8.ofNat n]
theorem qC(n:Nat)(hn:n≤281474976710656)(w:World):Calls Tryz.prog 77 #[.int .i64 ((n+1:Nat):Int)] w (Iu w (yZ n)):=by
 have h1:(((n+1:Nat):Int))-1=(n:Int):=by omega
 have h2:wrap64 (n:Int)=(n:Int):=je (by omega) (by omega)
 have hni:(n:Int)≤281474976710656:=by omega
 have HO:=Lib.hid (fun(v1 v2:Value) (e1:v1=B8 (UInt8.ofNat (n/256))) (e2:v2=B8 (UInt8.ofNat n))=>show Own w.heap.size (w.alloc (.cells #[v1,v2] 5)) (.slice (some ⟨w.heap.size,0,none⟩) 2 2) (yZ n) by
  subst e1 e2;exact Own.lit w (yZ n) (Nat.le_refl _) (by unfold yZ;simp))
 obtain⟨k,hk⟩: ∃k,((n+1:Nat):Int)=k:=⟨_,rfl⟩
 rw[hk]at h1 ⊢
 clear hk
 go_enter Tryz.func77,Tryz.ntmps77
 go_wp2_with fail
 go_ret
 refine⟨_,rfl,HO.out _ _ ?_ ?_,(Below.refl _ _).alloc (Nat.le_refl _) _⟩
 ·simp only[B8,IntKind.wrap_u16,UInt8.toNat_ofNat'];congr 1;omega
 ·simp only[B8,IntKind.wrap_u16,UInt8.toNat_ofNat'];congr 1;omega
theorem SC(lc lp pb:Nat)(nice chunk block check:Int)(chain:Value)(dict:Nat)(hlc:lc≤4)(hlp:lp≤4)(hpb:pb≤4)(w:World):
  Calls Tryz.prog 78 #[FK lc lp pb nice chunk block check chain dict] w fun e w'=>e= .returned (B8 (UInt8.ofNat (lc+9*(lp+5*pb))))∧Below w.heap.size w w':=by
 obtain⟨W,hW⟩: ∃W,w.alloc (.cells #[.int .i64 (lc:Nat),.int .i64 (lp:Nat),.int .i64 (pb:Nat),.int .i64 nice,.int .i64 chunk,.int .i64 block,.int .i64 check,chain,.int .u32 (dict:Nat)] 26)=W:=⟨_,rfl⟩
 obtain⟨hrow,hbW⟩:=gY (vs:=qB lc lp pb nice chunk block check chain dict) hW
 have c0:W.cell? ⟨w.heap.size,0,none⟩=some (.int .i64 (lc:Nat)):=by rw[cell_of_row W _ _ _ _ _ hrow];rfl
 have c1:W.cell? ⟨w.heap.size,1,none⟩=some (.int .i64 (lp:Nat)):=by rw[cell_of_row W _ _ _ _ _ hrow];rfl
 have c2:W.cell? ⟨w.heap.size,2,none⟩=some (.int .i64 (pb:Nat)):=by rw[cell_of_row W _ _ _ _ _ hrow];rfl
 have HW:=Lib.hid hW
 have fV:=Lib.hid hbW
 have hi1:(lc:Int)≤4:=by omega
 have hi2:(lp:Int)≤4:=by omega
 have hi3:(pb:Int)≤4:=by omega
 have HE:Hid (Value.int IntKind.u8 ((lc:Int)+9*((lp:Int)+5*(pb:Int)))=B8 (UInt8.ofNat (lc+9*(lp+5*pb)))):=Lib.hid (by
  simp only[B8,UInt8.toNat_ofNat'];congr 1;omega)
 clear hrow hW hbW
 go_enter Tryz.func78,Tryz.ntmps78
 go_upto_region 1 with fail
 rw[HW.out]
 go_wp2_with fail
 go_ret
 exact⟨congrArg Ending.returned HE.out,fV.out⟩
section
open Go.ChangeShapes Go.WideShapes Go.ChangeAt Go.RowKit Go.Joins
theorem SE{W:World}{b0:Nat}{t e:TypeId}{a:Addr}{len cap:Nat}(ht:Tryz.prog.underlying t=some (.slice e))(h:Value.okWide Tryz.prog W .any b0 t (.slice (some a) len cap)):a.block<W.heap.size:=by
 simp only[Value.okWide,ht,Cell.okWide,Cell.ok,World.has]at h
 obtain⟨_,_,_,_,row,cells,hs,_⟩:=h
 rcases Nat.lt_or_ge a.block W.heap.size with h | h
 ·exact h
 ·unfold World.shape? at hs
  rw[Array.getElem?_eq_none h]at hs
  cases hs
theorem zS{H:Type}{enc:TypeId×Value→H}{W:World}{b0:Nat}{v:Value}{d:DataW H}{p:List MemPlace}
  (hval:Value.okWide Tryz.prog W .any b0 22 v) (h:DataW.Trod enc Tryz.prog W 0 (fun _=>true) true 22 v d p):
  ∃(A:Option Addr) (l:List UInt8) (c:Nat),v= .slice A l.length c∧l.length≤c∧c≤9223372036854775807∧(Bytes W A l∧ ∀a,A=some a→a.block<W.heap.size):=by
 obtain⟨A,l,c,rfl,h1,h2,h3⟩:=open_bytes hval h
 refine⟨A,l,c,rfl,h1,h2,h3,fun a e=> ?_⟩
 subst e
 exact SE Tryz.underlying22 hval
theorem ahU{l:List Value}(h:l.length=9): ∃a b c d e f g i j,l=[a,b,c,d,e,f,g,i,j]:=by
 match l,h with
 | [a,b,c,d,e,f,g,i,j],_=>exact⟨a,b,c,d,e,f,g,i,j,rfl⟩
theorem iK{H:Type}{enc:TypeId×Value→H}{W:World}{n:Nat}{t:TypeId}{k:IntKind}{cs:List Value}{j:Nat}{y:Option (DataW H×List MemPlace)}(hk:Tryz.prog.underlying t=some (.int k))(hl:j<cs.length)
  (hy:y.isSome=true) (h:DataW.trod enc Tryz.prog W 0 (fun _=>true) true n t ((cs.drop j).take 1)=y): ∃z,cs[j]? =some (.int k z)∧(Lit.int k z).wf=true:=by
 obtain⟨x,rfl⟩:=Option.isSome_iff_exists.1 hy
 obtain⟨z,hz,_,hw⟩:=DataW.trod_int hk h
 refine⟨z,?_,hw⟩
 have e:(cs.drop j).take 1=[cs[j]]:=by rw[List.drop_eq_getElem_cons hl];rfl
 rw[e]at hz
 injection hz with hz
 rw[List.getElem?_eq_getElem hl,hz]
theorem Xu:Tryz.prog.cellsOf 26=9:=by kernel_rfl
end
theorem QO{w W1:World}{v0 v1 v2 v3 v4:Value}(h:w.alloc (.cells #[v0,v1,v2,v3,v4] 158)=W1):
  W1.cell? ⟨w.heap.size,0,none⟩=some v0∧W1.cell? ⟨w.heap.size,1,none⟩=some v1∧W1.cell? ⟨w.heap.size,2,none⟩=some v2∧W1.cell? ⟨w.heap.size,3,none⟩=some v3∧W1.cell? ⟨w.heap.size,4,none⟩=some v4∧Below w.heap.size w W1:=by
 have h0:W1.heap[w.heap.size]? =some (.cells [v0,v1,v2,v3,v4].toArray 158 (0,0)):=by rw[←h];exact heap_alloc_last w _
 refine⟨?_,?_,?_,?_,?_,by rw[←h];exact(Below.refl _ _).alloc (Nat.le_refl _) _⟩<;>(rw[cell_of_row W1 _ _ _ _ _ h0];rfl)
theorem Ky{C L lc lp pb st:Nat}{r:R4}{P:Nat→Nat}{w:World}(hM:bg w C L lc lp pb st r P)(A:Option Addr)(n c:Nat)(hn:n≤1000000000)(k:Int)(b:UInt8)(l d q:Int):
  Calls Tryz.prog 163 #[PF C,.slice A n c,yL k b l d q] w (J4 (.bool (kC r (n:Int) k l d q)) w):=by
 obtain⟨R,hR⟩: ∃R,kC r (n:Int) k l d q=R:=⟨_,rfl⟩
 rw[hR]
 have HR:=Lib.hid hR
 clear hR
 have hmn:min (n:Int) 4294967295=(n:Int):=by omega
 obtain⟨_,_,_,_,m0,m1,m2,m3⟩:=hM.cells
 have HM:=Lib.hid (And.intro m0 (And.intro m1 (And.intro m2 (And.intro m3 hM.EW))))
 have HNN:=Lib.hid hn
 clear hM m0 m1 m2 m3 hn
 have hl:(l<2∧ ¬l=1)∨l=1∨(2≤l∧l≤273)∨(2≤l∧ ¬l≤273):=by omega
 have hr0:QN r 0=r.1:=rfl
 have hr1:QN r 1=r.2.1:=rfl
 have hr2:QN r 2=r.2.2.1:=rfl
 have hr3:QN r 3=r.2.2.2:=rfl
 by_cases hk2:k=2
 ·subst hk2
  have hq:q<0∨4≤q∨(q=0∧r.1≤(n:Int))∨(q=0∧ ¬r.1≤(n:Int))∨(q=1∧r.2.1≤(n:Int))∨(q=1∧ ¬r.2.1≤(n:Int))∨(q=2∧r.2.2.1≤(n:Int))∨(q=2∧ ¬r.2.2.1≤(n:Int))∨(q=3∧r.2.2.2≤(n:Int))∨(q=3∧ ¬r.2.2.2≤(n:Int)):=by omega
  obtain⟨W1,hW1⟩: ∃W1,w.alloc (.cells #[.int .i64 2,.int .u8 (b.toNat:Nat),.int .i64 l,.int .i64 d,.int .i64 q] 158)=W1:=⟨_,rfl⟩
  obtain⟨y0,y1,y2,y3,y4,hbb⟩:=QO hW1
  have HY:=Lib.hid (And.intro y0 (And.intro y1 (And.intro y2 (And.intro y3 (And.intro y4 (And.intro ((hbb.cell (p:=⟨C,4,none⟩) HM.out.2.2.2.2).trans HM.out.1) (And.intro ((hbb.cell (p:=⟨C,5,none⟩) HM.out.2.2.2.2).trans HM.out.2.1) (And.intro ((hbb.cell (p:=⟨C,6,none⟩) HM.out.2.2.2.2).trans HM.out.2.2.1) ((hbb.cell (p:=⟨C,7,none⟩) HM.out.2.2.2.2).trans HM.out.2.2.2.1)))))))))
  have Xv:=Lib.hid hbb
  have HW1:=Lib.hid hW1
  clear hbb hW1 y0 y1 y2 y3 y4
  rcases hl with⟨g1,g2⟩ | rfl | ⟨g1,g2⟩ | ⟨g1,g2⟩<;>rcases hq with q0 | q4 | ⟨rfl,gn⟩ | ⟨rfl,gn⟩ | ⟨rfl,gn⟩ | ⟨rfl,gn⟩ | ⟨rfl,gn⟩ | ⟨rfl,gn⟩ | ⟨rfl,gn⟩ | ⟨rfl,gn⟩
  all_goals try(have g1n: ¬(2:Int)≤l:=by omega)
  all_goals try(have g3b:(l==1)=false:=by rw[beq_eq_false_iff_ne];omega)
  all_goals try(have hlf: ¬(2≤l∧l≤273):=by omega)
  all_goals try(have q0n: ¬(0:Int)≤q:=by omega)
  all_goals try(have q4n: ¬q<4:=by omega)
  all_goals try(have q4m:(0:Int)≤q:=by omega)
  all_goals
   go_enter Tryz.func163,Tryz.ntmps163
   go_upto_region 8 with fail
   rw[HW1.out]
   obtain⟨y0,y1,y2,y3,y4,m0,m1,m2,m3⟩:=HY.out
   go_quiet (fail)
   go_wp2_with fail
   go_ret
   exact⟨by rw[←HR.out];refine congrArg (fun x=>Ending.returned (.bool x)) ?_;symm;unfold kC;first | (simp;done) | (simp;omega) | (rw[if_pos rfl];exact decide_eq_decide.2 (by have:=HNN.out;omega)) | (rw[hr0];simp;omega) | (rw[hr1];simp;omega) | (rw[hr2];simp;omega) | (rw[hr3];simp;omega) | (rw[hr1];simp;done) | (rw[hr2];simp;done) | (rw[hr3];simp;done) | (rw[if_neg k1,if_neg hk2];simp[k0]),below_drewN Xv.out _⟩
 ·have hk:k=0∨(k=1∧1≤d)∨(k=1∧ ¬1≤d)∨(¬k=0∧ ¬k=1):=by omega
  rcases hl with⟨g1,g2⟩ | rfl | ⟨g1,g2⟩ | ⟨g1,g2⟩<;>rcases hk with rfl | ⟨rfl,hd⟩ | ⟨rfl,hd⟩ | ⟨k0,k1⟩
  all_goals try(have g1n: ¬(2:Int)≤l:=by omega)
  all_goals try(have g3b:(l==1)=false:=by rw[beq_eq_false_iff_ne];omega)
  all_goals try(have hlf: ¬(2≤l∧l≤273):=by omega)
  all_goals try(have k0b:(k==0)=false:=by rw[beq_eq_false_iff_ne];exact k0)
  all_goals try(have k1b:(k==1)=false:=by rw[beq_eq_false_iff_ne];exact k1)
  all_goals try(have k2b:(k==2)=false:=by rw[beq_eq_false_iff_ne];exact hk2)
  all_goals
   go_enter Tryz.func163,Tryz.ntmps163
   go_wp2_with fail
   go_ret
   exact⟨by rw[←HR.out];refine congrArg (fun x=>Ending.returned (.bool x)) ?_;symm;unfold kC;first | (simp;done) | (simp;omega) | (rw[if_pos rfl];exact decide_eq_decide.2 (by have:=HNN.out;omega)) | (rw[hr0];simp;omega) | (rw[hr1];simp;omega) | (rw[hr2];simp;omega) | (rw[hr3];simp;omega) | (rw[hr1];simp;done) | (rw[hr2];simp;done) | (rw[hr3];simp;done) | (rw[if_neg k1,if_neg hk2];simp[k0]),(Below.refl _ _).alloc (Nat.le_refl _) _⟩
theorem sD{r:R4}{n k l d q:Int}(h:kC r n k l d q=true):k=0∨(k=1∧2≤l∧l≤273∧1≤d∧d≤n∧d≤4294967295)∨(k=2∧0≤q∧q≤3∧QN r q≤n∧((2≤l∧l≤273)∨(l=1∧q=0))):=by
 unfold kC at h
 by_cases k1:k=1
 ·rw[if_pos k1]at h
  exact .inr (.inl ⟨k1,of_decide_eq_true h⟩)
 ·rw[if_neg k1]at h
  by_cases k2:k=2
  ·rw[if_pos k2]at h
   exact .inr (.inr ⟨k2,of_decide_eq_true h⟩)
  ·rw[if_neg k2]at h
   exact .inl (of_decide_eq_true h)
theorem aby{g C L lc lp pb st:Nat}{r:R4}{x:(aj g).S}{X:List Nat}{w:World}(hM:MS (aj g) w C L lc lp pb st r x X)(hlc:lc≤4)(hlp:lp≤4)(hpb:pb≤4)(hst:st<12)(hr:eP r){k:Nat}(A:Option Addr)(H:List UInt8)(c:Nat)(hB:Bytes w A H)(hc:H.length≤c)(hH:H.length≤1000000000)(hHX: ∀a,A=some a→a.block ∉ C::L::X)
  (kk:Int) (b:UInt8) (l d q:Int) (hf:kC r (H.length:Int) kk l d q=true) {s':Sy} {st':Nat} {r':R4} {Z:(aj g).S} (hR:Md.sym (aj g) lc lp pb st r H kk b l d q x=(s',st',r',Z)) (hok:(aj g).ok x.2 (k+54)):
  Calls Tryz.prog 124 #[PF C,PF g,.slice A H.length c,yL kk b l d q] w (Ig (s'.k≤2∧s'.r≤3∧s'.l≤273∧(s'.d:Int)≤4294967296∧st'<12∧eP r'∧(aj g).ok Z.2 k) (lN (.int .i64 0) (aj g) C L lc lp pb st' r' Z X w)):=by
 obtain⟨Q,hQ⟩: ∃Q,(s'.k≤2∧s'.r≤3∧s'.l≤273∧(s'.d:Int)≤4294967296∧st'<12∧eP r'∧(aj g).ok Z.2 k)=Q:=⟨_,rfl⟩
 rw[hQ]
 have HQ:=Lib.hid hQ
 clear hQ
 obtain⟨W1,hW1⟩: ∃W1,w.alloc (.cells #[.int .i64 kk,.int .u8 (b.toNat:Nat),.int .i64 l,.int .i64 d,.int .i64 q] 158)=W1:=⟨_,rfl⟩
 obtain⟨y0,y1,y2,y3,y4,hbb⟩:=QO hW1
 have hM1:=hM.below hbb
 have HP:=Lib.hid (Ky hM1.mod A H.length c hH kk b l d q)
 rw[hf]at HP
 have hcase:=sD hf
 have HC:=Lib.hid (fun(w2:World) (hb2:Below W1.heap.size W1 w2)=>WL (aj g) (hM1.below hb2) hlc hlp hpb hst hr A H c ((hB.below hbb).below hb2) hc hH hHX kk b l d q (by
   intro h
   have hk:kk≠0:=fun e=>by subst e;simp[Io.au,aj]at h
   rcases hcase with e | ⟨e,h1⟩ | ⟨e,h1⟩
   ·exact absurd e hk
   ·omega
   ·omega) (by
   intro h h2
   have hk:kk=1:=by
    by_cases e:kk=1
    ·exact e
    ·simp[Io.au,aj,e]at h2
   rcases hcase with e | ⟨e,h1⟩ | ⟨e,h1⟩
   ·omega
   ·omega
   ·omega) hR hok)
 have HB:=Lib.hid hbb
 have HW1:=Lib.hid hW1
 have uH:=Lib.hid (And.intro y0 (And.intro y1 (And.intro y2 (And.intro y3 y4))))
 have Fa:Hid (w.heap.size<W1.heap.size):=Lib.hid (by rw[←hW1];simp)
 clear hM hbb hW1 hf hM1 hB hcase hR hok hHX hr y0 y1 y2 y3 y4
 have hqq:=uH.out
 obtain⟨y0,y1,y2,y3,y4⟩:=hqq
 go_enter Tryz.func124,Tryz.ntmps124
 go_upto_region 1 with fail
 rw[HW1.out]
 go_wp2_with fail
 refine HP.out.mono ?_
 rintro e w2 ⟨rfl,hb2⟩
 have z0:=(hb2.cell (p:=⟨w.heap.size,0,none⟩) Fa.out).trans y0
 have z1:=(hb2.cell (p:=⟨w.heap.size,1,none⟩) Fa.out).trans y1
 have z2:=(hb2.cell (p:=⟨w.heap.size,2,none⟩) Fa.out).trans y2
 have z3:=(hb2.cell (p:=⟨w.heap.size,3,none⟩) Fa.out).trans y3
 have z4:=(hb2.cell (p:=⟨w.heap.size,4,none⟩) Fa.out).trans y4
 have HB2:=Lib.hid hb2
 clear hb2 y0 y1 y2 y3 y4
 go_wp2_with fail
 refine(HC.out w2 HB2.out).mono ?_
 rintro e w3 ⟨⟨rfl,X3,EY,eU,EZ⟩,hq3⟩
 have HM3:=Lib.hid EY
 have Xw:=Lib.hid (And.intro eU EZ)
 have HQ3:=Lib.hid hq3
 clear EY eU EZ hq3
 go_wp2_with fail
 go_ret
 have hw2:=HB.out.trans (HB2.out.mono HB.out.size)
 refine⟨⟨rfl,X3,HM3.out,(Only.of_below hw2).trans Xw.out.1 (fun i hi=> .inl hi),fun i hi=> ?_⟩,by rw[←HQ.out];exact HQ3.out⟩
 rcases Xw.out.2 i hi with h | h
 ·exact .inl h
 ·exact .inr (Nat.le_trans hw2.size h)
end Go.Proofs.YtgfpocdiojifoaaGreatDoor
