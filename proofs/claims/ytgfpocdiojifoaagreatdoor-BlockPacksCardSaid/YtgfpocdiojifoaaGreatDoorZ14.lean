import Derived.Test.YtgfpocdiojifoaaGreatDoorZ13
namespace Go.Proofs.YtgfpocdiojifoaaGreatDoor
set_option maxRecDepth 100000
set_option maxHeartbeats 8000000
open Go.RowKit Go.Proofs.Tryz
variable{d k l q:Int}{C L g lc lp pb st:Nat}{P:Nat→Nat}{r:R4}{b:UInt8}{w:World}
theorem D1(hM:bV w C L lc lp pb st r P):Calls prog 122 #[PF C] w (zB r.val w):=by obtain⟨_,_,_,_,c4,c5,c6,c7⟩:=hM.cells;have aF:=hM.CS;clear hM;go_enter func122,ntmps122;go_wp2_with fail;refine bodyPost_ret (v:=r.val) (by simp[results,results122,go_sem]) rfl ⟨rfl,?_⟩;exact ap
def mX(lc lp pb:Int):Bool:=decide ((0≤lc∧lc≤4)∧(0≤lp∧lp≤4)∧(0≤pb∧pb≤4)∧lc+lp≤4)
def j9(n:Int):Bool:=decide (0≤n∧n≤4)
theorem tp(n:Int)(w:World):Calls prog 132 #[.int .i64 n] w fun e w'=>e= .returned (.bool (j9 n))∧w=w':=by
 by_cases h0:0≤n;·have HS:Hid (j9 n=decide (n≤4)):=hdd (by unfold j9;exact decide_eq_decide.2 aa);rw[HS.out];go_enter func132,ntmps132;go_wp2_with fail;go_ret;exact⟨rfl,rfl⟩
 ·have HS:Hid (j9 n=false):=hdd (by unfold j9;exact decide_eq_false aa);rw[HS.out];go_enter func132,ntmps132;go_wp2_with fail;go_ret;exact⟨rfl,rfl⟩
theorem pR(lc lp pb:Int)(w:World):Calls prog 90 #[.int .i64 lc,.int .i64 lp,.int .i64 pb] w fun e w'=>e= .returned (.bool (mX lc lp pb))∧w=w':=by
 have nu:=hdd (tp lc w);have fE:=hdd (tp lp w);have CM:=hdd (tp pb w);have⟨R,hR⟩:=ex (mX lc lp pb);rw[hR];have HR:=hdd hR;clear hR;by_cases h1:0≤lc∧lc≤4;case neg=>have e1:j9 lc=false:=decide_eq_false h1;rw[e1]at nu;have Dl:Hid (R=false):=hdd (by rw[←HR.out];exact decide_eq_false aa);clear h1 e1;go_enter func90,ntmps90;go_wp2_with fail;refine nu.out.mono ?_;rintro e w1 ⟨rfl,rfl⟩;go_wp2_with fail;go_ret;exact⟨iL,rfl⟩
 case pos=>
  have e1:j9 lc=true:=decide_eq_true h1;rw[e1]at nu;by_cases h2:0≤lp∧lp≤4;case neg=>have e2:j9 lp=false:=decide_eq_false h2;rw[e2]at fE;have Dl:Hid (R=false):=hdd (by rw[←HR.out];exact decide_eq_false aa);clear h1 e1 h2 e2;go_enter func90,ntmps90;go_wp2_with fail;refine nu.out.mono ?_;rintro e w1 ⟨rfl,rfl⟩;go_wp2_with fail;refine fE.out.mono ?_;rintro e w1 ⟨rfl,rfl⟩;go_wp2_with fail;go_ret;exact⟨iL,rfl⟩
  case pos=>
   have e2:j9 lp=true:=decide_eq_true h2;rw[e2]at fE;by_cases h3:0≤pb∧pb≤4;case neg=>have e3:j9 pb=false:=decide_eq_false h3;rw[e3]at CM;have Dl:Hid (R=false):=hdd (by rw[←HR.out];exact decide_eq_false aa);clear h1 e1 h2 e2 h3 e3;go_enter func90,ntmps90;go_wp2_with fail;refine nu.out.mono ?_;rintro e w1 ⟨rfl,rfl⟩;go_wp2_with fail;refine fE.out.mono ?_;rintro e w1 ⟨rfl,rfl⟩;go_wp2_with fail;refine CM.out.mono ?_;rintro e w1 ⟨rfl,rfl⟩;go_wp2_with fail;go_ret;exact⟨iL,rfl⟩
   case pos=>have e3:j9 pb=true:=decide_eq_true h3;rw[e3]at CM;have Dl:Hid (R=decide (lc+lp≤4)):=hdd (by rw[←HR.out];exact decide_eq_decide.2 aa);obtain⟨h1a,h1b⟩:=h1;obtain⟨h2a,h2b⟩:=h2;clear e1 e2 h3 e3;go_enter func90,ntmps90;go_wp2_with fail;refine nu.out.mono ?_;rintro e w1 ⟨rfl,rfl⟩;go_wp2_with fail;refine fE.out.mono ?_;rintro e w1 ⟨rfl,rfl⟩;go_wp2_with fail;refine CM.out.mono ?_;rintro e w1 ⟨rfl,rfl⟩;go_wp2_with fail;go_ret;exact⟨iL,rfl⟩
def ka(v:Value):List Value:=List.replicate 432 (.int .u16 0)++(v::List.replicate 1620 (.int .u16 0))
theorem D2(a b c:Int):(((((((zeroCells146.setIfInBounds 0 (Value.int .i64 a)).setIfInBounds 1 (Value.int .i64 b)).setIfInBounds 2 (Value.int .i64 c)).setIfInBounds 4 (Value.int .i64 1)).setIfInBounds 5 (Value.int .i64 1)).setIfInBounds 6 (Value.int .i64 1)).setIfInBounds 7 (Value.int .i64 1))=
  ([Value.int .i64 a,.int .i64 b,.int .i64 c,.int .i64 0,.int .i64 1,.int .i64 1,.int .i64 1,.int .i64 1]++ka (.slice none 0 0)).toArray:=by
 kernel_rfl
theorem za{base n size:Nat}{t:TypeId}{xs:List Value}(h:w.ownsRow base t size (.slice (some ⟨g,0,none⟩) n n) n xs):w.heap[g]? =some (.cells xs.toArray t (0,0))∧base≤g:=by
 obtain⟨hl,⟨h,_⟩ | ⟨g',cap,cur,e,hb,hg,_,_,dJ,ht⟩⟩:=h;·cases h
 ·injection e with e1 _ e3;injection e1 with e1;injection e1 with e1;subst e1;subst e3;have:cur.toList=xs:=by rw[←ht,List.take_of_length_le av]
  exact⟨by rw[hg,←this],hb⟩
theorem UP:(prog.info? 291).map (fun i=>(i.zero,i.size,i.bytes))=some (some (.agg (Array.replicate 768 (.int .u16 0))),768,1536):=ak
theorem UQ(k:Nat):(madeCells (Value.agg (Array.replicate 768 (.int .u16 0))).cells k).toList=List.replicate k (Value.int .u16 0):=by have hz:(Value.agg (Array.replicate 768 (Value.int .u16 0))).cells=Array.replicate 768 (Value.int .u16 0):=rfl;rw[hz];unfold madeCells;refine List.ext_getElem ae fun i h1 h2=> ?_;have hi:i%768<768:=Nat.mod_lt _ an;simp[hi]
theorem GU(v:Value){j:Nat}(hj:j<2053)(dr:j≠432):(ka v)[j]? =some (.int .u16 0):=by
 unfold ka;by_cases h:j<432;·rw[List.getElem?_append_left (by rw[List.length_replicate];exact h),List.getElem?_replicate,if_pos h]
 ·obtain⟨k,rfl⟩: ∃k,j=432+1+k:=⟨j-433,aa⟩
  rw[List.getElem?_append_right (by rw[List.length_replicate];omega),List.length_replicate,show 432+1+k-432=k+1 by omega,List.getElem?_cons_succ,List.getElem?_replicate,if_pos aa]
theorem GV(v u:Value):(ka v).set 432 u=ka u:=by unfold ka;rw[List.set_append_right _ _ (by rw[List.length_replicate];exact Nat.le_refl _),List.length_replicate];rfl
theorem zc(v:Value):(ka v).length=2053:=by unfold ka;rw[List.length_append,List.length_cons,List.length_replicate,List.length_replicate]
def Zz(w:World)(e:Ending)(w':World):Prop:=e= .returned (.tuple #[.pointer none,.int .i64 1])∧w'=w
def UR(lc lp pb:Nat)(w:World)(e:Ending)(w':World):Prop:= ∃C L,e= .returned (.tuple #[PF C,.int .i64 0])∧bV w' C L lc lp pb 0 (1,1,1,1) (fun _=>1024)∧Below w.heap.size w w'∧w.heap.size≤C∧w.heap.size≤L
theorem PU(lc lp pb:Int)(w:World)(h:mX lc lp pb=false):Calls prog 52 #[.int .i64 lc,.int .i64 lp,.int .i64 pb] w (Zz w):=by have HP:=hdd (pR lc lp pb w);rw[h]at HP;go_enter func52,ntmps52;go_wp2_with fail;refine HP.out.mono ?_;rintro e w1 ⟨rfl,rfl⟩;go_wp2_with fail;go_ret2;exact⟨rfl,rfl⟩
theorem zQ(lc lp pb:Nat)(w:World)(h1:lc≤4)(h2:lp≤4)(h3:pb≤4)(h4:lc+lp≤4):Calls prog 52 #[.int .i64 (lc:Nat),.int .i64 (lp:Nat),.int .i64 (pb:Nat)] w (UR lc lp pb w):=by
 have HP:=hdd (pR (lc:Nat) (lp:Nat) (pb:Nat) w);rw[show mX (lc:Nat) (lp:Nat) (pb:Nat)=true from decide_eq_true aa]at HP;have GW:=D2 (lc:Nat) (lp:Nat) (pb:Nat);have⟨cs,hcs⟩:=ex (([Value.int .i64 (lc:Nat),.int .i64 (lp:Nat),.int .i64 (pb:Nat),.int .i64 0,.int .i64 1,.int .i64 1,.int .i64 1,.int .i64 1]++ka (.slice none 0 0)).toArray);rw[hcs]at GW;have J9:=hdd hcs;have HBU:=hdd GW;clear hcs GW;have⟨N,hN⟩:=ex (2^(lc+lp));have arG:N≤16:=by rw[←hN];exact Nat.pow_le_pow_right (by decide:0<2) h4
 have CR:wrap64 (2^(lc+lp))=(N:Int):=by rw[show(2:Int)^(lc+lp)=((2^(lc+lp):Nat):Int) by simp,hN];unfold wrap64;omega
 obtain⟨i,hi,hz⟩:=Option.map_eq_some_iff.1 UP;injection hz with nE hz;injection hz with gU qR;have Ld:i.bytes*N≤281474976710656:=mc;have qS:N≤maxLen:=gD;have HN:=hdd hN;have adi:(lc:Int)≤4:=aa;have adj:(lp:Int)≤4:=aa;clear hN h4;go_enter func52,ntmps52;go_wp2_with fail;refine HP.out.mono ?_;rintro e w1 ⟨rfl,rfl⟩;go_upto_region 4 with fail;rw[HBU.out];have⟨W1,dE⟩:=ex (w.alloc (.cells cs 146));have zG:W1.heap[w.heap.size]? =some (.cells cs 146 (0,0)):=by rw[←dE];exact heap_alloc_last w _
 have dJ:W1.heap.size=w.heap.size+1:=vJ;have vj:=hdd dE;have Xj:=hdd zG;have ju:=hdd dJ;have cu:Hid (Below w.heap.size w W1):=hdd vI;rw[vj.out];clear dE zG dJ;go_wp2_with (at_make;refine wpList_make_full W1 rfl (.tmp 24) (.tmp 24) 132 rfl W1.heap.size 291 i (.agg (Array.replicate 768 (.int .u16 0))) 768 underlying132 hi nE gU .i64 .i64 _ _ N rfl rfl CR CR Ld qS (Nat.le_refl _) ?_;intro w2 aD iV;rw[UQ]at aD;obtain⟨hh2,Dy⟩:=za aD;have aE:=(iV.block w.heap.size (by rw[ju.out];omega) ae).trans Xj.out;have ajf:w2.cell? ⟨w.heap.size,440,none⟩=some (.slice none 0 0):=(by rw[cell_of_row w2 _ _ _ _ _ aE,←J9.out];simp[ka]);have arH:w2.frozen? ⟨w.heap.size,440,none⟩=false:=frozen_of_row _ _ _ _ _ aE;have HH2:=hdd hh2;have dY:=hdd aE;have HG2:=hdd iV;clear aD hh2 Dy aE iV)
 go_ret2;have dJ:=ju.out;have dr:w.heap.size≠W1.heap.size:=aa;have aY:(w2.setCell ⟨w.heap.size,440,none⟩ (.slice (some ⟨W1.heap.size,0,none⟩) (N:Nat) (N:Nat))).heap[w.heap.size]? =some (.cells (cU lc lp pb 0 (1,1,1,1)++ka (.slice (some ⟨W1.heap.size,0,none⟩) N N)).toArray 146 (0,0)):=by have h:=dY.out;rw[←J9.out]at h;rw[heap_set h,List.set_append_right _ _ ae];rw[show 440-([Value.int .i64 (lc:Nat),.int .i64 (lp:Nat),.int .i64 (pb:Nat),.int .i64 0,.int .i64 1,.int .i64 1,.int .i64 1,.int .i64 1]:List Value).length=432 from rfl,GV];rfl
 have rE:(w2.setCell ⟨w.heap.size,440,none⟩ (.slice (some ⟨W1.heap.size,0,none⟩) (N:Nat) (N:Nat))).heap[W1.heap.size]? =some (.cells (List.replicate (N*768) (Value.int .u16 0)).toArray 291 (0,0)):=(ag _ _ _ _ (fun e=>dr e.symm)).trans HH2.out;refine⟨w.heap.size,W1.heap.size,rfl,⟨⟨_,aY,zc _⟩,⟨_,rE,by simp;rw[←HN.out];omega⟩,?_,dr,fun i hi=>⟨0,?_,rfl⟩,fun i=>an⟩,?_,Nat.le_refl _,aa⟩;·rw[HN.out];exact World.cell?_setCell_same _ _ _ ajf
 ·rw[HN.out]at hi;unfold Md.used at hi;by_cases h3:i<2180;·have ha:Md.nj w.heap.size W1.heap.size i=⟨w.heap.size,Md.fm i,none⟩:=(by unfold Md.nj Md.fP;rw[if_pos h3]);have hk:8≤Md.fm i∧Md.fm i-8<2053∧Md.fm i-8≠432:=(by unfold Md.fm;by_cases a1:i<432<;>by_cases a2:i<1844<;>simp only[a1,a2,h3,if_true,if_false]<;>omega);rw[ha,cell_of_row _ _ _ _ _ _ aY,List.getElem?_toArray,List.getElem?_append_right (by simpa using hk.1)];exact GU _ hk.2.1 hk.2.2
  ·have ha:Md.nj w.heap.size W1.heap.size i=⟨W1.heap.size,i-2180,none⟩:=(by unfold Md.nj Md.fP Md.fm;rw[if_neg h3,if_neg aa,if_neg aa,if_neg h3]);rw[ha,cell_of_row _ _ _ _ _ _ rE,List.getElem?_toArray,List.getElem?_replicate,if_pos aa];rfl
 ·exact(am cu.out HG2.out cu.out.size ae).setCell (Nat.le_refl _) _
theorem Ka{W1:World}{v0 v1 v2 v3 v4:Value}(h:w.alloc (.cells #[v0,v1,v2,v3,v4] 158)=W1):
  W1.cell? ⟨w.heap.size,0,none⟩=some v0∧W1.cell? ⟨w.heap.size,1,none⟩=some v1∧W1.cell? ⟨w.heap.size,2,none⟩=some v2∧W1.cell? ⟨w.heap.size,3,none⟩=some v3∧W1.cell? ⟨w.heap.size,4,none⟩=some v4∧Below w.heap.size w W1:=by
 have h0:W1.heap[w.heap.size]? =some (.cells [v0,v1,v2,v3,v4].toArray 158 (0,0)):=by rw[←h];exact heap_alloc_last w _
 refine⟨?_,?_,?_,?_,?_,by rw[←h];exact ap⟩<;>(rw[cell_of_row W1 _ _ _ _ _ h0];rfl)
theorem D5(hM:bV w C L lc lp pb st r P)(A:Option Addr)(n c:Nat)(hn:n≤1000000000)(k:Int)(b:UInt8)(l d q:Int):
  Calls prog 163 #[PF C,.slice A n c,j2 k b l d q] w (zB (.bool (iI r (n:Int) k l d q)) w):=by
 have⟨R,hR⟩:=ex (iI r (n:Int) k l d q);rw[hR];have HR:=hdd hR;clear hR;have hmn:min (n:Int) 4294967295=(n:Int):=aa;obtain⟨_,_,_,_,m0,m1,m2,m3⟩:=hM.cells;have HM:=hdd (And.intro m0 (And.intro m1 (And.intro m2 (And.intro m3 hM.CS))));have C8:=hdd hn;clear hM m0 m1 m2 m3 hn;have hl:(l<2∧ ¬l=1)∨l=1∨(2≤l∧l≤273)∨(2≤l∧ ¬l≤273):=aa;have wP:Li r 0=r.1:=rfl;have jZ:Li r 1=r.2.1:=rfl;have oP:Li r 2=r.2.2.1:=rfl;have yC:Li r 3=r.2.2.2:=rfl;by_cases my:k=2
 ·subst my;have hq:q<0∨4≤q∨(q=0∧r.1≤(n:Int))∨(q=0∧ ¬r.1≤(n:Int))∨(q=1∧r.2.1≤(n:Int))∨(q=1∧ ¬r.2.1≤(n:Int))∨(q=2∧r.2.2.1≤(n:Int))∨(q=2∧ ¬r.2.2.1≤(n:Int))∨(q=3∧r.2.2.2≤(n:Int))∨(q=3∧ ¬r.2.2.2≤(n:Int)):=aa;have⟨W1,dE⟩:=ex (w.alloc (.cells #[.int .i64 2,.int .u8 (b.toNat:Nat),.int .i64 l,.int .i64 d,.int .i64 q] 158));obtain⟨y0,y1,y2,y3,y4,fg⟩:=Ka dE;have HY:=hdd (And.intro y0 (And.intro y1 (And.intro y2 (And.intro y3 (And.intro y4 (And.intro ((fg.cell (p:=⟨C,4,none⟩) HM.out.2.2.2.2).trans HM.out.1) (And.intro ((fg.cell (p:=⟨C,5,none⟩) HM.out.2.2.2.2).trans HM.out.2.1) (And.intro ((fg.cell (p:=⟨C,6,none⟩) HM.out.2.2.2.2).trans HM.out.2.2.1) ((fg.cell (p:=⟨C,7,none⟩) HM.out.2.2.2.2).trans HM.out.2.2.2.1)))))))));have oX:=hdd fg;have vj:=hdd dE;clear fg dE y0 y1 y2 y3 y4;rcases hl with⟨g1,g2⟩ | rfl | ⟨g1,g2⟩ | ⟨g1,g2⟩<;>rcases hq with q0 | q4 | ⟨rfl,gn⟩ | ⟨rfl,gn⟩ | ⟨rfl,gn⟩ | ⟨rfl,gn⟩ | ⟨rfl,gn⟩ | ⟨rfl,gn⟩ | ⟨rfl,gn⟩ | ⟨rfl,gn⟩
  all_goals try(have g1n: ¬(2:Int)≤l:=by omega)
  all_goals try(have g3b:(l==1)=false:=by rw[beq_eq_false_iff_ne];omega)
  all_goals try(have hlf: ¬(2≤l∧l≤273):=by omega)
  all_goals try(have q0n: ¬(0:Int)≤q:=by omega)
  all_goals try(have q4n: ¬q<4:=by omega)
  all_goals try(have q4m:(0:Int)≤q:=by omega)
  all_goals
   go_enter func163,ntmps163;go_upto_region 8 with fail;rw[vj.out];obtain⟨y0,y1,y2,y3,y4,m0,m1,m2,m3⟩:=HY.out;go_quiet (fail);go_wp2_with fail;go_ret;exact⟨by rw[←HR.out];refine congrArg (fun x=>Ending.returned (.bool x)) ?_;symm;unfold iI;first | (simp;done) | (simp;omega) | (rw[if_pos rfl];exact decide_eq_decide.2 (ar C8.out)) | (rw[wP];simp;omega) | (rw[jZ];simp;omega) | (rw[oP];simp;omega) | (rw[yC];simp;omega) | (rw[jZ];simp;done) | (rw[oP];simp;done) | (rw[yC];simp;done) | (rw[if_neg k1,if_neg my];simp[k0]),below_drewN oX.out _⟩
 ·have hk:k=0∨(k=1∧1≤d)∨(k=1∧ ¬1≤d)∨(¬k=0∧ ¬k=1):=by omega
  rcases hl with⟨g1,g2⟩ | rfl | ⟨g1,g2⟩ | ⟨g1,g2⟩<;>rcases hk with rfl | ⟨rfl,hd⟩ | ⟨rfl,hd⟩ | ⟨k0,k1⟩
  all_goals try(have g1n: ¬(2:Int)≤l:=by omega)
  all_goals try(have g3b:(l==1)=false:=by rw[beq_eq_false_iff_ne];omega)
  all_goals try(have hlf: ¬(2≤l∧l≤273):=by omega)
  all_goals try(have k0b:(k==0)=false:=by rw[beq_eq_false_iff_ne];exact k0)
  all_goals try(have k1b:(k==1)=false:=by rw[beq_eq_false_iff_ne];exact k1)
  all_goals try(have k2b:(k==2)=false:=by rw[beq_eq_false_iff_ne];exact my)
  all_goals
   go_enter func163,ntmps163;go_wp2_with fail;go_ret;exact⟨by rw[←HR.out];refine congrArg (fun x=>Ending.returned (.bool x)) ?_;symm;unfold iI;first | (simp;done) | (simp;omega) | (rw[if_pos rfl];exact decide_eq_decide.2 (ar C8.out)) | (rw[wP];simp;omega) | (rw[jZ];simp;omega) | (rw[oP];simp;omega) | (rw[yC];simp;omega) | (rw[jZ];simp;done) | (rw[oP];simp;done) | (rw[yC];simp;done) | (rw[if_neg k1,if_neg my];simp[k0]),ap⟩
theorem kM{n:Int}(h:iI r n k l d q=true):k=0∨(k=1∧2≤l∧l≤273∧1≤d∧d≤n∧d≤4294967295)∨(k=2∧0≤q∧q≤3∧Li r q≤n∧((2≤l∧l≤273)∨(l=1∧q=0))):=by
 unfold iI at h;by_cases k1:k=1;·rw[if_pos k1]at h;exact .inr (.inl ⟨k1,of_decide_eq_true h⟩)
 ·rw[if_neg k1]at h;by_cases k2:k=2;·rw[if_pos k2]at h;exact .inr (.inr ⟨k2,of_decide_eq_true h⟩)
  ·rw[if_neg k2]at h;exact .inl (of_decide_eq_true h)
theorem UV{x:(ah g).S}{X:List Nat}(hM:MS (ah g) w C L lc lp pb st r x X)(ks:lc≤4)(wz:lp≤4)(yU:pb≤4)(bJ:st<12)(hr:dL r){k:Nat}(A:Option Addr)(H:List UInt8)(c:Nat)(hB:Bytes w A H)(hc:H.length≤c)(hH:H.length≤1000000000)(hHX: ∀a,A=some a→a.block ∉ C::L::X)
  (kk:Int) (b:UInt8) (l d q:Int) (hf:iI r (H.length:Int) kk l d q=true) {s':Sy} {st':Nat} {r':R4} {Z:(ah g).S} (hR:Md.sym (ah g) lc lp pb st r H kk b l d q x=(s',st',r',Z)) (aR:(ah g).ok x.2 (k+54)):
  Calls prog 124 #[PF C,PF g,.slice A H.length c,j2 kk b l d q] w (mm (s'.k≤2∧s'.r≤3∧s'.l≤273∧(s'.d:Int)≤4294967296∧st'<12∧dL r'∧(ah g).ok Z.2 k) (jy (.int .i64 0) (ah g) C L lc lp pb st' r' Z X w)):=by
 have⟨Q,hQ⟩:=ex ((s'.k≤2∧s'.r≤3∧s'.l≤273∧(s'.d:Int)≤4294967296∧st'<12∧dL r'∧(ah g).ok Z.2 k));rw[hQ];have HQ:=hdd hQ;clear hQ;have⟨W1,dE⟩:=ex (w.alloc (.cells #[.int .i64 kk,.int .u8 (b.toNat:Nat),.int .i64 l,.int .i64 d,.int .i64 q] 158));obtain⟨y0,y1,y2,y3,y4,fg⟩:=Ka dE;have fq:=hM.below fg;have HP:=hdd (D5 fq.mod A H.length c hH kk b l d q);rw[hf]at HP;have lI:=kM hf;have HC:=hdd (fun(w2:World) (aE:Below W1.heap.size W1 w2)=>Zd (ah g) (fq.below aE) ks wz yU bJ hr A H c ((hB.below fg).below aE) hc hH hHX kk b l d q (by
   intro h;have hk:kk≠0:=fun e=>(by subst e;simp[Io.au,ah]at h);rcases lI with e | ⟨e,h1⟩ | ⟨e,h1⟩
   ·exact absurd e hk
   ·omega
   ·omega) (by
   intro h h2;have hk:kk=1:=by
    by_cases e:kk=1;·exact e
    ·simp[Io.au,ah,e]at h2
   rcases lI with e | ⟨e,h1⟩ | ⟨e,h1⟩
   ·omega
   ·omega
   ·omega) hR aR)
 have HB:=hdd fg;have vj:=hdd dE;have eZ:=hdd (And.intro y0 (And.intro y1 (And.intro y2 (And.intro y3 y4))));have yI:Hid (w.heap.size<W1.heap.size):=hdd vJ;clear hM fg dE hf fq hB lI hR aR hHX hr y0 y1 y2 y3 y4;have hqq:=eZ.out;obtain⟨y0,y1,y2,y3,y4⟩:=hqq;go_enter func124,ntmps124;go_upto_region 1 with fail;rw[vj.out];go_wp2_with fail;refine HP.out.mono ?_;rintro e w2 ⟨rfl,aE⟩;have z0:=(aE.cell (p:=⟨w.heap.size,0,none⟩) yI.out).trans y0;have z1:=(aE.cell (p:=⟨w.heap.size,1,none⟩) yI.out).trans y1;have z2:=(aE.cell (p:=⟨w.heap.size,2,none⟩) yI.out).trans y2;have z3:=(aE.cell (p:=⟨w.heap.size,3,none⟩) yI.out).trans y3;have z4:=(aE.cell (p:=⟨w.heap.size,4,none⟩) yI.out).trans y4;have dY:=hdd aE;clear aE y0 y1 y2 y3 y4;go_wp2_with fail;refine(HC.out w2 dY.out).mono ?_;rintro e w3 ⟨⟨rfl,X3,lZ,cK,pJ⟩,UW⟩;have CZ:=hdd lZ;have GZ:=hdd (And.intro cK pJ);have UX:=hdd UW;clear lZ cK pJ UW;go_wp2_with fail;go_ret;have kr:=aO HB.out dY.out;refine⟨⟨rfl,X3,CZ.out,(az.br kr).trans GZ.out.1 (fun i hi=> .inl hi),fun i hi=> ?_⟩,by rw[←HQ.out];exact UX.out⟩;rcases GZ.out.2 i hi with h | h;·exact .inl h
 ·exact .inr (Nat.le_trans kr.size h)
section
abbrev PS:=(Nat→Nat)×Rc.St
section
variable{S:Rc.St}{L:List UInt8}{α β:Type}
variable(hA:XM S L)(hS:0<S.r)(hl:5+S.k≤L.length)(ge gd o cap:Nat)
include hA hS hl
end
namespace Md
end Md
section
variable{S:Rc.St}{L:List UInt8}(hA:XM S L)(hS:0<S.r)(hl:5+S.k≤L.length)(ge gd o cap:Nat)
include hA hS hl
end
end
theorem pc(st:Nat)(l:Int):((ed st:Nat):Int)=aA (st:Nat) 0 l:=by
 unfold ed aA;rw[if_pos (show(0:Int)=0 from rfl)];by_cases h1:st<4;·rw[if_pos h1,if_pos (show((st:Nat):Int)<4 by omega)];rfl
 ·rw[if_neg h1,if_neg (show ¬((st:Nat):Int)<4 by omega)];by_cases h2:st<10;·rw[if_pos h2,if_pos (show((st:Nat):Int)<10 by omega)];omega
  ·rw[if_neg h2,if_neg (show ¬((st:Nat):Int)<10 by omega)];omega
theorem kP(st:Nat)(l:Int):(((if st<7 then 7 else 10:Nat)):Int)=aA (st:Nat) 1 l:=by
 unfold aA;rw[if_neg (show ¬(1:Int)=0 by decide),if_pos (show(1:Int)=1 from rfl)];by_cases h1:st<7;·rw[if_pos h1,if_neg (show ¬(7:Int)≤((st:Nat):Int) by omega)];rfl
 ·rw[if_neg h1,if_pos (show(7:Int)≤((st:Nat):Int) by omega)];rfl
theorem mH(st l:Nat):(((if st<7 then(if l=1 then 9 else 8)else 11:Nat)):Int)=aA (st:Nat) 2 (l:Nat):=by
 unfold aA;rw[if_neg (show ¬(2:Int)=0 by decide),if_neg (show ¬(2:Int)=1 by decide)];by_cases h1:st<7
 ·rw[if_pos h1,if_neg (show ¬(7:Int)≤((st:Nat):Int) by omega)];by_cases h:l=1;·rw[if_pos h,if_pos (show((l:Nat):Int)=1 by omega)];rfl
  ·rw[if_neg h,if_neg (show ¬((l:Nat):Int)=1 by omega)];rfl
 ·rw[if_neg h1,if_pos (show(7:Int)≤((st:Nat):Int) by omega)];rfl
theorem pd(r:R4)(q:Nat)(hq:q≤3)(d:Int):fp r q (r4 r.1 r.2.1 r.2.2.1 r.2.2.2 q)=cT r 2 d (q:Nat):=by obtain⟨a,b,c,e⟩:=r;have h:q=0∨q=1∨q=2∨q=3:=aa;rcases h with rfl | rfl | rfl | rfl<;>rfl
def akY(g lc lp pb:Nat)(H:List UInt8)(x:(ah g).S)(r:R4)(st:Nat)(k:Int)(b:UInt8)(l d q:Int)(st':Nat)(r':R4)(z:(ah g).S):Prop:=
 ∀(C base h N:Nat) (Y:List Nat) (w:World) (m:Nat) (A:Option Addr) (c:Nat),RE w C base h N (lc:Nat) (lp:Nat) (pb:Nat) (st:Nat) r x Y→base≤w.heap.size→N=2180+768*2^(lc+lp)→N≤1000000→(ah g).ok x.2 (m+82)→Bytes w A H→(∀a,A=some a→a.block ∉ Y)→H.length≤c→
  Calls prog 95 #[PF C,PF h,.slice A H.length c,j2 k b l d q] w (mm ((ah g).ok z.2 m) (jF (.tuple #[]) C base h N (lc:Nat) (lp:Nat) (pb:Nat) (st':Nat) r' z Y w))
theorem Q3{x:(ah g).S}{H:List UInt8}(ks:lc≤4)(wz:lp≤4)(yU:pb≤4)(bJ:st<12)(hr:dL r)(hH:H.length≤1000000000)(hf:iI r (H.length:Int) k l d q=true):
  ∃s' st' r' z,Md.sym (ah g) lc lp pb st r H k b l d q x=(s',st',r',z)∧r'=cT r k d q∧((st':Nat):Int)=aA (st:Nat) k l∧s'.val=BG k b l d q∧akY g lc lp pb H x r st k b l d q st' r' z:=by
 rcases kM hf with rfl | ⟨rfl,h2,h3,h4,h5,h6⟩ | ⟨rfl,h0,h1,h4,h5⟩
 ·obtain⟨z,hz,vn⟩:=ul g lc lp pb st r H b l d q x;refine⟨_,_,_,_,hz,rfl,pc st l,rfl,?_⟩;intro C base h N Y w m A c hM aT hN pu aR hB hA hc;have hp:=LV hM ks wz yU bJ hr.1.1 hr.2.1 (k:=m) ((ah g).le aR aa) A H c hB hA hc hH hN pu b l d q vn.symm;rw[←pc]at hp;exact hp
 ·obtain⟨l,rfl⟩: ∃n:Nat,l=n:=⟨l.toNat,aa⟩
  obtain⟨d,rfl⟩: ∃n:Nat,d=n:=⟨d.toNat,aa⟩
  obtain⟨z,hz,vn⟩:=pW g lc lp pb st r H b l d q aa aa aa aa x;refine⟨_,_,_,_,hz,rfl,kP st l,rfl,?_⟩;intro C base h N Y w m A c hM aT hN pu aR hB hA hc;have hp:=EI hM yU bJ aT (k:=m) aR A H c hc hH aa pu b l d q aa aa aa aa vn.symm;rw[←kP]at hp;exact hp
 ·obtain⟨l,rfl⟩: ∃n:Nat,l=n:=⟨l.toNat,aa⟩
  obtain⟨q,rfl⟩: ∃n:Nat,q=n:=⟨q.toNat,aa⟩
  obtain⟨z,hz,vn⟩:=r5 g lc lp pb st r H b l q d aa aa aa aa x;refine⟨_,_,_,_,hz,pd r q aa d,mH st l,rfl,?_⟩;intro C base h N Y w m A c hM aT hN pu aR hB hA hc;have hp:=Hw hM yU bJ aT (k:=m) ((ah g).le aR aa) A H c hc hH aa pu b l q d aa aa aa aa vn.symm;rw[←mH,←pd r q aa d]at hp;exact hp

structure MSt where
 H:List UInt8
 st:Nat
 r:R4
 x:PS
structure akZ(g lc lp pb:Nat)(a:MSt)(s:Sy)(b:MSt):Prop where
 sym: ∃(k:Int) (c:UInt8) (l d q:Int),Md.sym (ah g) lc lp pb a.st a.r a.H k c l d q a.x=(s,b.st,b.r,b.x)
 k:s.k≤2
 q:s.r≤3
 short:s.l≤273
 pos:s.k≠0→1≤s.l
 atu: ∃bk:Nat,kL a.r (s.k:Nat) (s.d:Nat) (s.r:Nat)=(bk:Int)∧(((s.k:Nat):Int)≠0→1≤bk∧bk≤a.H.length)∧b.H=mY a.H (s.k:Nat) s.b s.l bk
 st:((b.st:Nat):Int)=aA (a.st:Nat) (s.k:Nat) (s.l:Nat)
 r:b.r=cT a.r (s.k:Nat) (s.d:Nat) (s.r:Nat)
 ok:b.x.2.ok
theorem Hx(H:List UInt8)(b:UInt8)(l l' back aex:Nat):mY H 0 b l back=mY H 0 b l' aex:=by unfold mY;rw[if_pos rfl,if_pos rfl]
theorem EK(hk:k≠0)(H:List UInt8)(b b':UInt8)(l back:Nat):mY H k b l back=mY H k b' l back:=by unfold mY;rw[if_neg hk,if_neg hk]
theorem LY{a:MSt}(hr:dL a.r)(hf:iI a.r (a.H.length:Int) k l d q=true):
  ∃s st' r' z,Md.sym (ah g) lc lp pb a.st a.r a.H k b l d q a.x=(s,st',r',z)∧r'=cT a.r k d q∧((st':Nat):Int)=aA (a.st:Nat) k l∧s.val=BG k b l d q∧ ∀bk:Nat,kL a.r k d q=(bk:Int)→z.2.ok→akZ g lc lp pb a s ⟨mY a.H k b l.toNat bk,st',r',z⟩:=by
 have jZ: ∀q:Nat,q≤3→1≤Li a.r (q:Nat):=by
  intro q hq;obtain⟨⟨a1,a2,a3,a4⟩,_⟩:=hr;unfold Li;rcases(by omega:q=0∨q=1∨q=2∨q=3)with rfl | rfl | rfl | rfl;·exact a1
  ·exact a2
  ·exact a3
  ·exact a4
 rcases kM hf with rfl | ⟨rfl,h2,h3,h4,h5,h6⟩ | ⟨rfl,h0,h1,h4,h5⟩
 ·obtain⟨z,hz,_⟩:=ul g lc lp pb a.st a.r a.H b l d q a.x;refine⟨_,_,_,_,hz,rfl,pc a.st l,rfl,fun bk ni aR=> ?_⟩;exact⟨⟨0,b,l,d,q,hz⟩,show 0≤2 by decide,show 0≤3 by decide,show 0≤273 by decide,fun h=>absurd rfl h,⟨0,rfl,fun h=>absurd rfl h,Hx a.H b l.toNat 0 bk 0⟩,pc a.st _,rfl,aR⟩
 ·obtain⟨l,rfl⟩: ∃n:Nat,l=n:=⟨l.toNat,aa⟩
  obtain⟨d,rfl⟩: ∃n:Nat,d=n:=⟨d.toNat,aa⟩
  obtain⟨z,hz,_⟩:=pW g lc lp pb a.st a.r a.H b l d q aa aa aa aa a.x;refine⟨_,_,_,_,hz,rfl,kP a.st l,rfl,fun bk ni aR=> ?_⟩;have hd:kL a.r 1 (d:Nat) q=(d:Int):=by unfold kL;rw[if_pos rfl]
  rw[hd]at ni;refine⟨⟨1,b,l,d,q,hz⟩,show 1≤2 by decide,show 0≤3 by decide,by show l≤273;omega,fun _=>by show 1≤l;omega,⟨bk,?_,fun _=>by show 1≤bk∧bk≤a.H.length;omega,EK (show(1:Int)≠0 by decide) a.H b 0 l bk⟩,kP a.st _,rfl,aR⟩;show kL a.r 1 (d:Nat) 0=(bk:Int);unfold kL;rw[if_pos rfl];exact ni
 ·obtain⟨l,rfl⟩: ∃n:Nat,l=n:=⟨l.toNat,aa⟩
  obtain⟨q,rfl⟩: ∃n:Nat,q=n:=⟨q.toNat,aa⟩
  obtain⟨z,hz,_⟩:=r5 g lc lp pb a.st a.r a.H b l q d aa aa aa aa a.x;refine⟨_,_,_,_,hz,pd a.r q aa d,mH a.st l,rfl,fun bk ni aR=> ?_⟩;have hd:kL a.r 2 d (q:Nat)=Li a.r (q:Nat):=by unfold kL;rw[if_neg an,if_pos rfl]
  rw[hd]at ni;have h1':=jZ q aa;refine⟨⟨2,b,l,d,q,hz⟩,show 2≤2 by decide,by show q≤3;omega,by show l≤273;omega,fun _=>by show 1≤l;omega,⟨bk,?_,fun _=>by show 1≤bk∧bk≤a.H.length;omega,EK (show(2:Int)≠0 by decide) a.H b 0 l bk⟩,mH a.st l,pd a.r q aa _,aR⟩;show kL a.r 2 0 (q:Nat)=(bk:Int);unfold kL;rw[if_neg an,if_pos rfl];exact ni
end Go.Proofs.YtgfpocdiojifoaaGreatDoor
