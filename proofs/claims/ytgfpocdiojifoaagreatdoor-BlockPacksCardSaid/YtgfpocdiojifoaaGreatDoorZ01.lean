import Derived.Test.YtgfpocdiojifoaaGreatDoorRows
import Derived.WalkKit
import Derived.WalkSpells
import Derived.WalkLawsBesides
import Derived.Lib.Hide
import Derived.Deep.QuietTactic
import Derived.BigQuiet
import Derived.Deep.OwnRows
import Derived.Deep.WholeRow
import Derived.Deep.MidRow
import Derived.Deep.AppendLies
import Derived.Maps.AppendAt
import Derived.Laws.CopyOwn
import Derived.Lib.SlBytesConst
import Derived.Laws.BytesArg
import Derived.Deep.RegionHeld
import Derived.KernelRfl
import Derived.Walk
import Derived.ProofKit
import Derived.Deep.RegionLaw
import Derived.Deep.RegionHeld3
import Derived.Shelf.Small.Bits
import Derived.Shelf.Bytes.SlSearch0
import Derived.Ground.SlbNamesProg
import Derived.Shelf.Bytes.SlJoin
import Derived.Shelf.Bytes.SlEqualAll
import Derived.Shelf.Bytes.Small
namespace Go.Proofs.YtgfpocdiojifoaaGreatDoor
set_option maxRecDepth 100000
set_option maxHeartbeats 8000000
open Go.RowKit Go.Proofs.Tryz
variable{a a':Act}{l' listed:Array Bool}{ops:Array Oper}{Q:Exit→Act→World→Prop}{rest:List Oper}{l:List UInt8}{L:List Value}{B b base bytes fuel g:Nat}{o oi:Oper}{A:Option Addr}{P:Program}{p q:Prop}{md:Region.Mode}{t ts:TypeId}{v z:Value}{w w':World}{S:World→Prop}
theorem ex{α:Type}(a:α): ∃b,a=b:=⟨a,rfl⟩
theorem hdd(h:p):Hid p:=Lib.hid h
theorem aO{Dk:World}(h:Below w.heap.size w w')(k:Below w'.heap.size w' Dk):Below w.heap.size w Dk:=h.trans (k.mono h.size)
theorem cr{o:Obj}(h:w.heap[b]? =some o):b<w.heap.size:=(Array.getElem?_eq_some_iff.1 h).1
theorem ap{o:Obj}:Below w.heap.size w (w.alloc o):=(Below.refl _ _).alloc (Nat.le_refl _) _
theorem aqV{j:Nat}{cs:Array Value}{f:Nat×Nat}{v:Option Value}(h:w.heap[g]? =some (.cells cs t f))(e:cs[j]? =v:=by rfl):w.cell? ⟨g,j,none⟩=v:=(cell_of_row w g j cs t f h).trans e
theorem dR(h:q)(e:p=q:=by (try simp only[Act.put,List.setIfInBounds_toArray,List.set_cons_zero,List.set_cons_succ]);rfl):p:=Eq.mpr e h
theorem ar(x:q)(h:q→p:=by intro _;omega):p:=h x
theorem ae(h:p:=by simp):p:=h
theorem aa(h:p:=by omega):p:=h
theorem JC(h:p:=by unfold maxLen at uz;exact uz):p:=h
theorem ak(h:p:=by kernel_rfl):p:=h
theorem pD(h:p:=by unfold Addr.add;split<;>simp_all):p:=h
theorem an(h:p:=by decide):p:=h
theorem gD(h:p:=by unfold maxLen;omega):p:=h
theorem tP(h:p:=by simpa using hk):p:=h
theorem av(h:p:=by simp;omega):p:=h
theorem AQ(h:p:=by unfold maxLen at h6;exact h6):p:=h
theorem sU(h:p:=by simp[Region.wanted,qQ]):p:=h
theorem jp(h:p:=by simpa using hi):p:=h
theorem l7(h:p:=by simpa using h):p:=h
theorem aq(h:p:=by go_num):p:=h
theorem vE(h:p:=by rw[cell_of_row _ _ _ _ _ _ h];rfl):p:=h
theorem F8(h:p:=by rw[cell_of_row _ _ _ _ _ _ hT.ax];rfl):p:=h
theorem dS(h:p:=by simp[h]):p:=h
theorem aib(h:p:=by rcases ho with h | h;exact .inl h;exact .inr (by simpa using h)):p:=h
theorem AS(h:p:=by show 16777216≤rh*256^1;have:8388608≤rh:=hhr;omega):p:=h
theorem aic(h:p:=by intro i hi;simp at hi;rcases hi with rfl | rfl;exact .inl (by simp);rcases AT with h | h;exact .inl (by simp[h]);exact .inr h):p:=h
theorem AU(h:p:=by simp at e;rw[←e];exact hi):p:=h
theorem AV(h:p:=by simp;exact fun e=>HM.out.ne e.symm):p:=h
theorem F9(h:p:=by intro v hv;simp at hv;rcases hv with rfl | rfl | rfl<;>rfl):p:=h
theorem l8(h:p:=by rw[←Nat.pow_succ];congr 1;omega):p:=h
theorem ia(h:p:=by simp[intOf]<;>omega):p:=h
theorem aid(h:p:=by rw[←Nat.pow_succ];exact Nat.pow_le_pow_right (by omega) (by omega)):p:=h
theorem l9(h:p:=by rw[IntKind.wrap_u32];omega):p:=h
theorem aie(h:p:=by rw[←dE];exact(ap).alloc (by simp) _):p:=h
theorem aif(h:p:=by have:=ib.out C (by simp);have:=jS.out;omega):p:=h
theorem AW(h:p:=by have:=ib.out _ h;have:=jS.out;omega):p:=h
theorem nx(h:p:=by have:=(cr qX.out);exact this):p:=h
theorem vF(h:p:=by rw[cell_of_row x6 _ _ _ _ _ lY];rfl):p:=h
theorem vG(h:p:=by rw[cell_of_row x5 _ _ _ _ _ lY];rfl):p:=h
theorem kY(h:p:=by rw[cell_of_row x7 _ _ _ _ _ lY];rfl):p:=h
theorem aig(h:p:=by rw[←HQ.out];have:=NR.out;exact⟨by omega,by omega,by omega,by omega,TR.out⟩):p:=h
theorem vH(h:p:=by rw[cell_of_row wr _ _ _ _ _ lY];rfl):p:=h
theorem ny(h:p:=by have:=cu.out;have:=TS.out;omega):p:=h
theorem nz(h:p:=by have:=dY.out;have:=TS.out;omega):p:=h
theorem gr(h:p:=by rw[cell_of_row x9 _ _ _ _ _ lY];rfl):p:=h
theorem Ga(h:p:=by simp[results,Tryz.results164,go_sem,z0,z1,z2,z3,z4]):p:=h
theorem aih(h:p:=by have q:=IntWalk.i64_in (4*(k:Int)) (by omega);go_simp;all_goals(with_reducible rfl)):p:=h
theorem aii(h:p:=by have q0:(0:Int)≤(k:Int):=(by omega);have q1:(k:Int)<64:=(by omega);go_simp;all_goals(with_reducible rfl)):p:=h
theorem aij(h:p:=by have q:=IntWalk.i64_in ((k:Int)-16) (by omega);go_simp;all_goals(with_reducible rfl)):p:=h
theorem aik(h:p:=by have q:=IntWalk.i64_in ((k:Int)-7) (by omega);go_simp;all_goals(with_reducible rfl)):p:=h
theorem p9(h:p:=by rw[Gb];rfl):p:=h
theorem qa(h:p:=by rw[List.length_take];omega):p:=h
theorem Gc(h:p:=by rw[←FQ,List.length_take];omega):p:=h
theorem AX(h:p:=by rw[List.length_map,fX]):p:=h
theorem ail(h:p:=by rw[←ht,List.take_of_length_le (by simp;omega)]):p:=h
theorem AY(h:p:=by rw[BitVec.toNat_ofNat];omega):p:=h
theorem mc(h:p:=by rw[qR];omega):p:=h
theorem Gd(h:p:=by rw[←dE];exact heap_alloc_last _ _):p:=h
theorem vI(h:p:=by rw[←dE];exact ap):p:=h
theorem gt(h:p:=by simp[intOf];omega):p:=h
theorem sV(h:p:=by intro u hu;simp at hu;subst hu;rfl):p:=h
theorem aim(h:p:=by rw[←HR.out];exact decide_eq_false (by omega)):p:=h
theorem iL(h:p:=by rw[Dl.out];rfl):p:=h
theorem vJ(h:p:=by rw[←dE];simp):p:=h
theorem mf(h:p:=by rw[cell_of_row W _ _ _ _ _ aY];rfl):p:=h
theorem mg(h:p:=by simp[results,Tryz.results134]):p:=h
theorem vK(h:p:=by rw[←jT];exact ap):p:=h
theorem ain(h:p:=by rw[←HS.out];unfold aA;rw[if_neg (by decide),if_neg (by decide),if_pos s7]):p:=h
theorem AZ(h:p:=by injection e with e;subst e;exact HGN.out):p:=h
theorem Ge(h:p:=by rw[←dE];exact hIa _ _ _ (hIa _ _ _ h0)):p:=h
theorem Gf(h:p:=by have:=run_endLoop (P:=P) hl (by rw[eT];simp);rw[eT]at this;exact this):p:=h
theorem sW(h:p:=by rw[HN.out];rfl):p:=h
theorem Ba(h:p:=by rw[beq_eq_false_iff_ne];omega):p:=h
theorem vL(h:p:=by simp[Value.ownBlock]):p:=h
theorem jX(h:p:=by cases e):p:=h
theorem sX(h:p:=by injection e with e;omega):p:=h
theorem vM(h:p:=by rw[←jT];exact heap_alloc_last _ _):p:=h
theorem Bb(h:p:=by rw[cell_of_row W3 _ _ _ _ _ TU];rfl):p:=h
theorem Bc(h:p:=by rw[cell_of_row W4 _ _ _ _ _ abV];rfl):p:=h
theorem jY(h:p:=by rw[cell_of_row W2 _ _ _ _ _ iD];rfl):p:=h
theorem Gg(h:p:=by subst e;exact heap_alloc_last W o):p:=h
theorem vN(h:p:=by rw[cell_of_row w4 _ _ _ _ _ aY];rfl):p:=h
theorem gu(h:p:=by rw[cell_of_row w4 _ _ _ _ _ ng.out];rfl):p:=h
theorem d7(h:p:=by rw[cell_of_row w4 _ _ _ _ _ HZ.out];rfl):p:=h
theorem vO(h:p:=by simp[results,Tryz.results162,go_sem,z0,z1,z2,z3]):p:=h
theorem Bd(h:p:=by rw[HS.out,HU.out,if_pos aF]):p:=h
theorem jq(h:p:=by rw[fE.out]):p:=h
theorem nA(h:p:=by simp[intOf]):p:=h
theorem Be(h:p:=by rw[HS.out,HU.out,if_neg aF]):p:=h
theorem nB(h:p:=by rw[CM.out];simp[results,Tryz.results158,go_sem,Sy.val,z0,z1,z2,z3,z4]):p:=h
theorem Gh(h:p:=by rw[fE.out,if_neg fY,if_pos fS]):p:=h
theorem vQ(h:p:=by rw[cell_of_row w4 _ _ _ _ _ nC];rfl):p:=h
theorem Gi(h:p:=by rw[cell_of_row w5 _ _ _ _ _ qY];rfl):p:=h
theorem qb(h:p:=by rw[cell_of_row w _ _ _ _ _ h];rfl):p:=h
theorem Ot(h:p:=by rw[CN.out.2];have:=HL.out;rw[List.length_append,kZ.out];simp;omega):p:=h
theorem Bf(h:p:=by rw[Rc.fH];omega):p:=h
theorem k9(h:p:=by rw[UInt8.toNat_ofNat'];omega):p:=h
theorem Gj(h:p:=by have:=Nat.one_le_two_pow (n:=n);omega):p:=h
theorem Gk(h:p:=by rw[Nat.div_div_eq_div_mul,←Nat.pow_succ]):p:=h
theorem aip(h:p:=by rw[←HQ.out];exact(ah g).le JD (by omega)):p:=h
theorem Bg(h:p:=by rw[TV];exact abW.out):p:=h
theorem vS(h:p:=by have:=HN.out;have:=iE.out;have:=uA.out;omega):p:=h
theorem sY(h:p:=by have:=HN.out;have:=iE.out;omega):p:=h
theorem Gl(h:p:=by first | exact(To.out.weaken g14.size).below (ap) | exact((((To.out.set nD.out.2 _).set nD.out.2 _).set nD.out.2 _).set nD.out.2 _).weaken gA.size | exact((((To.out.set (Nat.lt_of_lt_of_le nD.out.2 Gm.out.size) _).set (Nat.lt_of_lt_of_le nD.out.2 Gm.out.size) _).set (Nat.lt_of_lt_of_le nD.out.2 Gm.out.size) _).set (Nat.lt_of_lt_of_le nD.out.2 Gm.out.size) _).weaken g14.size):p:=h
theorem Gn(h:p:=by first | exact eU.out.alloc eU.out.size _ | exact((((eU.out.setCell nD.out.1 _).setCell nD.out.1 _).setCell nD.out.1 _).setCell nD.out.1 _)):p:=h
theorem kC(h:p:=by rw[cell_of_row sZ _ _ _ _ _ kp];rfl):p:=h
theorem uU(h:p:=by rw[zv]at Dm;injection Dm):p:=h
theorem qZ(h:p:=by rw[cell_of_row W _ _ _ _ _ hr];rfl):p:=h
theorem uV(h:p:=by rw[KR.out];show 1+2≤140737488355328;decide):p:=h
theorem JE(h:p:=by rw[List.length_append,KR.out,kZ.out];show 1+2+2≤140737488355328;decide):p:=h
theorem JF(h:p:=by rw[List.length_append,List.length_append,KR.out,kZ.out];show 1+2+2+1≤140737488355328;decide):p:=h
theorem JG(h:p:=by simp only[List.mem_cons,List.not_mem_nil,or_false]at hi;simp[hi]):p:=h
theorem agP(h:p:=by have:=Nat.pow_le_pow_right (n:=2) (by omega) (show 32≤j by omega);omega):p:=h
theorem ra(h:p:=by rw[HP.out];omega):p:=h
theorem uW(h:p:=by have c0:=uB _ hSw;have c1:=fY _ hSw;have c2:=fS _ hSw;have c3:=lu _ hSw;go_simp;all_goals(with_reducible rfl)):p:=h
theorem iU(h:p:=by rw[HX.out]):p:=h
theorem uX(h:p:=by rw[IntKind.wrap_u8'];omega):p:=h
theorem jJ(h:p:=by decide+kernel):p:=h
theorem oB(h:p:=by first | (rw[dY.out];done) | rw[dY.out,jb.out]):p:=h
theorem uY(h:p:=by rw[CO.out];exact aF):p:=h
theorem Bh(h:p:=by have:=x.isLt;rw[IntKind.wrap_u32];omega):p:=h
theorem agQ(h:p:=by have q0:(0:Int)≤(k:Int):=(by omega);have q1:(k:Int)<8:=(by omega);go_simp;all_goals(with_reducible rfl)):p:=h
theorem Bi(h:p:=by have z0:=KS.out;have z1:=YB.out;go_simp;all_goals(with_reducible rfl)):p:=h
theorem agR(h:p:=by rw[uZ _ _ (by omega)];omega):p:=h
theorem agS(h:p:=by have q1:(1:Int)≤(l.length:Int)+1:=(by omega);go_simp;all_goals(with_reducible rfl)):p:=h
theorem oC(h:p:=by have j0:=(hSw.cell (p:=⟨b0,off,none⟩) fF).trans h0;have j1:=(hSw.cell (p:=⟨b0,off+1,none⟩) fF).trans h1;go_simp;all_goals(with_reducible rfl)):p:=h
theorem agT(h:p:=by have q2:IntKind.i64.wrap (n:Int)=(n:Int):=IntWalk.i64_in _ (by omega);go_simp;all_goals(with_reducible rfl)):p:=h
theorem ic(h:p:=by simp[ie]):p:=h
theorem jK(h:p:=by simp[h3]):p:=h
theorem u6(h:p:=by rw[jr (n/16777216)];omega):p:=h
theorem jL(h:p:=by simp[results,Tryz.results184,go_sem]):p:=h
theorem agU(h:p:=by have q2:IntKind.u64.wrap (n:Int)=(n:Int):=IntWalk.u64_in _ (by omega);go_simp;all_goals(with_reducible rfl)):p:=h
theorem oG(h:p:=by rw[HE.out];rfl):p:=h
theorem u7(h:p:=by rw[IntKind.wrap_u8];omega):p:=h
theorem rf(h:p:=by simp only[List.length_append];omega):p:=h
theorem rj(h:p:=by unfold bg;omega):p:=h
theorem Bj(h:p:=by rw[←hO,List.replicate_succ',List.append_assoc]):p:=h
theorem agV(h:p:=by rw[←hR];exact decide_eq_false (by omega)):p:=h
theorem Bk(h:p:=by rw[hg,UInt8.toNat_ofNat'];omega):p:=h
theorem oH(h:p:=by show bo≤w.heap.size;omega):p:=h
theorem oI(h:p:=by simp[results,Tryz.results150,go_sem,k0,k1]):p:=h
theorem oJ(h:p:=by show bo+1≤w.heap.size;omega):p:=h
theorem JH(h:p:=by obtain⟨i1,i2,i3⟩:=HC.out;go_simp;all_goals(with_reducible rfl)):p:=h
theorem va(h:p:=by simp[results,Tryz.results111,go_sem,k0,k1,k2,k3]):p:=h
theorem JI(h:p:=by obtain⟨i1,i2,i3,i4,i5,i6,i7⟩:=HC.out;go_simp;all_goals(with_reducible rfl)):p:=h
theorem oK(h:p:=by simp[results,Tryz.results65,go_sem,k0,k1,k2,k3]):p:=h
theorem vb(h:p:=by show w.heap.size≤w3.heap.size;omega):p:=h
theorem oM(h:p:=by rw[cell_of_row W _ _ _ _ _ h];rfl):p:=h
theorem JJ(h:p:=by have h1:=Tp.out.2.2.1;have h2:=yI.out;have h3:=zw.out.size;omega):p:=h
theorem Bl(h:p:=by simp[results,Tryz.results11,go_sem,e0,e1]):p:=h
theorem vc(h:p:=by rw[List.length_replicate]):p:=h
theorem rk(h:p:=by rw[cell_of_row W _ _ _ _ _ ng.out];rfl):p:=h
theorem kD(h:p:=by simp[results,Tryz.results133,go_sem,k0,k1,k2,k3,k4]):p:=h
theorem kE(h:p:=by rw[WU.out];rfl):p:=h
theorem agW(h:p:=by rw[fE.out];have b2:=dY.out;rw[if_neg (by omega),if_neg (by omega)];exact if_pos (by omega)):p:=h
theorem agX(h:p:=by rw[fE.out];have b2:=dY.out;rw[if_neg (by omega),if_neg (by omega)];exact if_neg (by omega)):p:=h
theorem rl(h:p:=by rw[cell_of_row w3 _ _ _ _ _ iF];rfl):p:=h
theorem vd(h:p:=by congr 1;have:=HE.out;omega):p:=h
theorem JK(h:p:=by rw[List.length_append,List.length_singleton];have:=yJ.out;have:=HE.out;omega):p:=h
theorem JL(h:p:=by rw[List.length_append,KR.out,CN.out.2.1];have:=iG.out.2.2.2;have:=pp.out;show 1+2+_≤140737488355328;omega):p:=h
abbrev B8(b:UInt8):Value:= .int .u8 (b.toNat:Nat)
def Bytes(w:World)(A:Option Addr)(l:List UInt8):Prop:=
 l=[]∨ ∃b off,A=some ⟨b,off,none⟩∧b<w.heap.size∧ ∀k (h:k<l.length),w.cell? ⟨b,off+k,none⟩=some (.int .u8 (l[k].toNat:Nat))
theorem Bytes.aI(h:Bytes w A l)(hs:w.heap.size≤w'.heap.size)(hc: ∀p:Addr,A.map (·.block)=some p.block→p.block<w.heap.size→w'.cell? p=w.cell? p):Bytes w' A l:=by
 rcases h with h | ⟨b,off,rfl,aF,hcell⟩
 ·exact .inl h
 ·exact .inr ⟨b,off,rfl,Nat.lt_of_lt_of_le aF hs,fun k hk=>(hc ⟨b,off+k,none⟩ rfl aF).trans (hcell k hk)⟩
theorem Bytes.below(h:Bytes w A l)(hb:Below w.heap.size w w'):Bytes w' A l:=
 h.aI hb.size fun _ _ hp=>hb.cell hp
theorem Bytes.drewN(h:Bytes w A l)(n:Nat):Bytes (w.drewN n) A l:=h
theorem Bytes.drew(h:Bytes w A l):Bytes w.drew A l:=h
theorem Bytes.nil:Bytes w A []:= .inl rfl
theorem Bytes.addr(h:Bytes w A l)(hl:0<l.length): ∃b off,A=some ⟨b,off,none⟩∧b<w.heap.size∧ ∀k (h:k<l.length),w.cell? ⟨b,off+k,none⟩=some (.int .u8 (l[k].toNat:Nat)):=by
 rcases h with rfl | h;·simp at hl
 ·exact h
theorem Bytes.drop{off:Nat}(j:Nat)(h:Bytes w (some ⟨b,off,none⟩) l):Bytes w (some ⟨b,off+j,none⟩) (l.drop j):=by
 rcases h with rfl | ⟨b',abX,e,aF,hc⟩
 ·exact .inl ae
 ·injection e with e;injection e with e1 e2;subst e1;subst e2;refine .inr ⟨_,_,rfl,aF,fun k hk=> ?_⟩;have hk':j+k<l.length:=by simp at hk;omega
  have:=hc (j+k) hk';rw[List.getElem_drop,Nat.add_assoc];exact this
theorem Bytes.take(j:Nat)(h:Bytes w A l):Bytes w A (l.take j):=by
 rcases h with rfl | ⟨b,off,rfl,aF,hc⟩
 ·exact .inl ae
 ·refine .inr ⟨_,_,rfl,aF,fun k hk=> ?_⟩;have hk':k<l.length:=by simp at hk;omega
  rw[List.getElem_take];exact hc k hk'
theorem Bytes.cutFrom(h:Bytes w A l){k c:Nat}(hk:k≤l.length)(hc:l.length≤c):Bytes w (if c=k then A else A.map (·.add k)) (l.drop k):=by
 by_cases tQ:c=k;·exact .inl (List.drop_eq_nil_of_le aa)
 ·rw[if_neg tQ];rcases h with rfl | ⟨b,off,rfl,aF,hcell⟩
  ·exact .inl ae
  ·have e:(Option.some (⟨b,off,none⟩:Addr)).map (·.add k)=Option.some ⟨b,off+k,none⟩:=(by simp only[Option.map];unfold Addr.add;split<;>simp_all);rw[e];exact Bytes.drop k (.inr ⟨b,off,rfl,aF,hcell⟩)
theorem below_drewN{a:World}(h:Below B a w)(n:Nat):Below B a (w.drewN n):=⟨h.os,h.tape,h.output,h.size,h.block⟩
theorem am{a:World}(h:Below B a w){row:Option Nat}(hg:w.grownBy w' row)(hB:B≤w.heap.size)(hr: ∀g,row=some g→B≤g):Below B a w':=
 ⟨hg.os.trans h.os,hg.tape.trans h.tape,hg.output.trans h.output,Nat.le_trans h.size hg.size,fun i hi=>(hg.block i aa (fun e=>ar (hr i e.symm))).trans (h.block i hi)⟩
def Own(base:Nat)(w:World)(v:Value)(l:List UInt8):Prop:=w.ownsRow base 5 1 v l.length (l.map B8)
theorem Own.nil(base:Nat)(w:World):Own base w (.slice none 0 0) []:=World.ownsRow_nil w base _ 1
theorem Own.alloc(h:Own base w v l)(o:Obj):Own base (w.alloc o) v l:=World.ownsRow.alloc h o
theorem Own.drew(h:Own base w v l):Own base w.drew v l:=h
theorem Own.below(h:Own base w v l)(hb:Below w.heap.size w w'):Own base w' v l:=by
 rcases h with⟨h1,h2 | ⟨g,cap,cur,h2,h3,h4,h5⟩⟩
 ·exact⟨h1,.inl h2⟩
 ·refine⟨h1,.inr ⟨g,cap,cur,h2,h3,(hb.block g ?_).trans h4,h5⟩⟩;rcases Nat.lt_or_ge g w.heap.size with h | h;·exact h
  ·rw[Array.getElem?_eq_none h]at h4;cases h4
theorem Own.read(h:Own base w v l): ∃A c,v= .slice A l.length c∧l.length≤c∧c≤9223372036854775807∧Bytes w A l:=by
 rcases h with⟨h1,⟨rfl,h0⟩ | ⟨g,cap,cur,rfl,hb,hg,NS,uz,dJ,Ou⟩⟩
 ·have:l=[]:=List.eq_nil_of_length_eq_zero h0;subst this;exact⟨none,0,rfl,ae,aa,.nil⟩
 ·refine⟨_,cap,rfl,NS,JC,?_⟩;refine .inr ⟨g,0,rfl,?_,fun k hk=> ?_⟩
  ·rcases Nat.lt_or_ge g w.heap.size with h | h;·exact h
   ·rw[Array.getElem?_eq_none h]at hg;cases hg
  ·rw[cell_of_row w g _ cur _ _ hg,Nat.zero_add];have h2:=congrArg (fun x:List Value=>x[k]?) Ou;simp only[List.getElem?_take,Nat.mul_one,hk,if_true,List.getElem?_map]at h2;rw[List.getElem?_eq_getElem hk]at h2;simpa using h2
theorem Own.aw(h:Own base w v l): ∀g,v.ownBlock=Option.some g→base≤g∧g<w.heap.size:=World.ownsRow.lt h
theorem Own.lit(w:World)(l:List UInt8)(hb:base≤w.heap.size)(hm:l.length≤9223372036854775807):Own base (w.alloc (.cells (l.map B8).toArray 5)) (.slice (Option.some ⟨w.heap.size,0,none⟩) l.length l.length) l:=by have:=World.ownsRow_lit (base:=base) (e:=5) (size:=1) w (l.map B8).toArray l.length hb (by unfold maxLen;exact hm) ae;simpa [Own]using this
theorem pE:(prog.info? 5).map (fun i=>(i.zero,i.size,i.bytes))=some (some (.int .u8 0),1,1):=ak
theorem la(l:List UInt8): ∀u∈l.map B8,u.oneCell'=true:=by intro u hu;rw[List.mem_map]at hu;obtain⟨b,_,rfl⟩:=hu;rfl
theorem fI(base:Nat)(ty:TypeId)(w:World)(v:Value)(xs:List UInt8)(aD:Own base w v xs)(A:Option Addr)(l:List UInt8)(c:Nat)(hB:Bytes w A l)
  (dJ:xs.length+l.length≤140737488355328) (aT:base≤w.heap.size):
  ∃v' w',(Builtin.append_ #[22,22] ty #[v,.slice A l.length c]).run prog w= .ok v' w'∧Own base w' v' (xs++l)∧w.grownBy w' v.ownBlock:=by
 obtain⟨i,hi,nE,gU,qR⟩:=info_parts pE;cases A with
 | none=>
  have hl:l=[]:=by
   rcases hB with h | ⟨_,_,h,_⟩
   ·exact h
   ·cases h
  subst hl;refine⟨v,w,?_,by simpa using aD,World.grownBy.refl w _⟩;rcases aD.2 with⟨rfl,h0⟩ | ⟨g,cap,cur,rfl,_,_,NS,_⟩
  ·simp[Builtin.append_,run_underlying underlying22,sizeOf,typeInfo,hi,Builtin.lenOf,Builtin.firstCells]
  ·simp[Builtin.append_,run_underlying underlying22,sizeOf,typeInfo,hi,Builtin.lenOf,Builtin.firstCells,NS,storeCells]
 | some ad=>
  have tR: ∀j u,(l.map B8)[j]? =some u→w.cell? (ad.add j)=some u:=by
   intro j u hu;rw[List.getElem?_map]at hu;by_cases hj:j<l.length;·obtain⟨b,off,e,_,hcell⟩:=hB.addr aa;injection e with e;subst e;rw[List.getElem?_eq_getElem hj]at hu;rw[show(⟨b,off,none⟩:Addr).add j=⟨b,off+j,none⟩from pD,hcell j hj];simpa using hu
   ·rw[List.getElem?_eq_none aa]at hu;simp at hu
  obtain⟨v',w',hr,h2,h3,_⟩:=run_append_own (P:=prog) w base 22 ty 5 i (.int .u8 0) 1 1 underlying22 hi nE gU qR rfl an
   v xs.length (xs.map B8) aD ad l.length c (l.map B8) ae tR (la l) gD aa aT
  exact⟨v',w',hr,by simpa [Own]using h2,h3⟩
theorem aj(qQ:o.guard=none)(s x:Operand)
  (ho:o.op= .call {callee:= .builtin .append,args:= #[s,x],argTypes:= #[22,22]})
  (base:Nat) (w:World) (v:Value) (xs:List UInt8) (hs:a.eval s=v) (aD:Own base w v xs) (A:Option Addr) (l:List UInt8) (c:Nat) (hx:a.eval x= .slice A l.length c) (hB:Bytes w A l)
  (dJ:xs.length+l.length≤140737488355328) (aT:base≤w.heap.size)
  (h: ∀v' w',Own base w' v' (xs++l)→w.grownBy w' v.ownBlock→wpList prog ops Q rest (a.put o.dst v') w'):wpList prog ops Q (o::rest) a w:=by
 refine wpList_plain qQ fun K hK=> ?_;obtain⟨v',w',hr,h2,h3⟩:=fI base o.type w v xs aD A l c hB dJ aT;unfold Oper.wp execOp;simp only[ho,resolve,invoke,builtin,Sem.run_bind,Sem.run_pure,Result.andThen_ok,List.map_toArray,List.map_cons,List.map_nil,hs,hx,hr];exact hK _ _ (h v' w' h2 h3)
theorem kF(hB:Bytes w A l)(c:Nat):(convert 22 9 (.slice A l.length c)).run prog w= .ok (.string ⟨l.toArray⟩) w:=by
 cases A with
 | none=>
  have hl:l=[]:=by
   rcases hB with h | ⟨_,_,h,_⟩
   ·exact h
   ·cases h
  subst hl;exact run_convert_bytes_nil w 22 5 underlying22 underlying5 0 c 9 underlying9
 | some ad=>
  have key: ∀b off,(∀k (h:k<l.length),w.cell? ⟨b,off+k,none⟩=some (.int .u8 (l[k].toNat:Nat)))→(convert 22 9 (.slice (some ⟨b,off,none⟩) l.length c)).run prog w= .ok (.string ⟨l.toArray⟩) w:=by
   intro b off hc;have h:=run_convert_bytes_arg (P:=prog) w 22 5 underlying22 underlying5 b off l.length c (l.map fun x=>(x.toNat:Int)) ae (fun i hi=>by
    rw[hc i hi];simp[List.getD,hi]) 9 underlying9
   rw[h];have e:strOfNums (l.map fun x=>(x.toNat:Int))=⟨l.toArray⟩:=by
    unfold strOfNums;congr 1;congr 1;rw[List.map_map];conv=>rhs;rw[←List.map_id l]
    apply List.map_congr_left;intro x _;simp
   rw[e]
  rcases hB with rfl | ⟨b,off,e,_,hc⟩
  ·have h:=run_convert_bytes_string (P:=prog) w 22 9 5 (some ad) 0 c underlying22 underlying5 underlying9;rw[List.length_nil,h];simp[Conv.bytesToString];rfl
  ·injection e with e;subst e;exact key b off hc
theorem Bytes.one(w:World)(x:UInt8):Bytes (w.alloc (.cells #[.int .u8 (x.toNat:Nat)] 5)) (some ⟨w.heap.size,0,none⟩) [x]:=by refine .inr ⟨_,_,rfl,ae,fun k hk=> ?_⟩;obtain rfl:k=0:=tP;rw[cell_of_row _ _ _ _ _ _ (heap_alloc_last _ _)];rfl
def Holds(w:World)(e:Ending)(w':World):Prop:=e= .returned (.bool true)∧Below w.heap.size w w'
theorem gV(i:Nat)
  (hy: ∀w,S w→(execOp a.eval oi).run P w= .ok (.value v) w) (hS:S w) (h:wpAnyH P md ops Q S fuel (listed.setIfInBounds i true) (a.put oi.dst v) w)
  (hi:ops.toList.drop i=oi::rest:=by rfl) (hs:Region.noSelect ops=true:=by kernel_rfl) (hf:Region.free md ops listed i=true:=by kernel_rfl) (hr:(Region.ready md ops listed).contains i=true:=by kernel_rfl)
  (hq: ∀c a w,Q (.panic c) (a.put oi.dst v) w→Q (.panic c) a w:=by exact fun _ _ _ h=>h) (hw:Region.wanted oi (yielded ops a.tmps)=true:=by rfl):wpAnyH P md ops Q S (fuel+1) listed a w:=
 wpAnyH_take (by have e:=congrArg (fun l:List Oper=>l[0]?) hi;simpa using e) hs hf hr hq (.inl ⟨hw,hy⟩) hS h
theorem bT(i:Nat)
  (hi:ops.toList.drop i=oi::rest) (hy: ∀w,S w→(execOp a.eval oi).run P w= .ok (.value v) w) (hS:S w)
  (hs:Region.noSelect ops=true:=by kernel_rfl) (hf:Region.free md ops listed i=true:=by kernel_rfl) (hr:(Region.ready md ops listed).contains i=true:=by kernel_rfl)
  (hq: ∀c a w,Q (.panic c) (a.put oi.dst v) w→Q (.panic c) a w:=by exact fun _ _ _ h=>h) (hw:Region.wanted oi (yielded ops a.tmps)=true:=by rfl)
  (hp:a.put oi.dst v=a':=by(try simp only[Act.put,List.setIfInBounds_toArray,List.set_cons_zero,List.set_cons_succ]);rfl)
  (hl:listed.setIfInBounds i true=l':=by(try simp only[List.setIfInBounds_toArray,List.set_cons_zero,List.set_cons_succ]);rfl)
  (h:wpAnyH P md ops Q S fuel l' a' w):wpAnyH P md ops Q S (fuel+1) listed a w:=
 gV i hy hS (hl▸hp▸h) hi hs hf hr hq hw
theorem af(i:Nat)
  (hS:S w)
  (hi:ops.toList.drop i=oi::rest:=by rfl) (hs:Region.noSelect ops=true:=by kernel_rfl) (hf:Region.free md ops listed i=true:=by kernel_rfl) (hr:(Region.ready md ops listed).contains i=true:=by kernel_rfl)
  (hy: ∀w,S w→(execOp a.eval oi).run P w= .ok (.value v) w:=by intro w hSw;go_simp;all_goals(with_reducible rfl))
  (hq: ∀c a w,Q (.panic c) (a.put oi.dst v) w→Q (.panic c) a w:=by exact fun _ _ _ h=>h) (hw:Region.wanted oi (yielded ops a.tmps)=true:=by rfl)
  (hp:a.put oi.dst v=a':=by(try simp only[Act.put,List.setIfInBounds_toArray,List.set_cons_zero,List.set_cons_succ]);rfl)
  (hl:listed.setIfInBounds i true=l':=by(try simp only[List.setIfInBounds_toArray,List.set_cons_zero,List.set_cons_succ]);rfl)
  (h:wpAnyH P md ops Q S fuel l' a' w):wpAnyH P md ops Q S (fuel+1) listed a w:=
 gV i hy hS (hl▸hp▸h) hi hs hf hr hq hw
theorem aZ(i:Nat)
  (hS:S w)
  (hi:ops.toList.drop i=oi::rest:=by rfl) (hs:Region.noSelect ops=true:=by kernel_rfl) (hf:Region.free md ops listed i=true:=by kernel_rfl) (hr:(Region.ready md ops listed).contains i=true:=by kernel_rfl)
  (hy: ∀w,S w→(execOp a.eval oi).run P w= .ok (.value v) w:=by intro w;(try simp only[and_imp]);intros;go_simp;all_goals(with_reducible rfl))
  (hq: ∀c a w,Q (.panic c) (a.put oi.dst v) w→Q (.panic c) a w:=by exact fun _ _ _ h=>h) (hw:Region.wanted oi (yielded ops a.tmps)=true:=by rfl)
  (hp:a.put oi.dst v=a':=by(try simp only[Act.put,List.setIfInBounds_toArray,List.set_cons_zero,List.set_cons_succ]);rfl)
  (hl:listed.setIfInBounds i true=l':=by(try simp only[List.setIfInBounds_toArray,List.set_cons_zero,List.set_cons_succ]);rfl)
  (h:wpAnyH P md ops Q S fuel l' a' w):wpAnyH P md ops Q S (fuel+1) listed a w:=
 gV i hy hS (hl▸hp▸h) hi hs hf hr hq hw
theorem bq(i:Nat)
  {p:World→Prop} (hX: ∀w,S w→p w) (hS:S w)
  (hi:ops.toList.drop i=oi::rest:=by rfl) (hs:Region.noSelect ops=true:=by kernel_rfl) (hf:Region.free md ops listed i=true:=by kernel_rfl) (hr:(Region.ready md ops listed).contains i=true:=by kernel_rfl)
  (hy: ∀w,p w→(execOp a.eval oi).run P w= .ok (.value v) w:=by intro w;(try simp only[and_imp]);intros;go_simp;all_goals(with_reducible rfl))
  (hq: ∀c a w,Q (.panic c) (a.put oi.dst v) w→Q (.panic c) a w:=by exact fun _ _ _ h=>h) (hw:Region.wanted oi (yielded ops a.tmps)=true:=by rfl)
  (hp:a.put oi.dst v=a':=by(try simp only[Act.put,List.setIfInBounds_toArray,List.set_cons_zero,List.set_cons_succ]);rfl)
  (hl:listed.setIfInBounds i true=l':=by(try simp only[List.setIfInBounds_toArray,List.set_cons_zero,List.set_cons_succ]);rfl)
  (h:wpAnyH P md ops Q S fuel l' a' w):wpAnyH P md ops Q S (fuel+1) listed a w:=
 gV i (fun w h=>hy w (hX w h)) hS (hl▸hp▸h) hi hs hf hr hq hw
theorem cJ(i:Nat)
  (hS:S w)
  (hi:ops.toList.drop i=oi::rest:=by rfl) (hs:Region.noSelect ops=true:=by kernel_rfl) (hf:Region.free md ops listed i=true:=by kernel_rfl) (hr:(Region.ready md ops listed).contains i=true:=by kernel_rfl)
  (hq: ∀c a w,Q (.panic c) (a.put oi.dst undef) w→Q (.panic c) a w:=by exact fun _ _ _ h=>h) (hw:Region.wanted oi (yielded ops a.tmps)=false:=by rfl)
  (hp:a.put oi.dst undef=a':=by(try simp only[Act.put,List.setIfInBounds_toArray,List.set_cons_zero,List.set_cons_succ]);rfl)
  (hl:listed.setIfInBounds i true=l':=by(try simp only[List.setIfInBounds_toArray,List.set_cons_zero,List.set_cons_succ]);rfl)
  (h:wpAnyH P md ops Q S fuel l' a' w):wpAnyH P md ops Q S (fuel+1) listed a w:=
 wpAnyH_take (v:=undef) (by have e:=congrArg (fun l:List Oper=>l[0]?) hi;simpa using e) hs hf hr hq (.inr ⟨hw,rfl⟩) hS (hl▸hp▸h)
theorem aG(i:Nat)
  (h: ∀K':Act→World→Prop,Shut (∀a w,S w→(S w→wpAnyH P md ops Q S fuel (listed.setIfInBounds i true) a w)→K' a w)→if Region.wanted oi (yielded ops a.tmps)=true then Oper.wp P oi a w K' Q else K' (a.put oi.dst undef) w)
  (hi:ops.toList.drop i=oi::rest:=by rfl) (hr:Region.ready md ops listed=[i]:=by kernel_rfl):wpAnyH P md ops Q S (fuel+1) listed a w:=
 wpAnyH_ready hr (by simp) (AllReadyH.cons (by have e:=congrArg (fun l:List Oper=>l[0]?) hi;simpa using e) h AllReadyH.nil)
section
open Go.ChangeShapes Go.WideShapes Go.ChangeAt Go.RowKit
theorem Tryz.own:ownKnob prog.godebug=none:=ak
theorem laidOut:laidOutB prog=true:=ak
theorem vT:prog.cellsOf 5=1:=ak
theorem Gp{H:Type}{enc:TypeId×Value→H}{W:World}{b0:Nat}{v:Value}{d:DataW H}{p:List MemPlace}
  (hval:Value.okWide prog W .any b0 22 v) (h:DataW.Trod enc prog W 0 (fun _=>true) true 22 v d p):
  ∃(A:Option Addr) (l:List UInt8) (c:Nat),v= .slice A l.length c∧l.length≤c∧c≤9223372036854775807∧Bytes W A l:=by
 obtain⟨fuel,hf⟩:=h;obtain⟨a0,len,cap,rfl⟩:=okWide_slice underlying22 hval;rcases open_ints underlying22 underlying5 vT hf with⟨hcs,_⟩ | ⟨a,aqW,bw,zs,hcs,_,hl,hm,hz,_,hcell,hwz⟩
 ·simp[Value.cells]at hcs;obtain⟨rfl,rfl,rfl⟩:=hcs;exact⟨none,[],0,rfl,ae,aa,.nil⟩
 ·simp[Value.cells]at hcs;obtain⟨rfl,rfl,rfl⟩:=hcs;simp only[if_true]at hz;unfold maxLen at hm;refine⟨some a,(zs.take len).map (fun n=>UInt8.ofNat n.toNat),cap,by rw[List.length_map,List.length_take,Nat.min_eq_left aa],av,hm,?_⟩;rcases Nat.eq_zero_or_pos len with h0 | vU;·subst h0;exact .inl ae
  ·obtain⟨b,off,spot⟩:=a;have Ov:spot=none:=(by simpa [Addr.add]using World.cell?_spot (hcell 0 aa));subst Ov;refine .inr ⟨b,off,rfl,?_,fun k hk=> ?_⟩;·have:=block_lt_of_cell (hcell 0 aa);simpa [Addr.add]using this
   ·have hk':k<len:=(by simp at hk;omega);have hc:=hcell k aa;have hw:=hwz (zs[k]'aa) (List.getElem_mem _);have hb:0≤zs[k]'aa∧zs[k]'aa<256:=(by have h1:IntKind.u8.min=0:=rfl;have h2:IntKind.u8.max=255:=rfl;simp[Lit.wf]at hw;omega);rw[show(⟨b,off,none⟩:Addr).add k=⟨b,off+k,none⟩from pD]at hc;rw[hc];have e:zs.getD k 0=zs[k]'aa:=(by simp[List.getD,show k<zs.length by omega]);rw[e,List.getElem_map,List.getElem_take];congr 2;rw[UInt8.toNat_ofNat'];omega
theorem Dn{a:Int}(h:(Lit.int .i64 a).wf=true): -9223372036854775808≤a∧a≤9223372036854775807:=by have e1:IntKind.i64.min= -9223372036854775808:=rfl;have e2:IntKind.i64.max=9223372036854775807:=rfl;simp[Lit.wf]at h;omega
theorem JM{a:Int}(h:(Lit.int .u32 a).wf=true):a=((BitVec.ofNat 32 a.toNat).toNat:Int):=by have e1:IntKind.u32.min=0:=rfl;have e2:IntKind.u32.max=4294967295:=rfl;simp[Lit.wf]at h;rw[BitVec.toNat_ofNat];omega
theorem pF{H:Type}{enc:TypeId×Value→H}{W W':World}(hb:Below W.heap.size W W'): ∀{ts:List TypeId} {vs:List Value} {ds:List (DataW H)} {ps:List MemPlace},
  DataW.TrodAll enc prog W 0 (fun _=>true) true ts vs ds ps→(∀t∈ts,prog.readableRec t=true∧t<prog.types.size)→(∀x∈ps,x.block<W.heap.size)→
  DataW.TrodAll enc prog W' 0 (fun b=>decide (b<W.heap.size)) true ts vs ds ps
 | [],vs,ds,ps,h,_,_=>by obtain⟨rfl,rfl,rfl⟩:=trodAll_nil h;exact rfl
 | t::ts,vs,ds,ps,h,hr,aF=>by
  obtain⟨v,vs',d,ds',p,q,rfl,rfl,rfl,h1,h2⟩:=trodAll_cons h;have jZ:=hr t ae
  exact⟨p,q,Below.trod laidOut jZ.1 jZ.2 h1 hb (fun x hx=>aF x (by simp[hx])),
   pF hb h2 (fun t ht=>hr t (by simp[ht])) (fun x hx=>aF x (by simp[hx])),rfl⟩
theorem Ow{H:Type}{enc:TypeId×Value→H}{f:Func}{s:ChangeSpec}{W W':World}{args:Array Value}{ds:List (DataW H)}{before:List MemPlace}
  (hr:f.resultTypes= #[4]) (hvs:s.vars=[])
  (hW:DataW.Whole enc prog f.params.toList s.vars false W args.toList ds [] before)
  (tc:(s.fn H (ds++[])).results=[.lit (.bool true)]) (abY:(s.fn H (ds++[])).args=ds) (abZ:(s.fn H (ds++[])).vars=[])
  (Do: ∀t∈f.params.toList,prog.readableRec t=true∧t<prog.types.size)
  (hb:Below W.heap.size W W'):s.post enc prog f false true false false W args (.bool true) W':=by
 have aF:=hW.lt;have tS:=hW;obtain⟨p,q,hA,hV,rfl,_,_⟩:=hW;rw[hvs]at hV;obtain⟨_,rfl⟩:=trodVars_none hV;refine⟨ds,[],_,[],p,[],tS,?_,?_,?_,hb.frame _,fun h=>by cases h⟩;·rw[tc,hr];exact trodAll_mk1 (shut_bool underlying4 true)
 ·rw[abY];exact pF hb hA Do (fun x hx=>aF x (by simp[hx]))
 ·rw[hvs,abZ];rfl
end
def aP(t:TypeId)(base:Nat)(w:World)(v:Value)(l:List Value):Prop:=w.ownsRow base t 1 v l.length l
structure Elem(ts t:TypeId)(z:Value)(bytes:Nat):Prop where
 und:prog.underlying ts=some (.slice t)
 info:(prog.info? t).map (fun i=>(i.zero,i.size,i.bytes))=some (some z,1,bytes)
 one:z.cells.size=1
theorem aP.nil(t:TypeId)(base:Nat)(w:World):aP t base w (.slice none 0 0) []:=World.ownsRow_nil w base _ 1
theorem aP.aI{l:List Value}(h:aP t base w v l)(hb: ∀g,v.ownBlock=some g→w'.heap[g]? =w.heap[g]?):aP t base w' v l:=by
 rcases h with⟨h1,h2 | ⟨g,cap,cur,h2,h3,h4,h5⟩⟩
 ·exact⟨h1,.inl h2⟩
 ·exact⟨h1,.inr ⟨g,cap,cur,h2,h3,(hb g (by rw[h2];rfl)).trans h4,h5⟩⟩
theorem aP.lt{l:List Value}(h:aP t base w v l)(g:Nat)(hg:v.ownBlock=some g):base≤g∧g<w.heap.size:=World.ownsRow.lt h g hg
theorem aP.below{l:List Value}(h:aP t base w v l)(hb:Below w.heap.size w w'):aP t base w' v l:=h.aI fun g hg=>hb.block g (h.lt g hg).2
theorem aP.alloc{l:List Value}(h:aP t base w v l)(o:Obj):aP t base (w.alloc o) v l:=h.below (ap)
theorem aP.drew{l:List Value}(h:aP t base w v l):aP t base w.drew v l:=h
theorem aP.grown{v2:Value}{l:List Value}(h:aP t base w v l)(hg:w.grownBy w' v2.ownBlock)(dr: ∀g,v.ownBlock=some g→v2.ownBlock≠some g):aP t base w' v l:=
 h.aI fun g e=>hg.block g (h.lt g e).2 (fun h2=>dr g e h2.symm)
theorem aP.form{l:List Value}(h:aP t base w v l):
  (v= .slice none 0 0∧l=[])∨ ∃g cap,v= .slice (some ⟨g,0,none⟩) l.length cap∧base≤g∧g<w.heap.size∧l.length≤cap∧cap≤9223372036854775807∧ ∀i (h:i<l.length),w.cell? ⟨g,i,none⟩=some l[i]:=by
 have hc:=fun(g cap:Nat) (e:v= .slice (some ⟨g,0,none⟩) l.length cap) (i:Nat) (hi:i<l.length)=>World.ownsRow.cellAt (e▸h) i aa;rcases h with⟨h1,⟨h2,h3⟩ | ⟨g,cap,cur,h2,h3,h4,h5,h6,h7,h8⟩⟩
 ·exact .inl ⟨h2,List.eq_nil_of_length_eq_zero h3⟩
 ·refine .inr ⟨g,cap,h2,h3,?_,h5,AQ,fun i hi=> ?_⟩
  ·rcases Nat.lt_or_ge g w.heap.size with h | h;·exact h
   ·rw[Array.getElem?_eq_none h]at h4;cases h4
  ·rw[hc g cap h2 i hi,List.getElem?_eq_getElem hi]
theorem aP.read{l:List Value}(h:aP t base w v l):
  ∃A c,v= .slice A l.length c∧l.length≤c∧c≤9223372036854775807∧(∀i (h:i<l.length),∃g,A=some ⟨g,0,none⟩∧w.cell? ⟨g,i,none⟩=some l[i]):=by
 rcases h.form with⟨rfl,rfl⟩ | ⟨g,cap,rfl,_,_,hc,hm,hcell⟩
 ·exact⟨none,0,rfl,ae,aa,fun i hi=>by simp at hi⟩
 ·exact⟨_,cap,rfl,hc,hm,fun i hi=>⟨g,rfl,hcell i hi⟩⟩
theorem aP.bK{l:List Value}(h:aP t base w v l)(hl:0<l.length):
  ∃g cap,v= .slice (some ⟨g,0,none⟩) l.length cap∧base≤g∧g<w.heap.size∧l.length≤cap∧cap≤9223372036854775807∧ ∀i (h:i<l.length),w.cell? ⟨g,i,none⟩=some l[i]:=by
 rcases h.form with⟨_,rfl⟩ | h;·simp at hl
 ·exact h
theorem aP.lit(t:TypeId)(w:World)(l:List Value)(hb:base≤w.heap.size)(hm:l.length≤9223372036854775807):aP t base (w.alloc (.cells l.toArray t)) (.slice (some ⟨w.heap.size,0,none⟩) l.length l.length) l:=by have:=World.ownsRow_lit (base:=base) (e:=t) (size:=1) w l.toArray l.length hb (by unfold maxLen;exact hm) ae;simpa [aP]using this
theorem eu{a:World}(h:Below B a w)(hg:w.grownBy w' v.ownBlock)(hB:B≤w.heap.size)(hr: ∀g,v.ownBlock=some g→B≤g):Below B a w':=am h hg hB hr
theorem mS(hE:Elem ts t z bytes)(base:Nat)(ty:TypeId)(w:World)(v:Value)(l:List Value)(aD:aP t base w v l)(hh m c:Nat)(news:List Value)(hl:news.length=m)
  (hc: ∀i (h:i<news.length),w.cell? ⟨hh,i,none⟩=some news[i]) (h1: ∀u∈news,u.oneCell'=true) (dJ:(l.length+m)*bytes≤140737488355328) (NT:l.length+m≤140737488355328) (aT:base≤w.heap.size):
  ∃v' w',(Builtin.append_ #[ts,ts] ty #[v,.slice (some ⟨hh,0,none⟩) m c]).run prog w= .ok v' w'∧aP t base w' v' (l++news)∧w.grownBy w' v.ownBlock∧(v'.ownBlock=v.ownBlock∨v'.ownBlock=some w.heap.size):=by
 obtain⟨i,hi,nE,gU,qR⟩:=info_parts hE.info
 obtain⟨v',w',hr,h2,h3,_,h5⟩:=run_append_own_at (P:=prog) w base ts ty t i z 1 bytes hE.und hi nE gU qR hE.one an
  v l.length l aD ⟨hh,0,none⟩ m c news aa (by
   intro j u hu;have hj:j<news.length:=by
    rcases Nat.lt_or_ge j news.length with h | h;·exact h
    ·rw[List.getElem?_eq_none h]at hu;cases hu
   have:=hc j hj;rw[List.getElem?_eq_getElem hj]at hu;injection hu with hu;rw[←hu,←this,show(⟨hh,0,none⟩:Addr).add j=⟨hh,j,none⟩from pD]) h1 gD dJ aT
 exact⟨v',w',hr,by simpa [aP,hl]using h2,h3,h5⟩
theorem a8(hE:Elem ts t z bytes)(qQ:o.guard=none)(s x:Operand)
  (ho:o.op= .call {callee:= .builtin .append,args:= #[s,x],argTypes:= #[ts,ts]})
  (base:Nat) (w:World) (v:Value) (l:List Value) (hs:a.eval s=v) (aD:aP t base w v l) (hh m c:Nat) (news:List Value) (hx:a.eval x= .slice (some ⟨hh,0,none⟩) m c) (hl:news.length=m)
  (hc: ∀i (h:i<news.length),w.cell? ⟨hh,i,none⟩=some news[i]) (h1: ∀u∈news,u.oneCell'=true) (dJ:(l.length+m)*bytes≤140737488355328) (NT:l.length+m≤140737488355328) (aT:base≤w.heap.size)
  (h: ∀v' w',aP t base w' v' (l++news)→w.grownBy w' v.ownBlock→(v'.ownBlock=v.ownBlock∨v'.ownBlock=some w.heap.size)→wpList prog ops Q rest (a.put o.dst v') w'):wpList prog ops Q (o::rest) a w:=by
 refine wpList_plain qQ fun K hK=> ?_;obtain⟨v',w',hr,h2,h3,h4⟩:=mS hE base o.type w v l aD hh m c news hl hc h1 dJ NT aT;unfold Oper.wp execOp;simp only[ho,resolve,invoke,builtin,Sem.run_bind,Sem.run_pure,Result.andThen_ok,List.map_toArray,List.map_cons,List.map_nil,hs,hx,hr];exact hK _ _ (h v' w' h2 h3 h4)
theorem lz(hE:Elem ts t z bytes){K:Act→World→Prop}(qQ:o.guard=none)(s x:Operand)
  (ho:o.op= .call {callee:= .builtin .append,args:= #[s,x],argTypes:= #[ts,ts]})
  (base:Nat) (w:World) (v:Value) (l:List Value) (hs:a.eval s=v) (aD:aP t base w v l) (hh m c:Nat) (news:List Value) (hx:a.eval x= .slice (some ⟨hh,0,none⟩) m c) (hl:news.length=m)
  (hc: ∀i (h:i<news.length),w.cell? ⟨hh,i,none⟩=some news[i]) (h1: ∀u∈news,u.oneCell'=true) (dJ:(l.length+m)*bytes≤140737488355328) (NT:l.length+m≤140737488355328) (aT:base≤w.heap.size)
  (h: ∀v' w',aP t base w' v' (l++news)→w.grownBy w' v.ownBlock→(v'.ownBlock=v.ownBlock∨v'.ownBlock=some w.heap.size)→K (a.put o.dst v') w'):if Region.wanted o (yielded ops a.tmps)=true then Oper.wp prog o a w K Q else K (a.put o.dst undef) w:=by
 rw[if_pos sU];obtain⟨v',w',hr,h2,h3,h4⟩:=mS hE base o.type w v l aD hh m c news hl hc h1 dJ NT aT;unfold Oper.wp execOp;simp only[ho,resolve,invoke,builtin,Sem.run_bind,Sem.run_pure,Result.andThen_ok,List.map_toArray,List.map_cons,List.map_nil,hs,hx,hr];exact h v' w' h2 h3 h4
theorem gE(w:World)(u:Value)(t:TypeId): ∀i (h:i<[u].length),(w.alloc (.cells #[u] t)).cell? ⟨w.heap.size,i,none⟩=some [u][i]:=by intro i hi;obtain rfl:i=0:=jp;rw[cell_of_row _ _ _ _ _ _ (heap_alloc_last _ _)];rfl
abbrev PF(F:Nat):Value:= .pointer (some ⟨F,0,none⟩)
theorem cY{d:List UInt8}{i:Nat}(h:i<d.length):d.getD i 0=d[i]:=by simp[List.getD,h]
theorem heap_set(h:w.heap[g]? =some (.cells L.toArray t (0,0)))(i:Nat)(v:Value):(w.setCell ⟨g,i,none⟩ v).heap[g]? =some (.cells (L.set i v).toArray t (0,0)):=by unfold World.setCell;simp[Array.getElem?_modify,h]
theorem ag(w:World)(a:Addr)(v:Value)(i:Nat)(h:i≠a.block):(w.setCell a v).heap[i]? =w.heap[i]? :=RowKit.Below.heap_setCell _ _ _ _ h
abbrev Gq(a b c d:Int):Value:= .agg #[.int .i64 a,.int .i64 b,.int .i64 c,.int .i64 d]
abbrev j2(k:Int)(b:UInt8)(l d r:Int):Value:= .agg #[.int .i64 k,.int .u8 (b.toNat:Nat),.int .i64 l,.int .i64 d,.int .i64 r]
theorem lA{W:World}{cs:List Value}(h:W.heap[b]? =some (.cells L.toArray t (0,0)))(hcs: ∀j,j<cs.length→cs[j]? =L[j]?): ∀j v,cs[j]? =some v→W.drew.cell? ((⟨b,0,none⟩:Addr).add j)=some v:=by intro j v hj;have tT:j<cs.length:=(List.getElem?_eq_some_iff.1 hj).1;have e:((⟨b,0,none⟩:Addr).add j)=⟨b,j,none⟩:=pD;have h':W.drew.heap[b]? =some (.cells L.toArray t (0,0)):=h;rw[e,cell_of_row W.drew b _ _ _ _ h',List.getElem?_toArray,←hcs j tT,hj]
theorem Dp:prog.arrayLen 127=4:=ak
theorem TW:prog.underlying 127=some (.array (prog.arrayLen 127) (prog.elem 127)):=ak
theorem vV(g n:Nat)(h:n≤3)(w:World):(Instr.sliceAt 127 (.pointer (some ⟨g,0,none⟩)) (some (.int .i64 1)) (some (.int .i64 (n+1:Nat))) none).run prog w= .ok (.slice (some ⟨g,1,none⟩) n 3) w:=by have hs:(sizeOf (prog.elem 127)).run prog w= .ok 1 w:=ak;rw[run_sliceAt_array_lh w 127 ⟨g,0,none⟩ TW .i64 .i64 1 (n+1:Nat) an aa (by rw[Dp];omega),hs,Dp];simp only[Result.andThen,slicedAt,Int.toNat_natCast,Nat.mul_one];rw[if_neg an,show(1:Int).toNat=1 from rfl,Addr.add_mid,Nat.zero_add,Nat.add_sub_cancel]
theorem Dq(g n:Nat)(h:n≤4)(w:World):(Instr.sliceAt 127 (.pointer (some ⟨g,0,none⟩)) none (some (.int .i64 (n:Nat))) none).run prog w= .ok (.slice (some ⟨g,0,none⟩) n 4) w:=by have hs:(sizeOf (prog.elem 127)).run prog w= .ok 1 w:=ak;rw[run_sliceAt_array_h w 127 ⟨g,0,none⟩ TW .i64 (n:Nat) aa (by rw[Dp];omega),hs,Dp];simp only[Result.andThen,slicedAt,Int.toNat_natCast,Nat.mul_one,Nat.sub_zero];rw[if_neg an];simp[Addr.add]
def r4(a b c d:Int):Nat→Int
 | 0=>a
 | 1=>b
 | 2=>c
 | _=>d
theorem ab0(a b c d:Int)(w:World):(Instr.index 127 (.agg #[.int .i64 a,.int .i64 b,.int .i64 c,.int .i64 d]) (.int .i64 0)).run prog w= .ok (.int .i64 a) w:=by first | rfl | kernel_rfl | (simp[Instr.index,run_underlying underlying127,asIntOf,go_sem])
theorem ab1(a b c d:Int)(w:World):(Instr.index 127 (.agg #[.int .i64 a,.int .i64 b,.int .i64 c,.int .i64 d]) (.int .i64 1)).run prog w= .ok (.int .i64 b) w:=by first | rfl | kernel_rfl | (simp[Instr.index,run_underlying underlying127,asIntOf,go_sem])
theorem ab2(a b c d:Int)(w:World):(Instr.index 127 (.agg #[.int .i64 a,.int .i64 b,.int .i64 c,.int .i64 d]) (.int .i64 2)).run prog w= .ok (.int .i64 c) w:=by first | rfl | kernel_rfl | (simp[Instr.index,run_underlying underlying127,asIntOf,go_sem])
theorem ab3(a b c d:Int)(w:World):(Instr.index 127 (.agg #[.int .i64 a,.int .i64 b,.int .i64 c,.int .i64 d]) (.int .i64 3)).run prog w= .ok (.int .i64 d) w:=by first | rfl | kernel_rfl | (simp[Instr.index,run_underlying underlying127,asIntOf,go_sem])
structure Sy where
 k:Nat
 b:UInt8
 l:Nat
 d:Nat
 r:Nat
deriving DecidableEq
abbrev Sy.val(s:Sy):Value:=j2 (s.k:Nat) s.b (s.l:Nat) (s.d:Nat) (s.r:Nat)
abbrev R4:=Int×Int×Int×Int
abbrev R4.val(r:R4):Value:=Gq r.1 r.2.1 r.2.2.1 r.2.2.2
def du(s:Sy)(r:R4):R4:=
 if s.k=0 then r
 else if s.k=1 then((s.d:Int),r.1,r.2.1,r.2.2.1)
 else match s.r with
  | 0=>r
  | 1=>(r.2.1,r.1,r.2.2.1,r.2.2.2)
  | 2=>(r.2.2.1,r.1,r.2.1,r.2.2.2)
  | _=>(r.2.2.2,r.1,r.2.1,r.2.2.1)
def bB(l:List Sy):List Value:=l.flatMap fun s=>[Value.int .i64 (s.k:Nat),.int .u8 (s.b.toNat:Nat),.int .i64 (s.l:Nat),.int .i64 (s.d:Nat),.int .i64 (s.r:Nat)]
theorem vW(l:List Sy):(bB l).length=l.length*5:=by
 induction l with
 | nil=>rfl
 | cons a l ih=>simp only[bB,List.flatMap_cons,List.length_append,List.length_cons,List.length_nil]at ih ⊢;omega
theorem vX(l m:List Sy):bB (l++m)=bB l++bB m:=by simp[bB]
theorem Dr(l:List Sy): ∀i (h:i<l.length),(bB l)[5*i]? =some (.int .i64 (l[i].k:Nat))∧(bB l)[5*i+1]? =some (.int .u8 (l[i].b.toNat:Nat))∧(bB l)[5*i+2]? =some (.int .i64 (l[i].l:Nat))∧
  (bB l)[5*i+3]? =some (.int .i64 (l[i].d:Nat))∧(bB l)[5*i+4]? =some (.int .i64 (l[i].r:Nat)):=by
 induction l with
 | nil=>intro i h;simp at h
 | cons a l ih=>
  intro i h;cases i with
  | zero=>exact⟨rfl,rfl,rfl,rfl,rfl⟩
  | succ i=>
   have:=ih i l7;rw[show 5*(i+1)=5*i+1+1+1+1+1 by omega];exact this
def ev(base:Nat)(w:World)(v:Value)(l:List Sy):Prop:=w.ownsRow base 158 5 v l.length (bB l)
theorem YC:(prog.info? 158).map (fun i=>(i.zero,i.size,i.bytes))=some (some (.agg #[.int .i64 0,.int .u8 0,.int .i64 0,.int .i64 0,.int .i64 0]),5,40):=ak
theorem ev.nil(base:Nat)(w:World):ev base w (.slice none 0 0) []:=World.ownsRow_nil w base _ 5
theorem ev.aI{l:List Sy}(h:ev base w v l)(hb: ∀g,v.ownBlock=some g→w'.heap[g]? =w.heap[g]?):ev base w' v l:=by
 rcases h with⟨h1,h2 | ⟨g,cap,cur,h2,h3,h4,h5⟩⟩
 ·exact⟨h1,.inl h2⟩
 ·exact⟨h1,.inr ⟨g,cap,cur,h2,h3,(hb g (by rw[h2];rfl)).trans h4,h5⟩⟩
theorem ev.lt{l:List Sy}(h:ev base w v l)(g:Nat)(hg:v.ownBlock=some g):base≤g∧g<w.heap.size:=World.ownsRow.lt h g hg
theorem ev.weaken{fO:Nat}{l:List Sy}(h:ev base w v l)(hb:fO≤base):ev fO w v l:=by
 rcases h with⟨h1,h2 | ⟨g,cap,cur,h2,h3,h4⟩⟩
 ·exact⟨h1,.inl h2⟩
 ·exact⟨h1,.inr ⟨g,cap,cur,h2,Nat.le_trans hb h3,h4⟩⟩
theorem ev.below{l:List Sy}(h:ev base w v l)(hb:Below w.heap.size w w'):ev base w' v l:=h.aI fun g hg=>hb.block g (h.lt g hg).2
theorem ev.set{l:List Sy}(h:ev base w v l){p:Addr}(hp:p.block<base)(u:Value):ev base (w.setCell p u) v l:=h.aI fun g hg=>ag _ _ _ _ (by have:=(h.lt g hg).1;omega)
theorem ev.read{l:List Sy}(h:ev base w v l)(hl:0<l.length):
  ∃g cap,v= .slice (some ⟨g,0,none⟩) l.length cap∧g<w.heap.size∧l.length≤cap∧cap≤9223372036854775807∧ ∀i (h:i<l.length),w.cell? ⟨g,5*i,none⟩=some (.int .i64 (l[i].k:Nat))∧w.cell? ⟨g,5*i+1,none⟩=some (.int .u8 (l[i].b.toNat:Nat))∧
   w.cell? ⟨g,5*i+2,none⟩=some (.int .i64 (l[i].l:Nat))∧w.cell? ⟨g,5*i+3,none⟩=some (.int .i64 (l[i].d:Nat))∧w.cell? ⟨g,5*i+4,none⟩=some (.int .i64 (l[i].r:Nat)):=by
 rcases h with⟨h1,⟨h2,h3⟩ | ⟨g,cap,cur,rfl,h3,h4,h5,h6,h7,h8⟩⟩
 ·omega
 ·refine⟨g,cap,rfl,(cr h4),h5,AQ,fun i hi=> ?_⟩;have Ds:=Dr l i hi;have hc: ∀j,j<l.length*5→w.cell? ⟨g,j,none⟩=(bB l)[j]? :=fun j hj=>by have e:cur[j]? =(bB l)[j]? :=(by rw[←h8,List.getElem?_take_of_lt aa,Array.getElem?_toList]);rw[←e,cell_of_row w g j _ _ _ h4]
  refine⟨?_,?_,?_,?_,?_⟩;·rw[hc _ aa];exact Ds.1
  ·rw[hc _ aa];exact Ds.2.1
  ·rw[hc _ aa];exact Ds.2.2.1
  ·rw[hc _ aa];exact Ds.2.2.2.1
  ·rw[hc _ aa];exact Ds.2.2.2.2
theorem yK(ty:TypeId)(base:Nat)(w:World)(v:Value)(l:List Sy)(aD:ev base w v l)(hh c:Nat)(s:Sy)
  (hc:w.heap[hh]? =some (.cells (bB [s]).toArray 158 (0,0))) (hl:l.length≤1000000) (aT:base≤w.heap.size):
  ∃v' w',(Builtin.append_ #[151,151] ty #[v,.slice (some ⟨hh,0,none⟩) 1 c]).run prog w= .ok v' w'∧ev base w' v' (l++[s])∧w.grownBy w' v.ownBlock:=by
 obtain⟨i,hi,hz⟩:=Option.map_eq_some_iff.1 YC;injection hz with nE hz;injection hz with gU qR
 obtain⟨v',w',hr,h2,h3,_⟩:=run_append_own (P:=prog) w base 151 ty 158 i _ 5 40 underlying151 hi nE gU qR rfl an
  v l.length (bB l) aD ⟨hh,0,none⟩ 1 c (bB [s]) (by rw[vW];rfl) (by
   intro j u hu;have e:(⟨hh,0,none⟩:Addr).add j=⟨hh,j,none⟩:=pD;rw[e,cell_of_row w hh _ _ _ _ hc,List.getElem?_toArray,hu]) (by intro u hu;simp[bB]at hu;rcases hu with rfl | rfl | rfl | rfl | rfl<;>rfl) gD aa aT
 exact⟨v',w',hr,by unfold ev;rw[vX];simpa using h2,h3⟩
theorem lB(qQ:o.guard=none)(s x:Operand)
  (ho:o.op= .call {callee:= .builtin .append,args:= #[s,x],argTypes:= #[151,151]})
  (base:Nat) (w:World) (v:Value) (l:List Sy) (hs:a.eval s=v) (aD:ev base w v l) (hh c:Nat) (y:Sy) (hx:a.eval x= .slice (some ⟨hh,0,none⟩) 1 c)
  (hc:w.heap[hh]? =some (.cells (bB [y]).toArray 158 (0,0))) (hl:l.length≤1000000) (aT:base≤w.heap.size)
  (h: ∀v' w',ev base w' v' (l++[y])→w.grownBy w' v.ownBlock→wpList prog ops Q rest (a.put o.dst v') w'):wpList prog ops Q (o::rest) a w:=by
 refine wpList_plain qQ fun K hK=> ?_;obtain⟨v',w',hr,h2,h3⟩:=yK o.type base w v l aD hh c y hc hl aT;unfold Oper.wp execOp;simp only[ho,resolve,invoke,builtin,Sem.run_bind,Sem.run_pure,Result.andThen_ok,List.map_toArray,List.map_cons,List.map_nil,hs,hx,hr];exact hK _ _ (h v' w' h2 h3)
theorem ev.form{l:List Sy}(h:ev base w v l):
  ∃A cap,v= .slice A l.length cap∧l.length≤cap∧cap≤9223372036854775807∧ ∀i (h:i<l.length),∃g,A=some ⟨g,0,none⟩∧g<w.heap.size∧w.cell? ⟨g,5*i,none⟩=some (.int .i64 (l[i].k:Nat))∧w.cell? ⟨g,5*i+1,none⟩=some (.int .u8 (l[i].b.toNat:Nat))∧
   w.cell? ⟨g,5*i+2,none⟩=some (.int .i64 (l[i].l:Nat))∧w.cell? ⟨g,5*i+3,none⟩=some (.int .i64 (l[i].d:Nat))∧w.cell? ⟨g,5*i+4,none⟩=some (.int .i64 (l[i].r:Nat)):=by
 by_cases hl:0<l.length;·obtain⟨g,cap,rfl,hg,hc,hm,bx⟩:=h.read hl;exact⟨_,cap,rfl,hc,hm,fun i hi=>⟨g,rfl,hg,bx i hi⟩⟩
 ·rcases h with⟨_,⟨rfl,h3⟩ | ⟨g,cap,cur,rfl,h3,h4,h5,h6,_⟩⟩
  ·exact⟨none,0,by rw[h3],aa,an,fun i hi=>aa⟩
  ·exact⟨_,cap,rfl,h5,AQ,fun i hi=>aa⟩
section
open Go.Shelf
def rA:Go.Shelf.Ren:=⟨fun | 128=>238 | n=>n,fun | 51=>24 | 3=>3 | 4=>4 | 46=>123 | 5=>5 | 9=>9 | n=>n,fun | n=>n⟩
theorem yN:Go.Proofs.Lays.n128 prog rA:={
 mixed:=ak
 f128:=func238.trans (congrArg some ak)
 t3:=underlying3
 a3:=isAgg3
 z3:=sizeOf3
 v3:=zeroValue3
 t4:=underlying4
 a4:=isAgg4
 z4:=sizeOf4
 v4:=zeroValue4
 t5:=underlying5
 a5:=isAgg5
 z5:=sizeOf5
 v5:=zeroValue5
 t9:=underlying9
 a9:=isAgg9
 z9:=sizeOf9
 v9:=zeroValue9
 t46:=underlying123
 a46:=isAgg123
 z46:=sizeOf123
 v46:=zeroValue123
 t51:=underlying24
 a51:=isAgg24
 z51:=sizeOf24
 v51:=zeroValue24}
theorem ti(x:Int)(w:World)(h0:0≤x)(h1:x≤4294967295):
  Calls prog 238 #[.int .u32 x] w fun e w'=>e= .returned (.int .i64 (Lib.bitLen x.toNat))∧w'=w:=Any.bits_Len32 yN x w h0 h1
def rB:Go.Shelf.Ren:=⟨fun | 115=>36 | n=>n,fun | 37=>22 | 4=>4 | 9=>9 | 5=>5 | n=>n,fun | n=>n⟩
theorem yO:Go.Proofs.Lays.n115 prog rB:={
 mixed:=ak
 f115:=func36.trans (congrArg some ak)
 t4:=underlying4
 a4:=isAgg4
 z4:=sizeOf4
 v4:=zeroValue4
 t9:=underlying9
 a9:=isAgg9
 z9:=sizeOf9
 v9:=zeroValue9
 t37:=underlying22
 a37:=isAgg22
 z37:=sizeOf22
 v37:=zeroValue22}
open Go.Proofs Go.RowKit Go.Lib in
theorem mo(v1 v2:Value)(t1 t2:ByteArray)(w:World)(h1:(convert 22 9 v1).run prog w= .ok (.string t1) w)(h2:(convert 22 9 v2).run prog w= .ok (.string t2) w):
  Calls prog 36 #[v1,v2] w fun e w'=>e= .returned (.bool (t1.toList==t2.toList))∧w'=w:=Any.bytes_Equal_strs yO v1 v2 t1 t2 w h1 h2
def pt:Go.Shelf.Ren:=⟨fun | 14=>19 | 15=>48 | n=>n,fun | 26=>55 | 22=>22 | 3=>3 | 4=>4 | 0=>0 | 9=>9 | 20=>20 | 5=>5 | n=>n,fun | n=>n⟩
theorem uE:Go.Proofs.SlLaysJ.n14 prog pt:={
 mixed:=ak
 f14:=func19.trans (congrArg some ak)
 f15:=func48.trans (congrArg some ak)
 t0:=underlying0
 a0:=isAgg0
 z0:=sizeOf0
 v0:=zeroValue0
 t3:=underlying3
 a3:=isAgg3
 z3:=sizeOf3
 v3:=zeroValue3
 t4:=underlying4
 a4:=isAgg4
 z4:=sizeOf4
 v4:=zeroValue4
 t9:=underlying9
 a9:=isAgg9
 z9:=sizeOf9
 v9:=zeroValue9
 t20:=underlying20
 a20:=isAgg20
 z20:=sizeOf20
 v20:=zeroValue20
 t22:=underlying22
 a22:=isAgg22
 z22:=sizeOf22
 v22:=zeroValue22
 t26:=underlying55
 a26:=isAgg55
 z26:=sizeOf55
 v26:=zeroValue55
 t5:=underlying5
 z5:=sizeOf5
 i5:=ak}
open Go.RowKit Go.Lib in
theorem nk(b o n c:Nat)(vs:List Value)(ls:List (List UInt8))(sv:Value)(sep:List UInt8)(w:World)(hn:ls.length=n)(h2:2≤n)(hP:Lib.PartsAt w ⟨b,o,none⟩ vs ls)(DO:n≤c)(hS:Lib.HoldsBytes w sv sep)(aiz:n≤140737488355328)(hlen:Lib.lens ls+sep.length*(n-1)≤140737488355328):
  Calls prog 19 #[.slice (some ⟨b,o,none⟩) n c,sv] w fun e w'=> ∃v',e= .returned v'∧Lib.FreshBytes w.heap.size w' v' (Lib.join ls sep)∧Below w.heap.size w w':=Any.bytes_Join_many uE b o n c vs ls sv sep w hn h2 hP DO hS aiz hlen
end
end Go.Proofs.YtgfpocdiojifoaaGreatDoor
