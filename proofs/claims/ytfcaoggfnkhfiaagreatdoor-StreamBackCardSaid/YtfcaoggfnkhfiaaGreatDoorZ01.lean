import Derived.Test.YtfcaoggfnkhfiaaGreatDoorRows
import Derived.WalkKit
import Derived.WalkSpells
import Derived.WalkLawsBesides
import Derived.Lib.Hide
import Derived.Deep.QuietTactic
import Derived.BigQuiet
import Derived.Deep.OwnRows
import Derived.Deep.WholeRow
import Derived.Deep.MidRow
import Derived.Deep.AppendLies
import Derived.Maps.AppendAt
import Derived.Laws.CopyOwn
import Derived.Lib.SlBytesConst
import Derived.Laws.BytesArg
import Derived.ProofKit
import Derived.Deep.RegionLaw
import Derived.Deep.RegionHeld3
import Derived.Shelf.Small.Bits
import Derived.Shelf.Bytes.SlSearch0
import Derived.Ground.SlbNamesProg
import Derived.Shelf.Bytes.SlJoin
import Derived.Shelf.Bytes.SlEqualAll
import Derived.Shelf.Bytes.Small
import Derived.Deep.RegionHeld
import Derived.KernelRfl
import Derived.Walk
namespace Go.Proofs.YtfcaoggfnkhfiaaGreatDoor
set_option maxRecDepth 100000
set_option maxHeartbeats 8000000
open Go.RowKit Go.Proofs.Tryz
variable{a a':Act}{l' listed:Array Bool}{ops:Array Oper}{Q:Exit→Act→World→Prop}{rest:List Oper}{l:List UInt8}{L:List Value}{B b base bytes fuel g:Nat}{o oi:Oper}{A:Option Addr}{P:Program}{p q:Prop}{md:Region.Mode}{t ts:TypeId}{v z:Value}{w w':World}{S:World→Prop}
theorem ex{α:Type}(a:α): ∃b,a=b:=⟨a,rfl⟩
theorem ae(h:p):Hid p:=Lib.hid h
theorem aM{Qv:World}(h:Below w.heap.size w w')(k:Below w'.heap.size w' Qv):Below w.heap.size w Qv:=h.trans (k.mono h.size)
theorem cr{o:Obj}(h:w.heap[b]? =some o):b<w.heap.size:=(Array.getElem?_eq_some_iff.1 h).1
theorem ar{o:Obj}:Below w.heap.size w (w.alloc o):=(Below.refl _ _).alloc (Nat.le_refl _) _
theorem atl{j:Nat}{cs:Array Value}{f:Nat×Nat}{v:Option Value}(h:w.heap[g]? =some (.cells cs t f))(e:cs[j]? =v:=by rfl):w.cell? ⟨g,j,none⟩=v:=(cell_of_row w g j cs t f h).trans e
theorem dM(h:q)(e:p=q:=by (try simp only[Act.put,List.setIfInBounds_toArray,List.set_cons_zero,List.set_cons_succ]);rfl):p:=Eq.mpr e h
theorem am(x:q)(h:q→p:=by intro _;omega):p:=h x
theorem ag(h:p:=by simp):p:=h
theorem aa(h:p:=by omega):p:=h
theorem ai(h:p:=by kernel_rfl):p:=h
theorem ml(h:p:=by unfold Addr.add;split<;>simp_all):p:=h
theorem ak(h:p:=by decide):p:=h
theorem fF(h:p:=by unfold maxLen;omega):p:=h
theorem xr(h:p:=by simpa using hk):p:=h
theorem av(h:p:=by simp;omega):p:=h
theorem iR(h:p:=by cases h):p:=h
theorem ow(h:p:=by rw[h2];rfl):p:=h
theorem xt(h:p:=by unfold maxLen at h6;exact h6):p:=h
theorem kJ(h:p:=by simpa using h):p:=h
theorem rf(h:p:=by simpa using hm):p:=h
theorem aE(h:p:=by go_num):p:=h
theorem ox(h:p:=by rw[cell_of_row _ _ _ _ _ _ h];rfl):p:=h
theorem Ij(h:p:=by rw[cell_of_row _ _ _ _ _ _ hT.ay];rfl):p:=h
theorem dD(h:p:=by simp[h]):p:=h
theorem CS(h:p:=by show 16777216≤rh*256^1;have:8388608≤rh:=hhr;omega):p:=h
theorem eE(h:p:=by rw[IntKind.wrap_u32];omega):p:=h
theorem akx(h:p:=by intro i hi;simp at hi;rcases hi with rfl | rfl;exact .inl (by simp);rcases mU with h | h;exact .inl (by simp[h]);exact .inr h):p:=h
theorem Ik(h:p:=by intro i hi;simp at hi;exact .inl (by simp[hi])):p:=h
theorem CT(h:p:=by simp at e;rw[←e];exact hi):p:=h
theorem tY(h:p:=by simp[Region.wanted,mb]):p:=h
theorem CU(h:p:=by simp;exact fun e=>HM.out.ne e.symm):p:=h
theorem Il(h:p:=by intro v hv;simp at hv;rcases hv with rfl | rfl | rfl<;>rfl):p:=h
theorem xu(h:p:=by rw[BitVec.toNat_ofInt];omega):p:=h
theorem oy(h:p:=by unfold wrap64;omega):p:=h
theorem CV(h:p:=by rw[←Nat.pow_succ];congr 1;omega):p:=h
theorem lS(h:p:=by simp[intOf]<;>omega):p:=h
theorem aky(h:p:=by rw[←fv];exact(ar).alloc (by simp) _):p:=h
theorem akz(h:p:=by have:=fG.out C (by simp);have:=iN.out;omega):p:=h
theorem CW(h:p:=by have:=fG.out _ h;have:=iN.out;omega):p:=h
theorem oz(h:p:=by have:=(cr qC.out);exact this):p:=h
theorem xv(h:p:=by rw[cell_of_row x6 _ _ _ _ _ mm];rfl):p:=h
theorem xw(h:p:=by rw[cell_of_row x5 _ _ _ _ _ mm];rfl):p:=h
theorem lT(h:p:=by rw[cell_of_row x7 _ _ _ _ _ mm];rfl):p:=h
theorem akA(h:p:=by rw[←HQ.out];have:=Vx.out;exact⟨by omega,by omega,by omega,by omega,Wj.out⟩):p:=h
theorem xy(h:p:=by rw[cell_of_row wr _ _ _ _ _ mm];rfl):p:=h
theorem oA(h:p:=by have:=a7.out;have:=BJ.out;omega):p:=h
theorem oB(h:p:=by have:=dW.out;have:=BJ.out;omega):p:=h
theorem gW(h:p:=by rw[cell_of_row x9 _ _ _ _ _ mm];rfl):p:=h
theorem Im(h:p:=by simp[results,Tryz.results195,go_sem,z0,z1,z2,z3,z4]):p:=h
theorem iZ(h:p:=by simpa using hi):p:=h
theorem akB(h:p:=by have q:=IntWalk.i64_in (4*(k:Int)) (by omega);go_simp;all_goals(with_reducible rfl)):p:=h
theorem akC(h:p:=by have q0:(0:Int)≤(k:Int):=(by omega);have q1:(k:Int)<64:=(by omega);go_simp;all_goals(with_reducible rfl)):p:=h
theorem ri(h:p:=by rw[Ip];rfl):p:=h
theorem mV(h:p:=by rw[List.length_take];omega):p:=h
theorem Iq(h:p:=by rw[←BK,List.length_take];omega):p:=h
theorem CX(h:p:=by rw[List.length_map,i9]):p:=h
theorem akD(h:p:=by rw[←ht,List.take_of_length_le (by simp;omega)]):p:=h
theorem mW(h:p:=by rw[oC];omega):p:=h
theorem CY(h:p:=by rw[←fv];exact ar):p:=h
theorem akE(h:p:=by rw[←HR.out];exact decide_eq_false (by omega)):p:=h
theorem ja(h:p:=by rw[E6.out];rfl):p:=h
theorem xz(h:p:=by rw[←fv];simp):p:=h
theorem mX(h:p:=by rw[cell_of_row W _ _ _ _ _ aP];rfl):p:=h
theorem CZ(h:p:=by rw[←fv];exact hIa _ _ _ (hIa _ _ _ h0)):p:=h
theorem Ir(h:p:=by have:=run_endLoop (P:=P) hl (by rw[iO];simp);rw[iO]at this;exact this):p:=h
theorem jb(h:p:=by simp[intOf];omega):p:=h
theorem C0(h:p:=by rw[←mc];exact ar):p:=h
theorem C1(h:p:=by rw[beq_eq_false_iff_ne];omega):p:=h
theorem tZ(h:p:=by cases e;omega):p:=h
theorem C4(h:p:=by simp[Value.ownBlock]):p:=h
theorem gw(h:p:=by cases e):p:=h
theorem xA(h:p:=by injection e with e;omega):p:=h
theorem Iu(h:p:=by intro u hu;simp at hu;subst hu;rfl):p:=h
theorem C5(h:p:=by rw[←mc];exact heap_alloc_last _ _):p:=h
theorem C6(h:p:=by rw[cell_of_row W3 _ _ _ _ _ Wk];rfl):p:=h
theorem C7(h:p:=by rw[cell_of_row W4 _ _ _ _ _ ad1];rfl):p:=h
theorem t6(h:p:=by rw[cell_of_row W2 _ _ _ _ _ kL];rfl):p:=h
theorem C8(h:p:=by subst e;exact heap_alloc_last W o):p:=h
theorem xB(h:p:=by rw[cell_of_row w4 _ _ _ _ _ aP];rfl):p:=h
theorem gX(h:p:=by rw[cell_of_row w4 _ _ _ _ _ E7.out];rfl):p:=h
theorem eF(h:p:=by rw[cell_of_row w4 _ _ _ _ _ HZ.out];rfl):p:=h
theorem xC(h:p:=by simp[results,Tryz.results193,go_sem,z0,z1,z2,z3]):p:=h
theorem C9(h:p:=by rw[HS.out,HU.out,if_pos aH]):p:=h
theorem jK(h:p:=by rw[t7.out]):p:=h
theorem oF(h:p:=by simp[intOf]):p:=h
theorem Da(h:p:=by rw[HS.out,HU.out,if_neg aH]):p:=h
theorem oG(h:p:=by rw[Ht.out];simp[results,Tryz.results189,go_sem,Sy.val,z0,z1,z2,z3,z4]):p:=h
theorem Iv(h:p:=by rw[t7.out,if_neg cC,if_pos cU]):p:=h
theorem xD(h:p:=by rw[cell_of_row w4 _ _ _ _ _ vj];rfl):p:=h
theorem rj(h:p:=by rw[cell_of_row w _ _ _ _ _ h];rfl):p:=h
theorem Qw(h:p:=by rw[Vy.out.2];have:=HL.out;rw[List.length_append,qD.out];simp;omega):p:=h
theorem Iw(h:p:=by first | exact(HOS.out.weaken g14.size).below (ar) | exact((((HOS.out.set oH.out.2 _).set oH.out.2 _).set oH.out.2 _).set oH.out.2 _).weaken gA.size | exact((((HOS.out.set (Nat.lt_of_lt_of_le oH.out.2 Iy.out.size) _).set (Nat.lt_of_lt_of_le oH.out.2 Iy.out.size) _).set (Nat.lt_of_lt_of_le oH.out.2 Iy.out.size) _).set (Nat.lt_of_lt_of_le oH.out.2 Iy.out.size) _).weaken g14.size):p:=h
theorem Iz(h:p:=by first | exact fy.out.alloc fy.out.size _ | exact((((fy.out.setCell oH.out.1 _).setCell oH.out.1 _).setCell oH.out.1 _).setCell oH.out.1 _)):p:=h
theorem oI(h:p:=by rw[cell_of_row t8 _ _ _ _ _ kv];rfl):p:=h
theorem xE(h:p:=by rw[cell_of_row W _ _ _ _ _ hr];rfl):p:=h
theorem Qx(h:p:=by simp only[List.mem_cons,List.not_mem_nil,or_false]at hi;simp[hi]):p:=h
theorem ua(h:p:=by show w.heap.size≤w.heap.size+1;omega):p:=h
theorem IA(h:p:=by show w.heap.size≤w.heap.size+1+1;omega):p:=h
theorem akF(h:p:=by have:=Nat.pow_le_pow_right (n:=2) (by omega) (show 32≤j by omega);omega):p:=h
theorem Db(h:p:=by rw[IntKind.wrap_u8'];omega):p:=h
theorem rk(h:p:=by assumption):p:=h
theorem akG(h:p:=by rw[wK _ _ (by omega)];omega):p:=h
theorem jL(h:p:=by rw[List.length_drop];omega):p:=h
theorem rm(h:p:=by decide+kernel):p:=h
theorem Dc(h:p:=by rw[UInt8.toNat_ofNat'];omega):p:=h
theorem oJ(h:p:=by simp[li]):p:=h
theorem ka(h:p:=by simp[results,Tryz.results246,go_sem]):p:=h
theorem kb(h:p:=by rw[HE.out];rfl):p:=h
theorem ez(h:p:=by rw[HF.out];rfl):p:=h
theorem wL(h:p:=by rw[IntKind.wrap_u8];omega):p:=h
theorem sm(h:p:=by simp only[List.length_append];omega):p:=h
theorem pN(h:p:=by unfold aO;omega):p:=h
theorem ly(h:p:=by have k:=hSw.1.cell;go_simp;all_goals(with_reducible rfl)):p:=h
theorem aiW(h:p:=by rw[←hR];exact decide_eq_false (by omega)):p:=h
theorem wM(h:p:=by rw[←ht];exact sq _ _):p:=h
theorem aiX(h:p:=by have h:=ZD.out.cutFrom (k:=2) (c:=c1) (by have:=xF.out;simp;omega) (by have:=P7.out;have:=xF.out;simp;omega);rw[if_neg wj]at h;exact h):p:=h
theorem Dd(h:p:=by have:=P7.out;have:=xF.out;simp;omega):p:=h
theorem aiY(h:p:=by rw[Int.tmod_eq_emod_of_nonneg (by omega),IntKind.wrap_u8];omega):p:=h
theorem kd(h:p:=by rw[xG];rfl):p:=h
theorem K5(h:p:=by rw[←hc];unfold ro;rw[if_neg h0,if_neg (by rw[Qy];decide),eQ];rfl):p:=h
theorem Df(h:p:=by rw[hg,UInt8.toNat_ofNat'];omega):p:=h
theorem pP(h:p:=by show bo≤w.heap.size;omega):p:=h
theorem pQ(h:p:=by simp[results,Tryz.results215,go_sem,k0,k1]):p:=h
theorem pR(h:p:=by show bo+1≤w.heap.size;omega):p:=h
theorem K6(h:p:=by obtain⟨i1,i2,i3⟩:=HC.out;go_simp;all_goals(with_reducible rfl)):p:=h
theorem wN(h:p:=by simp[results,Tryz.results180,go_sem,k0,k1,k2,k3]):p:=h
theorem K7(h:p:=by obtain⟨i1,i2,i3,i4,i5,i6,i7⟩:=HC.out;go_simp;all_goals(with_reducible rfl)):p:=h
theorem pS(h:p:=by simp[results,Tryz.results137,go_sem,k0,k1,k2,k3]):p:=h
theorem wO(h:p:=by show w.heap.size≤w3.heap.size;omega):p:=h
theorem aiZ(h:p:=by rw[Nat.div_lt_iff_lt_mul (by omega)];rw[Nat.pow_succ]at hm;exact hm):p:=h
theorem K8(h:p:=by unfold di aO;rw[List.length_append,List.length_replicate];omega):p:=h
theorem pT(h:p:=by rw[cell_of_row W _ _ _ _ _ h];rfl):p:=h
theorem K9(h:p:=by have h1:=H10.out.2.2.1;have h2:=AG.out;have h3:=wl.out.size;omega):p:=h
theorem Dg(h:p:=by simp[results,Tryz.results65,go_sem,e0,e1]):p:=h
theorem sr(h:p:=by rw[List.length_replicate]):p:=h
theorem ai0(h:p:=by rw[HKL.out (by omega)];exact .nil):p:=h
theorem La(h:p:=by obtain⟨qE,IB,wP,ZE,hac,Wl,htc,hpt⟩:=HC.out;go_simp;all_goals(with_reducible rfl)):p:=h
theorem wQ(h:p:=by rw[HF.out];exact dz.nil _ _ _):p:=h
theorem Dh(h:p:=by injection Wm with e1 e2 e3;exact⟨e1,e3⟩):p:=h
theorem Lc(h:p:=by rw[cell_of_row _ _ _ _ _ _ ((ah _ _ _ _ (by show W1.heap.size≠n;omega)).trans hq4.2.2)];rfl):p:=h
theorem wR(h:p:=by rw[cell_of_row _ _ _ _ _ _ AJ];rfl):p:=h
theorem ai2(h:p:=by have i2:(2:Int)≤(c:Int):=(by omega);have i4:(4:Int)≤(c:Int):=(by omega);have i6:(6:Int)≤(c:Int):=(by omega);have i8:(8:Int)≤(c:Int):=(by omega);have E8:(10:Int)≤(c:Int):=(by omega);have n2: ¬c=2:=(am HK.out);have n4: ¬c=4:=(am HK.out);have n6: ¬c=6:=(am HK.out);have n8: ¬c=8:=(am HK.out);have Fa: ¬c=10:=(am HK.out);go_simp;all_goals(with_reducible rfl)):p:=h
theorem ai3(h:p:=by have i4:(4:Int)<(l.length:Int):=(by omega);have i5:(5:Int)<(l.length:Int):=(by omega);have i6:(6:Int)<(l.length:Int):=(by omega);have i7:(7:Int)<(l.length:Int):=(by omega);go_simp;all_goals(with_reducible rfl)):p:=h
theorem Ld(h:p:=by show _=Ending.returned (.tuple #[.slice A3 (out++D).length c3,.int .i64 0]);rw[List.length_append];rfl):p:=h
abbrev B8(b:UInt8):Value:= .int .u8 (b.toNat:Nat)
def Bytes(w:World)(A:Option Addr)(l:List UInt8):Prop:=
 l=[]∨ ∃b off,A=some ⟨b,off,none⟩∧b<w.heap.size∧ ∀k (h:k<l.length),w.cell? ⟨b,off+k,none⟩=some (.int .u8 (l[k].toNat:Nat))
theorem Bytes.aA(h:Bytes w A l)(hs:w.heap.size≤w'.heap.size)(hc: ∀p:Addr,A.map (·.block)=some p.block→p.block<w.heap.size→w'.cell? p=w.cell? p):Bytes w' A l:=by
 rcases h with h | ⟨b,off,rfl,aH,hcell⟩
 ·exact .inl h
 ·exact .inr ⟨b,off,rfl,Nat.lt_of_lt_of_le aH hs,fun k hk=>(hc ⟨b,off+k,none⟩ rfl aH).trans (hcell k hk)⟩
theorem Bytes.below(h:Bytes w A l)(hb:Below w.heap.size w w'):Bytes w' A l:=
 h.aA hb.size fun _ _ hp=>hb.cell hp
theorem Bytes.drewN(h:Bytes w A l)(n:Nat):Bytes (w.drewN n) A l:=h
theorem Bytes.drew(h:Bytes w A l):Bytes w.drew A l:=h
theorem Bytes.alloc(h:Bytes w A l)(o:Obj):Bytes (w.alloc o) A l:=h.below (ar)
theorem Bytes.nil:Bytes w A []:= .inl rfl
theorem Bytes.addr(h:Bytes w A l)(hl:0<l.length): ∃b off,A=some ⟨b,off,none⟩∧b<w.heap.size∧ ∀k (h:k<l.length),w.cell? ⟨b,off+k,none⟩=some (.int .u8 (l[k].toNat:Nat)):=by
 rcases h with rfl | h;·simp at hl
 ·exact h
theorem Bytes.drop{off:Nat}(j:Nat)(h:Bytes w (some ⟨b,off,none⟩) l):Bytes w (some ⟨b,off+j,none⟩) (l.drop j):=by
 rcases h with rfl | ⟨b',akH,e,aH,hc⟩
 ·exact .inl ag
 ·injection e with e;injection e with e1 e2;subst e1;subst e2;refine .inr ⟨_,_,rfl,aH,fun k hk=> ?_⟩;have O_:j+k<l.length:=by simp at hk;omega
  have:=hc (j+k) O_;rw[List.getElem_drop,Nat.add_assoc];exact this
theorem Bytes.take(j:Nat)(h:Bytes w A l):Bytes w A (l.take j):=by
 rcases h with rfl | ⟨b,off,rfl,aH,hc⟩
 ·exact .inl ag
 ·refine .inr ⟨_,_,rfl,aH,fun k hk=> ?_⟩;have O_:k<l.length:=by simp at hk;omega
  rw[List.getElem_take];exact hc k O_
theorem Bytes.cutFrom(h:Bytes w A l){k c:Nat}(hk:k≤l.length)(hc:l.length≤c):Bytes w (if c=k then A else A.map (·.add k)) (l.drop k):=by
 by_cases tR:c=k;·exact .inl (List.drop_eq_nil_of_le aa)
 ·rw[if_neg tR];rcases h with rfl | ⟨b,off,rfl,aH,hcell⟩
  ·exact .inl ag
  ·have e:(Option.some (⟨b,off,none⟩:Addr)).map (·.add k)=Option.some ⟨b,off+k,none⟩:=(by simp only[Option.map];unfold Addr.add;split<;>simp_all);rw[e];exact Bytes.drop k (.inr ⟨b,off,rfl,aH,hcell⟩)
theorem below_drewN{a:World}(h:Below B a w)(n:Nat):Below B a (w.drewN n):=⟨h.os,h.tape,h.output,h.size,h.block⟩
theorem ao{a:World}(h:Below B a w){row:Option Nat}(hg:w.grownBy w' row)(hB:B≤w.heap.size)(hr: ∀g,row=some g→B≤g):Below B a w':=
 ⟨hg.os.trans h.os,hg.tape.trans h.tape,hg.output.trans h.output,Nat.le_trans h.size hg.size,fun i hi=>(hg.block i aa (fun e=>am (hr i e.symm))).trans (h.block i hi)⟩
def Own(base:Nat)(w:World)(v:Value)(l:List UInt8):Prop:=w.ownsRow base 5 1 v l.length (l.map B8)
theorem Own.nil(base:Nat)(w:World):Own base w (.slice none 0 0) []:=World.ownsRow_nil w base _ 1
theorem Own.alloc(h:Own base w v l)(o:Obj):Own base (w.alloc o) v l:=World.ownsRow.alloc h o
theorem Own.drew(h:Own base w v l):Own base w.drew v l:=h
theorem Own.below(h:Own base w v l)(hb:Below w.heap.size w w'):Own base w' v l:=by
 rcases h with⟨h1,h2 | ⟨g,cap,cur,h2,h3,h4,h5⟩⟩
 ·exact⟨h1,.inl h2⟩
 ·refine⟨h1,.inr ⟨g,cap,cur,h2,h3,(hb.block g ?_).trans h4,h5⟩⟩;rcases Nat.lt_or_ge g w.heap.size with h | h;·exact h
  ·rw[Array.getElem?_eq_none h]at h4;cases h4
theorem Own.read(h:Own base w v l): ∃A c,v= .slice A l.length c∧l.length≤c∧c≤9223372036854775807∧Bytes w A l:=by
 rcases h with⟨h1,⟨rfl,h0⟩ | ⟨g,cap,cur,rfl,hb,hg,MG,qn,dl,xH⟩⟩
 ·have:l=[]:=List.eq_nil_of_length_eq_zero h0;subst this;exact⟨none,0,rfl,ag,aa,.nil⟩
 ·refine⟨_,cap,rfl,MG,by unfold maxLen at qn;exact qn,?_⟩;refine .inr ⟨g,0,rfl,?_,fun k hk=> ?_⟩
  ·rcases Nat.lt_or_ge g w.heap.size with h | h;·exact h
   ·rw[Array.getElem?_eq_none h]at hg;cases hg
  ·rw[cell_of_row w g _ cur _ _ hg,Nat.zero_add];have h2:=congrArg (fun x:List Value=>x[k]?) xH;simp only[List.getElem?_take,Nat.mul_one,hk,if_true,List.getElem?_map]at h2;rw[List.getElem?_eq_getElem hk]at h2;simpa using h2
theorem Own.ax(h:Own base w v l): ∀g,v.ownBlock=Option.some g→base≤g∧g<w.heap.size:=World.ownsRow.lt h
theorem Own.lit(w:World)(l:List UInt8)(hb:base≤w.heap.size)(hm:l.length≤9223372036854775807):Own base (w.alloc (.cells (l.map B8).toArray 5)) (.slice (Option.some ⟨w.heap.size,0,none⟩) l.length l.length) l:=by have:=World.ownsRow_lit (base:=base) (e:=5) (size:=1) w (l.map B8).toArray l.length hb (by unfold maxLen;exact hm) ag;simpa [Own]using this
theorem oK:(prog.info? 5).map (fun i=>(i.zero,i.size,i.bytes))=some (some (.int .u8 0),1,1):=ai
theorem lU(l:List UInt8): ∀u∈l.map B8,u.oneCell'=true:=by intro u hu;rw[List.mem_map]at hu;obtain⟨b,_,rfl⟩:=hu;rfl
theorem fT(base:Nat)(ty:TypeId)(w:World)(v:Value)(xs:List UInt8)(aK:Own base w v xs)(A:Option Addr)(l:List UInt8)(c:Nat)(hB:Bytes w A l)
  (dl:xs.length+l.length≤140737488355328) (bR:base≤w.heap.size):
  ∃v' w',(Builtin.append_ #[22,22] ty #[v,.slice A l.length c]).run prog w= .ok v' w'∧Own base w' v' (xs++l)∧w.grownBy w' v.ownBlock:=by
 obtain⟨i,hi,kw,eQ,oC⟩:=info_parts oK;cases A with
 | none=>
  have hl:l=[]:=by
   rcases hB with h | ⟨_,_,h,_⟩
   ·exact h
   ·cases h
  subst hl;refine⟨v,w,?_,by simpa using aK,World.grownBy.refl w _⟩;rcases aK.2 with⟨rfl,h0⟩ | ⟨g,cap,cur,rfl,_,_,MG,_⟩
  ·simp[Builtin.append_,run_underlying underlying22,sizeOf,typeInfo,hi,Builtin.lenOf,Builtin.firstCells]
  ·simp[Builtin.append_,run_underlying underlying22,sizeOf,typeInfo,hi,Builtin.lenOf,Builtin.firstCells,MG,storeCells]
 | some ad=>
  have vk: ∀j u,(l.map B8)[j]? =some u→w.cell? (ad.add j)=some u:=by
   intro j u hu;rw[List.getElem?_map]at hu;by_cases hj:j<l.length;·obtain⟨b,off,e,_,hcell⟩:=hB.addr aa;injection e with e;subst e;rw[List.getElem?_eq_getElem hj]at hu;rw[show(⟨b,off,none⟩:Addr).add j=⟨b,off+j,none⟩from ml,hcell j hj];simpa using hu
   ·rw[List.getElem?_eq_none aa]at hu;simp at hu
  obtain⟨v',w',hr,h2,h3,_⟩:=run_append_own (P:=prog) w base 22 ty 5 i (.int .u8 0) 1 1 underlying22 hi kw eQ oC rfl ak
   v xs.length (xs.map B8) aK ad l.length c (l.map B8) ag vk (lU l) fF aa bR
  exact⟨v',w',hr,by simpa [Own]using h2,h3⟩
theorem ap(mb:o.guard=none)(s x:Operand)
  (ho:o.op= .call {callee:= .builtin .append,args:= #[s,x],argTypes:= #[22,22]})
  (base:Nat) (w:World) (v:Value) (xs:List UInt8) (hs:a.eval s=v) (aK:Own base w v xs) (A:Option Addr) (l:List UInt8) (c:Nat) (hx:a.eval x= .slice A l.length c) (hB:Bytes w A l)
  (dl:xs.length+l.length≤140737488355328) (bR:base≤w.heap.size)
  (h: ∀v' w',Own base w' v' (xs++l)→w.grownBy w' v.ownBlock→wpList prog ops Q rest (a.put o.dst v') w'):wpList prog ops Q (o::rest) a w:=by
 refine wpList_plain mb fun K hK=> ?_;obtain⟨v',w',hr,h2,h3⟩:=fT base o.type w v xs aK A l c hB dl bR;unfold Oper.wp execOp;simp only[ho,resolve,invoke,builtin,Sem.run_bind,Sem.run_pure,Result.andThen_ok,List.map_toArray,List.map_cons,List.map_nil,hs,hx,hr];exact hK _ _ (h v' w' h2 h3)
theorem lz(hB:Bytes w A l)(c:Nat):(convert 22 9 (.slice A l.length c)).run prog w= .ok (.string ⟨l.toArray⟩) w:=by
 cases A with
 | none=>
  have hl:l=[]:=by
   rcases hB with h | ⟨_,_,h,_⟩
   ·exact h
   ·cases h
  subst hl;exact run_convert_bytes_nil w 22 5 underlying22 underlying5 0 c 9 underlying9
 | some ad=>
  have key: ∀b off,(∀k (h:k<l.length),w.cell? ⟨b,off+k,none⟩=some (.int .u8 (l[k].toNat:Nat)))→(convert 22 9 (.slice (some ⟨b,off,none⟩) l.length c)).run prog w= .ok (.string ⟨l.toArray⟩) w:=by
   intro b off hc;have h:=run_convert_bytes_arg (P:=prog) w 22 5 underlying22 underlying5 b off l.length c (l.map fun x=>(x.toNat:Int)) ag (fun i hi=>by
    rw[hc i hi];simp[List.getD,hi]) 9 underlying9
   rw[h];have e:strOfNums (l.map fun x=>(x.toNat:Int))=⟨l.toArray⟩:=by
    unfold strOfNums;congr 1;congr 1;rw[List.map_map];conv=>rhs;rw[←List.map_id l]
    apply List.map_congr_left;intro x _;simp
   rw[e]
  rcases hB with rfl | ⟨b,off,e,_,hc⟩
  ·have h:=run_convert_bytes_string (P:=prog) w 22 9 5 (some ad) 0 c underlying22 underlying5 underlying9;rw[List.length_nil,h];simp[Conv.bytesToString];rfl
  ·injection e with e;subst e;exact key b off hc
theorem Bytes.one(w:World)(x:UInt8):Bytes (w.alloc (.cells #[.int .u8 (x.toNat:Nat)] 5)) (some ⟨w.heap.size,0,none⟩) [x]:=by refine .inr ⟨_,_,rfl,ag,fun k hk=> ?_⟩;obtain rfl:k=0:=xr;rw[cell_of_row _ _ _ _ _ _ (heap_alloc_last _ _)];rfl
def Holds(w:World)(e:Ending)(w':World):Prop:=e= .returned (.bool true)∧Below w.heap.size w w'
section
open Go.ChangeShapes Go.WideShapes Go.ChangeAt Go.RowKit
theorem Tryz.own:ownKnob prog.godebug=none:=ai
theorem laidOut:laidOutB prog=true:=ai
theorem xI:prog.cellsOf 5=1:=ai
theorem IC{H:Type}{enc:TypeId×Value→H}{W:World}{b0:Nat}{v:Value}{d:DataW H}{p:List MemPlace}
  (hval:Value.okWide prog W .any b0 22 v) (h:DataW.Trod enc prog W 0 (fun _=>true) true 22 v d p):
  ∃(A:Option Addr) (l:List UInt8) (c:Nat),v= .slice A l.length c∧l.length≤c∧c≤9223372036854775807∧Bytes W A l:=by
 obtain⟨fuel,hf⟩:=h;obtain⟨a0,len,cap,rfl⟩:=okWide_slice underlying22 hval;rcases open_ints underlying22 underlying5 xI hf with⟨hcs,_⟩ | ⟨a,atm,dX,zs,hcs,_,hl,hm,hz,_,hcell,hwz⟩
 ·simp[Value.cells]at hcs;obtain⟨rfl,rfl,rfl⟩:=hcs;exact⟨none,[],0,rfl,ag,aa,.nil⟩
 ·simp[Value.cells]at hcs;obtain⟨rfl,rfl,rfl⟩:=hcs;simp only[if_true]at hz;unfold maxLen at hm;refine⟨some a,(zs.take len).map (fun n=>UInt8.ofNat n.toNat),cap,by rw[List.length_map,List.length_take,Nat.min_eq_left aa],av,hm,?_⟩;rcases Nat.eq_zero_or_pos len with h0 | AK;·subst h0;exact .inl ag
  ·obtain⟨b,off,spot⟩:=a;have Qz:spot=none:=(by simpa [Addr.add]using World.cell?_spot (hcell 0 aa));subst Qz;refine .inr ⟨b,off,rfl,?_,fun k hk=> ?_⟩;·have:=block_lt_of_cell (hcell 0 aa);simpa [Addr.add]using this
   ·have O_:k<len:=(by simp at hk;omega);have hc:=hcell k aa;have hw:=hwz (zs[k]'aa) (List.getElem_mem _);have hb:0≤zs[k]'aa∧zs[k]'aa<256:=(by have h1:IntKind.u8.min=0:=rfl;have h2:IntKind.u8.max=255:=rfl;simp[Lit.wf]at hw;omega);rw[show(⟨b,off,none⟩:Addr).add k=⟨b,off+k,none⟩from ml]at hc;rw[hc];have e:zs.getD k 0=zs[k]'aa:=(by simp[List.getD,show k<zs.length by omega]);rw[e,List.getElem_map,List.getElem_take];congr 2;rw[UInt8.toNat_ofNat'];omega
theorem vl{a:Int}(h:(Lit.int .i64 a).wf=true): -9223372036854775808≤a∧a≤9223372036854775807:=by have e1:IntKind.i64.min= -9223372036854775808:=rfl;have e2:IntKind.i64.max=9223372036854775807:=rfl;simp[Lit.wf]at h;omega
theorem P_{a:Int}(h:(Lit.int .u8 a).wf=true):a=((BitVec.ofNat 8 a.toNat).toNat:Int):=by have e1:IntKind.u8.min=0:=rfl;have e2:IntKind.u8.max=255:=rfl;simp[Lit.wf]at h;rw[BitVec.toNat_ofNat];omega
theorem Le{a:Int}(h:(Lit.int .u32 a).wf=true):a=((BitVec.ofNat 32 a.toNat).toNat:Int):=by have e1:IntKind.u32.min=0:=rfl;have e2:IntKind.u32.max=4294967295:=rfl;simp[Lit.wf]at h;rw[BitVec.toNat_ofNat];omega
theorem qF{H:Type}{enc:TypeId×Value→H}{W W':World}(hb:Below W.heap.size W W'): ∀{ts:List TypeId} {vs:List Value} {ds:List (DataW H)} {ps:List MemPlace},
  DataW.TrodAll enc prog W 0 (fun _=>true) true ts vs ds ps→(∀t∈ts,prog.readableRec t=true∧t<prog.types.size)→(∀x∈ps,x.block<W.heap.size)→
  DataW.TrodAll enc prog W' 0 (fun b=>decide (b<W.heap.size)) true ts vs ds ps
 | [],vs,ds,ps,h,_,_=>by obtain⟨rfl,rfl,rfl⟩:=trodAll_nil h;exact rfl
 | t::ts,vs,ds,ps,h,hr,aH=>by
  obtain⟨v,vs',d,ds',p,q,rfl,rfl,rfl,h1,h2⟩:=trodAll_cons h;have mf:=hr t ag
  exact⟨p,q,Below.trod laidOut mf.1 mf.2 h1 hb (fun x hx=>aH x (by simp[hx])),
   qF hb h2 (fun t ht=>hr t (by simp[ht])) (fun x hx=>aH x (by simp[hx])),rfl⟩
theorem QA{H:Type}{enc:TypeId×Value→H}{f:Func}{s:ChangeSpec}{W W':World}{args:Array Value}{ds:List (DataW H)}{before:List MemPlace}
  (hr:f.resultTypes= #[4]) (hvs:s.vars=[])
  (hW:DataW.Whole enc prog f.params.toList s.vars false W args.toList ds [] before)
  (gY:(s.fn H (ds++[])).results=[.lit (.bool true)]) (ZF:(s.fn H (ds++[])).args=ds) (ad5:(s.fn H (ds++[])).vars=[])
  (su: ∀t∈f.params.toList,prog.readableRec t=true∧t<prog.types.size)
  (hb:Below W.heap.size W W'):s.post enc prog f false true false false W args (.bool true) W':=by
 have aH:=hW.lt;have Fb:=hW;obtain⟨p,q,hA,hV,rfl,_,_⟩:=hW;rw[hvs]at hV;obtain⟨_,rfl⟩:=trodVars_none hV;refine⟨ds,[],_,[],p,[],Fb,?_,?_,?_,hb.frame _,fun h=>iR⟩;·rw[gY,hr];exact trodAll_mk1 (shut_bool underlying4 true)
 ·rw[ZF];exact qF hb hA su (fun x hx=>aH x (by simp[hx]))
 ·rw[hvs,ad5];rfl
end
def ey(t:TypeId)(base:Nat)(w:World)(v:Value)(l:List Value):Prop:=w.ownsRow base t 1 v l.length l
structure Elem(ts t:TypeId)(z:Value)(bytes:Nat):Prop where
 und:prog.underlying ts=some (.slice t)
 info:(prog.info? t).map (fun i=>(i.zero,i.size,i.bytes))=some (some z,1,bytes)
 one:z.cells.size=1
theorem ey.nil(t:TypeId)(base:Nat)(w:World):ey t base w (.slice none 0 0) []:=World.ownsRow_nil w base _ 1
theorem ey.aA{l:List Value}(h:ey t base w v l)(hb: ∀g,v.ownBlock=some g→w'.heap[g]? =w.heap[g]?):ey t base w' v l:=by
 rcases h with⟨h1,h2 | ⟨g,cap,cur,h2,h3,h4,h5⟩⟩
 ·exact⟨h1,.inl h2⟩
 ·exact⟨h1,.inr ⟨g,cap,cur,h2,h3,(hb g ow).trans h4,h5⟩⟩
theorem ey.lt{l:List Value}(h:ey t base w v l)(g:Nat)(hg:v.ownBlock=some g):base≤g∧g<w.heap.size:=World.ownsRow.lt h g hg
theorem ey.below{l:List Value}(h:ey t base w v l)(hb:Below w.heap.size w w'):ey t base w' v l:=h.aA fun g hg=>hb.block g (h.lt g hg).2
theorem ey.form{l:List Value}(h:ey t base w v l):
  (v= .slice none 0 0∧l=[])∨ ∃g cap,v= .slice (some ⟨g,0,none⟩) l.length cap∧base≤g∧g<w.heap.size∧l.length≤cap∧cap≤9223372036854775807∧ ∀i (h:i<l.length),w.cell? ⟨g,i,none⟩=some l[i]:=by
 have hc:=fun(g cap:Nat) (e:v= .slice (some ⟨g,0,none⟩) l.length cap) (i:Nat) (hi:i<l.length)=>World.ownsRow.cellAt (e▸h) i aa;rcases h with⟨h1,⟨h2,h3⟩ | ⟨g,cap,cur,h2,h3,h4,h5,h6,h7,h8⟩⟩
 ·exact .inl ⟨h2,List.eq_nil_of_length_eq_zero h3⟩
 ·refine .inr ⟨g,cap,h2,h3,?_,h5,xt,fun i hi=> ?_⟩
  ·rcases Nat.lt_or_ge g w.heap.size with h | h;·exact h
   ·rw[Array.getElem?_eq_none h]at h4;cases h4
  ·rw[hc g cap h2 i hi,List.getElem?_eq_getElem hi]
theorem ey.read{l:List Value}(h:ey t base w v l):
  ∃A c,v= .slice A l.length c∧l.length≤c∧c≤9223372036854775807∧(∀i (h:i<l.length),∃g,A=some ⟨g,0,none⟩∧w.cell? ⟨g,i,none⟩=some l[i]):=by
 rcases h.form with⟨rfl,rfl⟩ | ⟨g,cap,rfl,_,_,hc,hm,hcell⟩
 ·exact⟨none,0,rfl,ag,aa,fun i hi=>by simp at hi⟩
 ·exact⟨_,cap,rfl,hc,hm,fun i hi=>⟨g,rfl,hcell i hi⟩⟩
theorem ey.vn{l:List Value}(h:ey t base w v l)(hl:0<l.length):
  ∃g cap,v= .slice (some ⟨g,0,none⟩) l.length cap∧base≤g∧g<w.heap.size∧l.length≤cap∧cap≤9223372036854775807∧ ∀i (h:i<l.length),w.cell? ⟨g,i,none⟩=some l[i]:=by
 rcases h.form with⟨_,rfl⟩ | h;·simp at hl
 ·exact h
theorem nQ(hE:Elem ts t z bytes)(base:Nat)(ty:TypeId)(w:World)(v:Value)(l:List Value)(aK:ey t base w v l)(hh m c:Nat)(news:List Value)(hl:news.length=m)
  (hc: ∀i (h:i<news.length),w.cell? ⟨hh,i,none⟩=some news[i]) (h1: ∀u∈news,u.oneCell'=true) (dl:(l.length+m)*bytes≤140737488355328) (Fc:l.length+m≤140737488355328) (bR:base≤w.heap.size):
  ∃v' w',(Builtin.append_ #[ts,ts] ty #[v,.slice (some ⟨hh,0,none⟩) m c]).run prog w= .ok v' w'∧ey t base w' v' (l++news)∧w.grownBy w' v.ownBlock∧(v'.ownBlock=v.ownBlock∨v'.ownBlock=some w.heap.size):=by
 obtain⟨i,hi,kw,eQ,oC⟩:=info_parts hE.info
 obtain⟨v',w',hr,h2,h3,_,h5⟩:=run_append_own_at (P:=prog) w base ts ty t i z 1 bytes hE.und hi kw eQ oC hE.one ak
  v l.length l aK ⟨hh,0,none⟩ m c news aa (by
   intro j u hu;have hj:j<news.length:=by
    rcases Nat.lt_or_ge j news.length with h | h;·exact h
    ·rw[List.getElem?_eq_none h]at hu;cases hu
   have:=hc j hj;rw[List.getElem?_eq_getElem hj]at hu;injection hu with hu;rw[←hu,←this,show(⟨hh,0,none⟩:Addr).add j=⟨hh,j,none⟩from ml]) h1 fF dl bR
 exact⟨v',w',hr,by simpa [ey,hl]using h2,h3,h5⟩
theorem kM(hE:Elem ts t z bytes)(mb:o.guard=none)(s x:Operand)
  (ho:o.op= .call {callee:= .builtin .append,args:= #[s,x],argTypes:= #[ts,ts]})
  (base:Nat) (w:World) (v:Value) (l:List Value) (hs:a.eval s=v) (aK:ey t base w v l) (hh m c:Nat) (news:List Value) (hx:a.eval x= .slice (some ⟨hh,0,none⟩) m c) (hl:news.length=m)
  (hc: ∀i (h:i<news.length),w.cell? ⟨hh,i,none⟩=some news[i]) (h1: ∀u∈news,u.oneCell'=true) (dl:(l.length+m)*bytes≤140737488355328) (Fc:l.length+m≤140737488355328) (bR:base≤w.heap.size)
  (h: ∀v' w',ey t base w' v' (l++news)→w.grownBy w' v.ownBlock→(v'.ownBlock=v.ownBlock∨v'.ownBlock=some w.heap.size)→wpList prog ops Q rest (a.put o.dst v') w'):wpList prog ops Q (o::rest) a w:=by
 refine wpList_plain mb fun K hK=> ?_;obtain⟨v',w',hr,h2,h3,h4⟩:=nQ hE base o.type w v l aK hh m c news hl hc h1 dl Fc bR;unfold Oper.wp execOp;simp only[ho,resolve,invoke,builtin,Sem.run_bind,Sem.run_pure,Result.andThen_ok,List.map_toArray,List.map_cons,List.map_nil,hs,hx,hr];exact hK _ _ (h v' w' h2 h3 h4)
abbrev PF(F:Nat):Value:= .pointer (some ⟨F,0,none⟩)
theorem dj{d:List UInt8}{i:Nat}(h:i<d.length):d.getD i 0=d[i]:=by simp[List.getD,h]
theorem heap_set(h:w.heap[g]? =some (.cells L.toArray t (0,0)))(i:Nat)(v:Value):(w.setCell ⟨g,i,none⟩ v).heap[g]? =some (.cells (L.set i v).toArray t (0,0)):=by unfold World.setCell;simp[Array.getElem?_modify,h]
theorem ah(w:World)(a:Addr)(v:Value)(i:Nat)(h:i≠a.block):(w.setCell a v).heap[i]? =w.heap[i]? :=RowKit.Below.heap_setCell _ _ _ _ h
abbrev ID(a b c d:Int):Value:= .agg #[.int .i64 a,.int .i64 b,.int .i64 c,.int .i64 d]
abbrev tS(k:Int)(b:UInt8)(l d r:Int):Value:= .agg #[.int .i64 k,.int .u8 (b.toNat:Nat),.int .i64 l,.int .i64 d,.int .i64 r]
theorem mo{W:World}{cs:List Value}(h:W.heap[b]? =some (.cells L.toArray t (0,0)))(hcs: ∀j,j<cs.length→cs[j]? =L[j]?): ∀j v,cs[j]? =some v→W.drew.cell? ((⟨b,0,none⟩:Addr).add j)=some v:=by intro j v hj;have ub:j<cs.length:=(List.getElem?_eq_some_iff.1 hj).1;have e:((⟨b,0,none⟩:Addr).add j)=⟨b,j,none⟩:=ml;have h':W.drew.heap[b]? =some (.cells L.toArray t (0,0)):=h;rw[e,cell_of_row W.drew b _ _ _ _ h',List.getElem?_toArray,←hcs j ub,hj]
theorem Fd:prog.arrayLen 152=4:=ai
theorem Wn:prog.underlying 152=some (.array (prog.arrayLen 152) (prog.elem 152)):=ai
theorem xJ(g n:Nat)(h:n≤3)(w:World):(Instr.sliceAt 152 (.pointer (some ⟨g,0,none⟩)) (some (.int .i64 1)) (some (.int .i64 (n+1:Nat))) none).run prog w= .ok (.slice (some ⟨g,1,none⟩) n 3) w:=by have hs:(sizeOf (prog.elem 152)).run prog w= .ok 1 w:=ai;rw[run_sliceAt_array_lh w 152 ⟨g,0,none⟩ Wn .i64 .i64 1 (n+1:Nat) ak aa (by rw[Fd];omega),hs,Fd];simp only[Result.andThen,slicedAt,Int.toNat_natCast,Nat.mul_one];rw[if_neg ak,show(1:Int).toNat=1 from rfl,Addr.add_mid,Nat.zero_add,Nat.add_sub_cancel]
theorem Fe(g n:Nat)(h:n≤4)(w:World):(Instr.sliceAt 152 (.pointer (some ⟨g,0,none⟩)) none (some (.int .i64 (n:Nat))) none).run prog w= .ok (.slice (some ⟨g,0,none⟩) n 4) w:=by have hs:(sizeOf (prog.elem 152)).run prog w= .ok 1 w:=ai;rw[run_sliceAt_array_h w 152 ⟨g,0,none⟩ Wn .i64 (n:Nat) aa (by rw[Fd];omega),hs,Fd];simp only[Result.andThen,slicedAt,Int.toNat_natCast,Nat.mul_one,Nat.sub_zero];rw[if_neg ak];simp[Addr.add]
def r4(a b c d:Int):Nat→Int
 | 0=>a
 | 1=>b
 | 2=>c
 | _=>d
theorem QB(a b c d:Int)(w:World):(Instr.index 152 (.agg #[.int .i64 a,.int .i64 b,.int .i64 c,.int .i64 d]) (.int .i64 0)).run prog w= .ok (.int .i64 a) w:=by first | rfl | kernel_rfl | (simp[Instr.index,run_underlying underlying152,asIntOf,go_sem])
theorem ad6(a b c d:Int)(w:World):(Instr.index 152 (.agg #[.int .i64 a,.int .i64 b,.int .i64 c,.int .i64 d]) (.int .i64 1)).run prog w= .ok (.int .i64 b) w:=by first | rfl | kernel_rfl | (simp[Instr.index,run_underlying underlying152,asIntOf,go_sem])
theorem ad7(a b c d:Int)(w:World):(Instr.index 152 (.agg #[.int .i64 a,.int .i64 b,.int .i64 c,.int .i64 d]) (.int .i64 2)).run prog w= .ok (.int .i64 c) w:=by first | rfl | kernel_rfl | (simp[Instr.index,run_underlying underlying152,asIntOf,go_sem])
theorem ad8(a b c d:Int)(w:World):(Instr.index 152 (.agg #[.int .i64 a,.int .i64 b,.int .i64 c,.int .i64 d]) (.int .i64 3)).run prog w= .ok (.int .i64 d) w:=by first | rfl | kernel_rfl | (simp[Instr.index,run_underlying underlying152,asIntOf,go_sem])
structure Sy where
 k:Nat
 b:UInt8
 l:Nat
 d:Nat
 r:Nat
deriving DecidableEq
abbrev Sy.val(s:Sy):Value:=tS (s.k:Nat) s.b (s.l:Nat) (s.d:Nat) (s.r:Nat)
abbrev R4:=Int×Int×Int×Int
abbrev R4.val(r:R4):Value:=ID r.1 r.2.1 r.2.2.1 r.2.2.2
def ek(s:Sy)(r:R4):R4:=
 if s.k=0 then r
 else if s.k=1 then((s.d:Int),r.1,r.2.1,r.2.2.1)
 else match s.r with
  | 0=>r
  | 1=>(r.2.1,r.1,r.2.2.1,r.2.2.2)
  | 2=>(r.2.2.1,r.1,r.2.1,r.2.2.2)
  | _=>(r.2.2.2,r.1,r.2.1,r.2.2.1)
def cE(l:List Sy):List Value:=l.flatMap fun s=>[Value.int .i64 (s.k:Nat),.int .u8 (s.b.toNat:Nat),.int .i64 (s.l:Nat),.int .i64 (s.d:Nat),.int .i64 (s.r:Nat)]
theorem xK(l:List Sy):(cE l).length=l.length*5:=by
 induction l with
 | nil=>rfl
 | cons a l ih=>simp only[cE,List.flatMap_cons,List.length_append,List.length_cons,List.length_nil]at ih ⊢;omega
theorem xL(l m:List Sy):cE (l++m)=cE l++cE m:=by simp[cE]
theorem Ff(l:List Sy): ∀i (h:i<l.length),(cE l)[5*i]? =some (.int .i64 (l[i].k:Nat))∧(cE l)[5*i+1]? =some (.int .u8 (l[i].b.toNat:Nat))∧(cE l)[5*i+2]? =some (.int .i64 (l[i].l:Nat))∧
  (cE l)[5*i+3]? =some (.int .i64 (l[i].d:Nat))∧(cE l)[5*i+4]? =some (.int .i64 (l[i].r:Nat)):=by
 induction l with
 | nil=>intro i h;simp at h
 | cons a l ih=>
  intro i h;cases i with
  | zero=>exact⟨rfl,rfl,rfl,rfl,rfl⟩
  | succ i=>
   have:=ih i kJ;rw[show 5*(i+1)=5*i+1+1+1+1+1 by omega];exact this
def gx(base:Nat)(w:World)(v:Value)(l:List Sy):Prop:=w.ownsRow base 183 5 v l.length (cE l)
theorem Q_:(prog.info? 183).map (fun i=>(i.zero,i.size,i.bytes))=some (some (.agg #[.int .i64 0,.int .u8 0,.int .i64 0,.int .i64 0,.int .i64 0]),5,40):=ai
theorem gx.nil(base:Nat)(w:World):gx base w (.slice none 0 0) []:=World.ownsRow_nil w base _ 5
theorem gx.aA{l:List Sy}(h:gx base w v l)(hb: ∀g,v.ownBlock=some g→w'.heap[g]? =w.heap[g]?):gx base w' v l:=by
 rcases h with⟨h1,h2 | ⟨g,cap,cur,h2,h3,h4,h5⟩⟩
 ·exact⟨h1,.inl h2⟩
 ·exact⟨h1,.inr ⟨g,cap,cur,h2,h3,(hb g ow).trans h4,h5⟩⟩
theorem gx.lt{l:List Sy}(h:gx base w v l)(g:Nat)(hg:v.ownBlock=some g):base≤g∧g<w.heap.size:=World.ownsRow.lt h g hg
theorem gx.weaken{gj:Nat}{l:List Sy}(h:gx base w v l)(hb:gj≤base):gx gj w v l:=by
 rcases h with⟨h1,h2 | ⟨g,cap,cur,h2,h3,h4⟩⟩
 ·exact⟨h1,.inl h2⟩
 ·exact⟨h1,.inr ⟨g,cap,cur,h2,Nat.le_trans hb h3,h4⟩⟩
theorem gx.below{l:List Sy}(h:gx base w v l)(hb:Below w.heap.size w w'):gx base w' v l:=h.aA fun g hg=>hb.block g (h.lt g hg).2
theorem gx.set{l:List Sy}(h:gx base w v l){p:Addr}(hp:p.block<base)(u:Value):gx base (w.setCell p u) v l:=h.aA fun g hg=>ah _ _ _ _ (by have:=(h.lt g hg).1;omega)
theorem gx.read{l:List Sy}(h:gx base w v l)(hl:0<l.length):
  ∃g cap,v= .slice (some ⟨g,0,none⟩) l.length cap∧g<w.heap.size∧l.length≤cap∧cap≤9223372036854775807∧ ∀i (h:i<l.length),w.cell? ⟨g,5*i,none⟩=some (.int .i64 (l[i].k:Nat))∧w.cell? ⟨g,5*i+1,none⟩=some (.int .u8 (l[i].b.toNat:Nat))∧
   w.cell? ⟨g,5*i+2,none⟩=some (.int .i64 (l[i].l:Nat))∧w.cell? ⟨g,5*i+3,none⟩=some (.int .i64 (l[i].d:Nat))∧w.cell? ⟨g,5*i+4,none⟩=some (.int .i64 (l[i].r:Nat)):=by
 rcases h with⟨h1,⟨h2,h3⟩ | ⟨g,cap,cur,rfl,h3,h4,h5,h6,h7,h8⟩⟩
 ·omega
 ·refine⟨g,cap,rfl,(cr h4),h5,xt,fun i hi=> ?_⟩;have Fg:=Ff l i hi;have hc: ∀j,j<l.length*5→w.cell? ⟨g,j,none⟩=(cE l)[j]? :=fun j hj=>by have e:cur[j]? =(cE l)[j]? :=(by rw[←h8,List.getElem?_take_of_lt aa,Array.getElem?_toList]);rw[←e,cell_of_row w g j _ _ _ h4]
  refine⟨?_,?_,?_,?_,?_⟩;·rw[hc _ aa];exact Fg.1
  ·rw[hc _ aa];exact Fg.2.1
  ·rw[hc _ aa];exact Fg.2.2.1
  ·rw[hc _ aa];exact Fg.2.2.2.1
  ·rw[hc _ aa];exact Fg.2.2.2.2
theorem AM(ty:TypeId)(base:Nat)(w:World)(v:Value)(l:List Sy)(aK:gx base w v l)(hh c:Nat)(s:Sy)
  (hc:w.heap[hh]? =some (.cells (cE [s]).toArray 183 (0,0))) (hl:l.length≤1000000) (bR:base≤w.heap.size):
  ∃v' w',(Builtin.append_ #[176,176] ty #[v,.slice (some ⟨hh,0,none⟩) 1 c]).run prog w= .ok v' w'∧gx base w' v' (l++[s])∧w.grownBy w' v.ownBlock:=by
 obtain⟨i,hi,hz⟩:=Option.map_eq_some_iff.1 Q_;injection hz with kw hz;injection hz with eQ oC
 obtain⟨v',w',hr,h2,h3,_⟩:=run_append_own (P:=prog) w base 176 ty 183 i _ 5 40 underlying176 hi kw eQ oC rfl ak
  v l.length (cE l) aK ⟨hh,0,none⟩ 1 c (cE [s]) (by rw[xK];rfl) (by
   intro j u hu;have e:(⟨hh,0,none⟩:Addr).add j=⟨hh,j,none⟩:=ml;rw[e,cell_of_row w hh _ _ _ _ hc,List.getElem?_toArray,hu]) (by intro u hu;simp[cE]at hu;rcases hu with rfl | rfl | rfl | rfl | rfl<;>rfl) fF aa bR
 exact⟨v',w',hr,by unfold gx;rw[xL];simpa using h2,h3⟩
theorem uc(mb:o.guard=none)(s x:Operand)
  (ho:o.op= .call {callee:= .builtin .append,args:= #[s,x],argTypes:= #[176,176]})
  (base:Nat) (w:World) (v:Value) (l:List Sy) (hs:a.eval s=v) (aK:gx base w v l) (hh c:Nat) (y:Sy) (hx:a.eval x= .slice (some ⟨hh,0,none⟩) 1 c)
  (hc:w.heap[hh]? =some (.cells (cE [y]).toArray 183 (0,0))) (hl:l.length≤1000000) (bR:base≤w.heap.size)
  (h: ∀v' w',gx base w' v' (l++[y])→w.grownBy w' v.ownBlock→wpList prog ops Q rest (a.put o.dst v') w'):wpList prog ops Q (o::rest) a w:=by
 refine wpList_plain mb fun K hK=> ?_;obtain⟨v',w',hr,h2,h3⟩:=AM o.type base w v l aK hh c y hc hl bR;unfold Oper.wp execOp;simp only[ho,resolve,invoke,builtin,Sem.run_bind,Sem.run_pure,Result.andThen_ok,List.map_toArray,List.map_cons,List.map_nil,hs,hx,hr];exact hK _ _ (h v' w' h2 h3)
theorem gx.form{l:List Sy}(h:gx base w v l):
  ∃A cap,v= .slice A l.length cap∧l.length≤cap∧cap≤9223372036854775807∧ ∀i (h:i<l.length),∃g,A=some ⟨g,0,none⟩∧g<w.heap.size∧w.cell? ⟨g,5*i,none⟩=some (.int .i64 (l[i].k:Nat))∧w.cell? ⟨g,5*i+1,none⟩=some (.int .u8 (l[i].b.toNat:Nat))∧
   w.cell? ⟨g,5*i+2,none⟩=some (.int .i64 (l[i].l:Nat))∧w.cell? ⟨g,5*i+3,none⟩=some (.int .i64 (l[i].d:Nat))∧w.cell? ⟨g,5*i+4,none⟩=some (.int .i64 (l[i].r:Nat)):=by
 by_cases hl:0<l.length;·obtain⟨g,cap,rfl,hg,hc,hm,dm⟩:=h.read hl;exact⟨_,cap,rfl,hc,hm,fun i hi=>⟨g,rfl,hg,dm i hi⟩⟩
 ·rcases h with⟨_,⟨rfl,h3⟩ | ⟨g,cap,cur,rfl,h3,h4,h5,h6,_⟩⟩
  ·exact⟨none,0,by rw[h3],aa,ak,fun i hi=>aa⟩
  ·exact⟨_,cap,rfl,h5,xt,fun i hi=>aa⟩
section
open Go.Shelf
def sC:Go.Shelf.Ren:=⟨fun | 128=>274 | n=>n,fun | 51=>24 | 3=>3 | 4=>4 | 46=>147 | 5=>5 | 9=>9 | n=>n,fun | n=>n⟩
theorem AV:Go.Proofs.Lays.n128 prog sC:={
 mixed:=ai
 f128:=func274.trans (congrArg some ai)
 t3:=underlying3
 a3:=isAgg3
 z3:=sizeOf3
 v3:=zeroValue3
 t4:=underlying4
 a4:=isAgg4
 z4:=sizeOf4
 v4:=zeroValue4
 t5:=underlying5
 a5:=isAgg5
 z5:=sizeOf5
 v5:=zeroValue5
 t9:=underlying9
 a9:=isAgg9
 z9:=sizeOf9
 v9:=zeroValue9
 t46:=underlying147
 a46:=isAgg147
 z46:=sizeOf147
 v46:=zeroValue147
 t51:=underlying24
 a51:=isAgg24
 z51:=sizeOf24
 v51:=zeroValue24}
theorem uo(x:Int)(w:World)(h0:0≤x)(h1:x≤4294967295):
  Calls prog 274 #[.int .u32 x] w fun e w'=>e= .returned (.int .i64 (Lib.bitLen x.toNat))∧w'=w:=Any.bits_Len32 AV x w h0 h1
def sD:Go.Shelf.Ren:=⟨fun | 115=>92 | n=>n,fun | 37=>22 | 4=>4 | 9=>9 | 5=>5 | n=>n,fun | n=>n⟩
theorem AW:Go.Proofs.Lays.n115 prog sD:={
 mixed:=ai
 f115:=func92.trans (congrArg some ai)
 t4:=underlying4
 a4:=isAgg4
 z4:=sizeOf4
 v4:=zeroValue4
 t9:=underlying9
 a9:=isAgg9
 z9:=sizeOf9
 v9:=zeroValue9
 t37:=underlying22
 a37:=isAgg22
 z37:=sizeOf22
 v37:=zeroValue22}
open Go.Proofs Go.RowKit Go.Lib in
theorem m9(v1 v2:Value)(t1 t2:ByteArray)(w:World)(h1:(convert 22 9 v1).run prog w= .ok (.string t1) w)(h2:(convert 22 9 v2).run prog w= .ok (.string t2) w):
  Calls prog 92 #[v1,v2] w fun e w'=>e= .returned (.bool (t1.toList==t2.toList))∧w'=w:=Any.bytes_Equal_strs AW v1 v2 t1 t2 w h1 h2
def qs:Go.Shelf.Ren:=⟨fun | 14=>24 | 15=>49 | n=>n,fun | 26=>27 | 22=>22 | 3=>3 | 4=>4 | 0=>0 | 9=>9 | 20=>20 | 5=>5 | n=>n,fun | n=>n⟩
theorem jM:Go.Proofs.SlLaysJ.n14 prog qs:={
 mixed:=ai
 f14:=func24.trans (congrArg some ai)
 f15:=func49.trans (congrArg some ai)
 t0:=underlying0
 a0:=isAgg0
 z0:=sizeOf0
 v0:=zeroValue0
 t3:=underlying3
 a3:=isAgg3
 z3:=sizeOf3
 v3:=zeroValue3
 t4:=underlying4
 a4:=isAgg4
 z4:=sizeOf4
 v4:=zeroValue4
 t9:=underlying9
 a9:=isAgg9
 z9:=sizeOf9
 v9:=zeroValue9
 t20:=underlying20
 a20:=isAgg20
 z20:=sizeOf20
 v20:=zeroValue20
 t22:=underlying22
 a22:=isAgg22
 z22:=sizeOf22
 v22:=zeroValue22
 t26:=underlying27
 a26:=isAgg27
 z26:=sizeOf27
 v26:=zeroValue27
 t5:=underlying5
 z5:=sizeOf5
 i5:=ai}
open Go.RowKit Go.Lib in
theorem fz(b o n c:Nat)(vs:List Value)(ls:List (List UInt8))(sv:Value)(sep:List UInt8)(w:World)(hn:ls.length=n)(h2:2≤n)(hP:Lib.PartsAt w ⟨b,o,none⟩ vs ls)(Du:n≤c)(hS:Lib.HoldsBytes w sv sep)(ak6:n≤140737488355328)(hlen:Lib.lens ls+sep.length*(n-1)≤140737488355328):
  Calls prog 24 #[.slice (some ⟨b,o,none⟩) n c,sv] w fun e w'=> ∃v',e= .returned v'∧Lib.FreshBytes w.heap.size w' v' (Lib.join ls sep)∧Below w.heap.size w w':=Any.bytes_Join_many jM b o n c vs ls sv sep w hn h2 hP Du hS ak6 hlen
open Go.RowKit Go.Lib in
theorem oh(p:Option Addr)(c:Nat)(sv:Value)(w:World):
  Calls prog 24 #[.slice p 0 c,sv] w fun e w'=>e= .returned (.slice (some ⟨w.heap.size,0,none⟩) 0 0)∧w'=w.alloc (.cells #[] 5):=Any.bytes_Join_none jM p c sv w
open Go.RowKit Go.Lib in
theorem oV(b o c:Nat)(ad0:Addr)(c0:Nat)(l0:List UInt8)(sv:Value)(w:World)(hcell:w.cell? ⟨b,o,none⟩=some (.slice (some ad0) l0.length c0))(hc: ∀(i:Nat) x,l0[i]? =some x→w.cell? (ad0.add i)=some (.int .u8 (x.toNat:Int)))(h0:0<l0.length)(hs:l0.length≤140737488355328):
  Calls prog 24 #[.slice (some ⟨b,o,none⟩) 1 c,sv] w fun e w'=> ∃v',e= .returned v'∧Lib.FreshBytes w.heap.size w' v' l0∧Below w.heap.size w w':=Any.bytes_Join_one jM b o c ad0 c0 l0 sv w hcell hc h0 hs
end
theorem gK(i:Nat)
  (hy: ∀w,S w→(execOp a.eval oi).run P w= .ok (.value v) w) (hS:S w) (h:wpAnyH P md ops Q S fuel (listed.setIfInBounds i true) (a.put oi.dst v) w)
  (hi:ops.toList.drop i=oi::rest:=by rfl) (hs:Region.noSelect ops=true:=by kernel_rfl) (hf:Region.free md ops listed i=true:=by kernel_rfl) (hr:(Region.ready md ops listed).contains i=true:=by kernel_rfl)
  (hq: ∀c a w,Q (.panic c) (a.put oi.dst v) w→Q (.panic c) a w:=by exact fun _ _ _ h=>h) (hw:Region.wanted oi (yielded ops a.tmps)=true:=by rfl):wpAnyH P md ops Q S (fuel+1) listed a w:=
 wpAnyH_take (by have e:=congrArg (fun l:List Oper=>l[0]?) hi;simpa using e) hs hf hr hq (.inl ⟨hw,hy⟩) hS h
theorem cw(i:Nat)
  (hi:ops.toList.drop i=oi::rest) (hy: ∀w,S w→(execOp a.eval oi).run P w= .ok (.value v) w) (hS:S w)
  (hs:Region.noSelect ops=true:=by kernel_rfl) (hf:Region.free md ops listed i=true:=by kernel_rfl) (hr:(Region.ready md ops listed).contains i=true:=by kernel_rfl)
  (hq: ∀c a w,Q (.panic c) (a.put oi.dst v) w→Q (.panic c) a w:=by exact fun _ _ _ h=>h) (hw:Region.wanted oi (yielded ops a.tmps)=true:=by rfl)
  (hp:a.put oi.dst v=a':=by(try simp only[Act.put,List.setIfInBounds_toArray,List.set_cons_zero,List.set_cons_succ]);rfl)
  (hl:listed.setIfInBounds i true=l':=by(try simp only[List.setIfInBounds_toArray,List.set_cons_zero,List.set_cons_succ]);rfl)
  (h:wpAnyH P md ops Q S fuel l' a' w):wpAnyH P md ops Q S (fuel+1) listed a w:=
 gK i hy hS (hl▸hp▸h) hi hs hf hr hq hw
theorem af(i:Nat)
  (hS:S w)
  (hi:ops.toList.drop i=oi::rest:=by rfl) (hs:Region.noSelect ops=true:=by kernel_rfl) (hf:Region.free md ops listed i=true:=by kernel_rfl) (hr:(Region.ready md ops listed).contains i=true:=by kernel_rfl)
  (hy: ∀w,S w→(execOp a.eval oi).run P w= .ok (.value v) w:=by intro w hSw;go_simp;all_goals(with_reducible rfl))
  (hq: ∀c a w,Q (.panic c) (a.put oi.dst v) w→Q (.panic c) a w:=by exact fun _ _ _ h=>h) (hw:Region.wanted oi (yielded ops a.tmps)=true:=by rfl)
  (hp:a.put oi.dst v=a':=by(try simp only[Act.put,List.setIfInBounds_toArray,List.set_cons_zero,List.set_cons_succ]);rfl)
  (hl:listed.setIfInBounds i true=l':=by(try simp only[List.setIfInBounds_toArray,List.set_cons_zero,List.set_cons_succ]);rfl)
  (h:wpAnyH P md ops Q S fuel l' a' w):wpAnyH P md ops Q S (fuel+1) listed a w:=
 gK i hy hS (hl▸hp▸h) hi hs hf hr hq hw
theorem aL(i:Nat)
  (hS:S w)
  (hi:ops.toList.drop i=oi::rest:=by rfl) (hs:Region.noSelect ops=true:=by kernel_rfl) (hf:Region.free md ops listed i=true:=by kernel_rfl) (hr:(Region.ready md ops listed).contains i=true:=by kernel_rfl)
  (hy: ∀w,S w→(execOp a.eval oi).run P w= .ok (.value v) w:=by intro w;(try simp only[and_imp]);intros;go_simp;all_goals(with_reducible rfl))
  (hq: ∀c a w,Q (.panic c) (a.put oi.dst v) w→Q (.panic c) a w:=by exact fun _ _ _ h=>h) (hw:Region.wanted oi (yielded ops a.tmps)=true:=by rfl)
  (hp:a.put oi.dst v=a':=by(try simp only[Act.put,List.setIfInBounds_toArray,List.set_cons_zero,List.set_cons_succ]);rfl)
  (hl:listed.setIfInBounds i true=l':=by(try simp only[List.setIfInBounds_toArray,List.set_cons_zero,List.set_cons_succ]);rfl)
  (h:wpAnyH P md ops Q S fuel l' a' w):wpAnyH P md ops Q S (fuel+1) listed a w:=
 gK i hy hS (hl▸hp▸h) hi hs hf hr hq hw
theorem bI(i:Nat)
  {p:World→Prop} (hX: ∀w,S w→p w) (hS:S w)
  (hi:ops.toList.drop i=oi::rest:=by rfl) (hs:Region.noSelect ops=true:=by kernel_rfl) (hf:Region.free md ops listed i=true:=by kernel_rfl) (hr:(Region.ready md ops listed).contains i=true:=by kernel_rfl)
  (hy: ∀w,p w→(execOp a.eval oi).run P w= .ok (.value v) w:=by intro w;(try simp only[and_imp]);intros;go_simp;all_goals(with_reducible rfl))
  (hq: ∀c a w,Q (.panic c) (a.put oi.dst v) w→Q (.panic c) a w:=by exact fun _ _ _ h=>h) (hw:Region.wanted oi (yielded ops a.tmps)=true:=by rfl)
  (hp:a.put oi.dst v=a':=by(try simp only[Act.put,List.setIfInBounds_toArray,List.set_cons_zero,List.set_cons_succ]);rfl)
  (hl:listed.setIfInBounds i true=l':=by(try simp only[List.setIfInBounds_toArray,List.set_cons_zero,List.set_cons_succ]);rfl)
  (h:wpAnyH P md ops Q S fuel l' a' w):wpAnyH P md ops Q S (fuel+1) listed a w:=
 gK i (fun w h=>hy w (hX w h)) hS (hl▸hp▸h) hi hs hf hr hq hw
theorem bi(i:Nat)
  (hS:S w)
  (hi:ops.toList.drop i=oi::rest:=by rfl) (hs:Region.noSelect ops=true:=by kernel_rfl) (hf:Region.free md ops listed i=true:=by kernel_rfl) (hr:(Region.ready md ops listed).contains i=true:=by kernel_rfl)
  (hq: ∀c a w,Q (.panic c) (a.put oi.dst undef) w→Q (.panic c) a w:=by exact fun _ _ _ h=>h) (hw:Region.wanted oi (yielded ops a.tmps)=false:=by rfl)
  (hp:a.put oi.dst undef=a':=by(try simp only[Act.put,List.setIfInBounds_toArray,List.set_cons_zero,List.set_cons_succ]);rfl)
  (hl:listed.setIfInBounds i true=l':=by(try simp only[List.setIfInBounds_toArray,List.set_cons_zero,List.set_cons_succ]);rfl)
  (h:wpAnyH P md ops Q S fuel l' a' w):wpAnyH P md ops Q S (fuel+1) listed a w:=
 wpAnyH_take (v:=undef) (by have e:=congrArg (fun l:List Oper=>l[0]?) hi;simpa using e) hs hf hr hq (.inr ⟨hw,rfl⟩) hS (hl▸hp▸h)
theorem aC(i:Nat)
  (h: ∀K':Act→World→Prop,Shut (∀a w,S w→(S w→wpAnyH P md ops Q S fuel (listed.setIfInBounds i true) a w)→K' a w)→if Region.wanted oi (yielded ops a.tmps)=true then Oper.wp P oi a w K' Q else K' (a.put oi.dst undef) w)
  (hi:ops.toList.drop i=oi::rest:=by rfl) (hr:Region.ready md ops listed=[i]:=by kernel_rfl):wpAnyH P md ops Q S (fuel+1) listed a w:=
 wpAnyH_ready hr (by simp) (AllReadyH.cons (by have e:=congrArg (fun l:List Oper=>l[0]?) hi;simpa using e) h AllReadyH.nil)
end Go.Proofs.YtfcaoggfnkhfiaaGreatDoor
