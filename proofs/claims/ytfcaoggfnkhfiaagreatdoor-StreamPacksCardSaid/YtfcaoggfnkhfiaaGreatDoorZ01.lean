import Derived.Test.YtfcaoggfnkhfiaaGreatDoorRows
import Derived.WalkKit
import Derived.WalkSpells
import Derived.WalkLawsBesides
import Derived.Lib.Hide
import Derived.Deep.QuietTactic
import Derived.BigQuiet
import Derived.Deep.OwnRows
import Derived.Deep.WholeRow
import Derived.Deep.MidRow
import Derived.Deep.AppendLies
import Derived.Maps.AppendAt
import Derived.Laws.CopyOwn
import Derived.Lib.SlBytesConst
import Derived.Laws.BytesArg
import Derived.ProofKit
import Derived.Deep.RegionLaw
import Derived.Deep.RegionHeld3
import Derived.Shelf.Small.Bits
import Derived.Shelf.Bytes.SlSearch0
import Derived.Ground.SlbNamesProg
import Derived.Shelf.Bytes.SlJoin
import Derived.Shelf.Bytes.SlEqualAll
import Derived.Shelf.Bytes.Small
import Derived.Deep.RegionHeld
import Derived.KernelRfl
import Derived.Walk
namespace Go.Proofs.YtfcaoggfnkhfiaaGreatDoor
set_option maxRecDepth 100000
set_option maxHeartbeats 8000000
open Go.RowKit Go.Proofs.Tryz
abbrev Lo:=World
abbrev An:=List UInt8
abbrev As:=Option Addr
variable{a a':Act}{l' listed:Array Bool}{ops:Array Oper}{Q:Exit->Act->World->Prop}{rest:List Oper}{l:An}{L:List Value}{B b base bytes fuel g:Nat}{o oi:Oper}{A:As}{P:Program}{p q:Prop}{md:Region.Mode}{t ts:TypeId}{v z:Value}{w w':Lo}{S:World->Prop}
abbrev aq(w w':Lo):Prop:=Below w.heap.size w w'
abbrev ap:=@And.intro
abbrev au:=@if_neg
abbrev ax:=@if_pos
abbrev aF:=@Nat.le_refl
abbrev a8:=@Nat.le_trans
abbrev db:=@Nat.lt_of_lt_of_le
abbrev du:=@decide_eq_false
abbrev iz:=@decide_eq_true
abbrev fk:=@Nat.pow_le_pow_right
abbrev aG:=@List.length_append
abbrev eY:=@List.append_assoc
abbrev gQ:=@beq_eq_false_iff_ne
abbrev dc:=@List.mem_cons
abbrev cX:=@List.length_map
abbrev aR:=@congrArg
abbrev el:=@List.length_cons
abbrev cS:=@Nat.pow_succ
abbrev eZ:=@List.length_take
abbrev fZ:=@List.length_drop
abbrev iH:=@List.length_replicate
abbrev cI:=@Nat.zero_le
abbrev mm:=@List.eq_nil_of_length_eq_zero
abbrev fL:=@List.nil_append
abbrev dN:=@Nat.lt_or_ge
abbrev fM:=@List.not_mem_nil
abbrev dR:=@Nat.mul_comm
abbrev lE:=@List.take_succ_eq_append_getElem
abbrev pT:=@List.drop_eq_nil_of_le
abbrev iV:=@List.append_nil
abbrev iI:=@List.map_append
abbrev gy:=@List.map_cons
abbrev mY:=@Nat.mod_eq_of_lt
abbrev mZ:=@List.take_of_length_le
abbrev dS:=@List.getElem?_eq_getElem
abbrev lF:=@List.getElem_mem
abbrev kW:=@Nat.div_div_eq_div_mul
abbrev ko:=@Nat.one_le_two_pow
abbrev tq:=@Int.eq_ofNat_of_zero_le
abbrev qC:=@Nat.shiftRight_eq_div_pow
abbrev lG:=@BitVec.toNat_ofNat
abbrev qD:=@List.getD_eq_getElem?_getD
abbrev qE:=@List.getElem?_eq_none
abbrev AG:=@List.getElem?_append_left
abbrev lH:=@List.getElem?_append_right
abbrev AH:=@Nat.mul_le_mul_left
abbrev qF:=@Nat.mul_le_mul_right
abbrev lI:=@Array.getElem?_eq_none
abbrev qG:=@Nat.mul_assoc
abbrev m6:=@Nat.add_assoc
abbrev tr:=@List.flatten_cons
abbrev Ii:=@List.getElem?_take
abbrev fN:=@UInt8.toNat_ofNat'
abbrev lJ:=@Nat.sub_self
abbrev tw:=@Bool.and_eq_true
abbrev AJ:=@decide_eq_true_iff
abbrev OQ:=@List.take_append_drop
abbrev AK:=@List.drop_drop
abbrev Ea:=@List.flatten_append
abbrev aC:=@cell_of_row
abbrev aS:=@frozen_of_row
abbrev aP:=@Below.refl
abbrev bz:=@heap_alloc_last
abbrev cN:=@Below.setCell
abbrev ee:=@Below.heap_alloc
abbrev jO:=@World.ownsRow.lt
abbrev em:=@IntWalk.i64_in
abbrev OS:=@IntWalk.u64_in
abbrev f5:=@World.cell?_of_block
abbrev pU:=@World.size_setCell
abbrev pV:=@World.size_alloc
abbrev m7:=@Below.alloc
abbrev at0:=@run_underlying
abbrev bA:=@bodyPost_ret
theorem ex{α:Type}(a:α): ∃b,a=b:=⟨a,rfl⟩
theorem ae(h:p):Hid p:=Lib.hid h
theorem aQ{OT:Lo}(h:Below w.heap.size w w')(k:Below w'.heap.size w' OT):Below w.heap.size w OT:=h.trans (k.mono h.size)
theorem bU{o:Obj}(h:w.heap[b]? =some o):b<w.heap.size:=(Array.getElem?_eq_some_iff.1 h).1
theorem az{o:Obj}:Below w.heap.size w (w.alloc o):=(aP _ _).alloc (aF _) _
theorem axp{j:Nat}{cs:Array Value}{f:Nat×Nat}{v:Option Value}(h:w.heap[g]? =some (.cells cs t f))(e:cs[j]? =v:=by rfl):w.cell? ⟨g,j,none⟩=v:=(aC w g j cs t f h).trans e
theorem en(h:q)(e:p=q:=by (try simp only[Act.put,List.setIfInBounds_toArray,List.set_cons_zero,List.set_cons_succ]);rfl):p:=Eq.mpr e h
theorem av(x:q)(h:q->p:=by intro _;omega):p:=h x
theorem ah(h:p:=by simp):p:=h
theorem aa(h:p:=by omega):p:=h
theorem OU(h:p:=by unfold maxLen at oT;exact oT):p:=h
theorem ak(h:p:=by kernel_rfl):p:=h
theorem oa(h:p:=by unfold Addr.add;split<;>simp_all):p:=h
theorem ar(h:p:=by decide):p:=h
theorem iJ(h:p:=by unfold maxLen;omega):p:=h
theorem uZ(h:p:=by simpa using hk):p:=h
theorem aH(h:p:=by simp;omega):p:=h
theorem oU(h:p:=by cases h):p:=h
theorem AM(h:p:=by unfold maxLen at h6;exact h6):p:=h
theorem nH(h:p:=by simp[Region.wanted,oV]):p:=h
theorem jP(h:p:=by simpa using hi):p:=h
theorem qH(h:p:=by simpa using h):p:=h
theorem aA(h:p:=by go_num):p:=h
theorem oW(h:p:=by rw[aC _ _ _ _ _ _ h];rfl):p:=h
theorem Lx(h:p:=by rw[aC _ _ _ _ _ _ hT.aE];rfl):p:=h
theorem fO(h:p:=by simp[h]):p:=h
theorem aol(h:p:=by rcases ho with h|h;exact .inl h;exact .inr (by simpa using h)):p:=h
theorem Fv(h:p:=by show 16777216<=rh*256^1;have:8388608<=rh:=hhr;omega):p:=h
theorem aom(h:p:=by intro i hi;simp at hi;rcases hi with rfl|rfl;exact .inl (by simp);rcases Fw with h|h;exact .inl (by simp[h]);exact .inr h):p:=h
theorem Fx(h:p:=by simp at e;rw[<-e];exact hi):p:=h
theorem Fy(h:p:=by simp;exact λe=>HM.ne e.symm):p:=h
theorem Ly(h:p:=by intro v hv;simp at hv;rcases hv with rfl|rfl|rfl<;>rfl):p:=h
theorem oX(h:p:=by rw[<-cS];congr 1;omega):p:=h
theorem jQ(h:p:=by simp[intOf]<;>omega):p:=h
theorem aon(h:p:=by rw[<-cS];exact fk (by omega) (by omega)):p:=h
theorem kA(h:p:=by rw[IntKind.wrap_u32];omega):p:=h
theorem aoo(h:p:=by rw[<-ek];exact(az).alloc (by simp) _):p:=h
theorem aop(h:p:=by have:=jR.out C (by simp);have:=kX.out;omega):p:=h
theorem Fz(h:p:=by have:=jR.out _ h;have:=kX.out;omega):p:=h
theorem qI(h:p:=by have:=(bU lV.out);exact this):p:=h
theorem AO(h:p:=by rw[aC x6 _ _ _ _ _ oN];rfl):p:=h
theorem AQ(h:p:=by rw[aC x5 _ _ _ _ _ oN];rfl):p:=h
theorem nI(h:p:=by rw[aC x7 _ _ _ _ _ oN];rfl):p:=h
theorem aoq(h:p:=by rw[<-HQ.out];have:=TC.out;exact⟨by omega,by omega,by omega,by omega,ZD.out⟩):p:=h
theorem AU(h:p:=by rw[aC wr _ _ _ _ _ oN];rfl):p:=h
theorem qJ(h:p:=by have:=bF.out;have:=HE2.out;omega):p:=h
theorem qK(h:p:=by have:=dG.out;have:=HE2.out;omega):p:=h
theorem js(h:p:=by rw[aC x9 _ _ _ _ _ oN];rfl):p:=h
theorem Lz(h:p:=by simp[results,Tryz.results195,go_sem,z0,z1,z2,z3,z4]):p:=h
theorem aor(h:p:=by have q:=em (4*(k:Int)) (by omega);go_simp;all_goals(with_reducible rfl)):p:=h
theorem aos(h:p:=by have q0:0<=(k:Int):=(by omega);have q1:(k:Int)<64:=(by omega);go_simp;all_goals(with_reducible rfl)):p:=h
theorem aot(h:p:=by have q:=em ((k:Int)-16) (by omega);go_simp;all_goals(with_reducible rfl)):p:=h
theorem aou(h:p:=by have q:=em ((k:Int)-7) (by omega);go_simp;all_goals(with_reducible rfl)):p:=h
theorem tX(h:p:=by rw[LA];rfl):p:=h
theorem tY(h:p:=by rw[eZ];omega):p:=h
theorem LB(h:p:=by rw[<-Hl,eZ];omega):p:=h
theorem FA(h:p:=by rw[cX,fc]):p:=h
theorem aov(h:p:=by rw[<-ht,mZ (by simp;omega)]):p:=h
theorem FB(h:p:=by rw[lG];omega):p:=h
theorem qL(h:p:=by rw[me];omega):p:=h
theorem LC(h:p:=by rw[<-ek];exact bz _ _):p:=h
theorem AV(h:p:=by rw[<-ek];exact az):p:=h
theorem fP(h:p:=by simp[intOf];omega):p:=h
theorem oY(h:p:=by intro u hu;simp at hu;subst hu;rfl):p:=h
theorem aow(h:p:=by rw[<-HR.out];exact du (by omega)):p:=h
theorem kB(h:p:=by rw[Ij.out];rfl):p:=h
theorem xt(h:p:=by rw[<-ek];simp):p:=h
theorem oZ(h:p:=by rw[aC W _ _ _ _ _ aY];rfl):p:=h
theorem o0(h:p:=by simp[results,Tryz.results161]):p:=h
theorem tZ(h:p:=by rw[<-gH];exact az):p:=h
theorem aox(h:p:=by rw[<-HS.out];unfold aT;rw[au (by decide),au (by decide),ax s7]):p:=h
theorem FC(h:p:=by injection e with e;subst e;exact HGN.out):p:=h
theorem FD(h:p:=by rw[<-ek];exact hIa _ _ _ (hIa _ _ _ h0)):p:=h
theorem LD(h:p:=by have:=run_endLoop (P:=P) hl (by rw[iW];simp);rw[iW]at this;exact this):p:=h
theorem qM(h:p:=by rw[HN.out];rfl):p:=h
theorem t6(h:p:=by cases e;omega):p:=h
theorem AW(h:p:=by simp[Value.ownBlock]):p:=h
theorem eK(h:p:=by cases e):p:=h
theorem xu(h:p:=by injection e with e;omega):p:=h
theorem xv(h:p:=by rw[<-gH];exact bz _ _):p:=h
theorem FE(h:p:=by rw[aC W3 _ _ _ _ _ ZE];rfl):p:=h
theorem FF(h:p:=by rw[aC W4 _ _ _ _ _ ahy];rfl):p:=h
theorem mo(h:p:=by rw[aC W2 _ _ _ _ _ kp];rfl):p:=h
theorem FG(h:p:=by subst e;exact bz W o):p:=h
theorem AX(h:p:=by rw[aC w4 _ _ _ _ _ aY];rfl):p:=h
theorem jt(h:p:=by rw[aC w4 _ _ _ _ _ qi.out];rfl):p:=h
theorem fQ(h:p:=by rw[aC w4 _ _ _ _ _ HZ.out];rfl):p:=h
theorem AY(h:p:=by simp[results,Tryz.results193,go_sem,z0,z1,z2,z3]):p:=h
theorem FH(h:p:=by rw[HS.out,HU.out,ax aV]):p:=h
theorem lh(h:p:=by rw[iy.out]):p:=h
theorem nJ(h:p:=by simp[intOf]):p:=h
theorem FI(h:p:=by rw[HS.out,HU.out,au aV]):p:=h
theorem qN(h:p:=by rw[Hm.out];simp[results,Tryz.results189,go_sem,Sy.val,z0,z1,z2,z3,z4]):p:=h
theorem LF(h:p:=by rw[iy.out,au dE,ax ei]):p:=h
theorem AZ(h:p:=by rw[aC w4 _ _ _ _ _ qO];rfl):p:=h
theorem LG(h:p:=by rw[aC w5 _ _ _ _ _ vb];rfl):p:=h
theorem t7(h:p:=by rw[aC w _ _ _ _ _ h];rfl):p:=h
theorem T8(h:p:=by rw[Hn.2];have:=HL.out;rw[aG,nK.out];simp;omega):p:=h
theorem FJ(h:p:=by rw[Rc.gI];omega):p:=h
theorem nL(h:p:=by rw[fN];omega):p:=h
theorem LH(h:p:=by have:=ko (n:=n);omega):p:=h
theorem LI(h:p:=by rw[kW,<-cS]):p:=h
theorem aoz(h:p:=by rw[<-HQ.out];exact(ao g).le OV (by omega)):p:=h
theorem FK(h:p:=by rw[ZF];exact ahz.out):p:=h
theorem Ba(h:p:=by have:=HN.out;have:=jm.out;have:=zl.out;omega):p:=h
theorem xw(h:p:=by have:=HN.out;have:=jm.out;omega):p:=h
theorem LJ(h:p:=by first|exact(YZ.weaken g14.size).below (az)|exact((((YZ.set qP.2 _).set qP.2 _).set qP.2 _).set qP.2 _).weaken gA.size|exact((((YZ.set (db qP.2 LM.size) _).set (db qP.2 LM.size) _).set (db qP.2 LM.size) _).set (db qP.2 LM.size) _).weaken g14.size):p:=h
theorem FM(h:p:=by first|exact gL.alloc gL.size _|exact((((gL.setCell qP.1 _).setCell qP.1 _).setCell qP.1 _).setCell qP.1 _)):p:=h
theorem m8(h:p:=by rw[aC xy _ _ _ _ _ kM];rfl):p:=h
theorem zM(h:p:=by rw[vc]at vd;injection vd):p:=h
theorem ve(h:p:=by rw[aC W _ _ _ _ _ hr];rfl):p:=h
theorem zN(h:p:=by rw[Qu.out];show 1+2<=140737488355328;decide):p:=h
theorem OW(h:p:=by rw[aG,Qu.out,nK.out];show 1+2+2<=140737488355328;decide):p:=h
theorem OX(h:p:=by rw[aG,aG,Qu.out,nK.out];show 1+2+2+1<=140737488355328;decide):p:=h
theorem OY(h:p:=by simp only[dc,fM,or_false]at hi;simp[hi]):p:=h
theorem pa(h:p:=by show w.heap.size<=w.heap.size+1;omega):p:=h
theorem FN(h:p:=by show w.heap.size<=w.heap.size+1+1;omega):p:=h
theorem amR(h:p:=by have:=fk (n:=2) (by omega) (show 32<=j by omega);omega):p:=h
theorem vf(h:p:=by rw[HP.out];omega):p:=h
theorem zO(h:p:=by have c0:=xz _ hSw;have c1:=dE _ hSw;have c2:=ei _ hSw;have c3:=ju _ hSw;go_simp;all_goals(with_reducible rfl)):p:=h
theorem kN(h:p:=by rw[HX.out]):p:=h
theorem m9(h:p:=by decide+kernel):p:=h
theorem sr(h:p:=by first|(rw[dG.out];done)|rw[dG.out,ia.out]):p:=h
theorem zP(h:p:=by rw[tx.out];exact aV):p:=h
theorem FO(h:p:=by have:=x.isLt;rw[IntKind.wrap_u32];omega):p:=h
theorem amS(h:p:=by have q0:0<=(k:Int):=(by omega);have q1:(k:Int)<8:=(by omega);go_simp;all_goals(with_reducible rfl)):p:=h
theorem FP(h:p:=by have z0:=LN.out;have z1:=HX1.out;go_simp;all_goals(with_reducible rfl)):p:=h
theorem amT(h:p:=by rw[zQ _ _ (by omega)];omega):p:=h
theorem iA(h:p:=by rw[fZ];omega):p:=h
theorem amU(h:p:=by have q1:1<=(l.length:Int)+1:=(by omega);go_simp;all_goals(with_reducible rfl)):p:=h
theorem su(h:p:=by have j0:=(hSw.cell (p:=⟨b0,off,none⟩) eX).trans h0;have j1:=(hSw.cell (p:=⟨b0,off+1,none⟩) eX).trans h1;go_simp;all_goals(with_reducible rfl)):p:=h
theorem amV(h:p:=by have q2:IntKind.i64.wrap (n:Int)=n:=em _ (by omega);go_simp;all_goals(with_reducible rfl)):p:=h
theorem zR(h:p:=by rw[li (n/16777216)];omega):p:=h
theorem amW(h:p:=by have q2:IntKind.u64.wrap (n:Int)=n:=OS _ (by omega);go_simp;all_goals(with_reducible rfl)):p:=h
theorem zS(h:p:=by show(-9223372036854775808:Int)<=33;omega):p:=h
theorem zT(h:p:=by show(33:Int)<=9223372036854775807;omega):p:=h
theorem na(h:p:=by rw[IntKind.wrap_u8];omega):p:=h
theorem nc(h:p:=by simp only[aG];omega):p:=h
theorem kO(h:p:=by unfold bj;omega):p:=h
theorem zU(h:p:=by rw[<-hO,List.replicate_succ',eY]):p:=h
theorem nd(h:p:=by have k:=hSw.1.cell;go_simp;all_goals(with_reducible rfl)):p:=h
theorem amX(h:p:=by rw[<-hR];exact du (by omega)):p:=h
theorem FQ(h:p:=by rw[lE qu]):p:=h
theorem FR(h:p:=by injection he3 with e1 e2 e3;exact⟨e1,e3⟩):p:=h
theorem OZ(h:p:=by unfold iX bj;rw[aG,iH];omega):p:=h
theorem kP(h:p:=by rw[aC W _ _ _ _ _ h];rfl):p:=h
theorem O0(h:p:=by have h1:=Y7.2.2.1;have h2:=zm.out;have h3:=Dj.size;omega):p:=h
theorem zV(h:p:=by rw[aG];omega):p:=h
theorem zW(h:p:=by have:=HN.out;have:=LP.out;omega):p:=h
theorem sw(h:p:=by rw[HX.2.2.1];omega):p:=h
theorem O1(h:p:=by rw[aC _ _ _ _ _ _ ((af _ _ _ _ (by show W1.heap.size≠n;omega)).trans hq4.2.2)];rfl):p:=h
theorem zX(h:p:=by rw[aC _ _ _ _ _ _ T9];rfl):p:=h
theorem O2(h:p:=by show 0<([]++x.of).length;rw[fL,tx.out];exact HPS.1):p:=h
theorem O3(h:p:=by obtain⟨_,_,_,_,_,q5,_,_,_⟩:=HC.out w hSw;rw[HSI.out]at q5;go_simp;all_goals(with_reducible rfl)):p:=h
theorem vg(h:p:=by rw[aC W _ _ _ _ _ qi.out];rfl):p:=h
theorem ng(h:p:=by simp[results,Tryz.results160,go_sem,k0,k1,k2,k3,k4]):p:=h
theorem nh(h:p:=by rw[hSv.out];rfl):p:=h
theorem amY(h:p:=by rw[iy.out];have b2:=dG.out;rw[au (by omega),au (by omega)];exact ax (by omega)):p:=h
theorem amZ(h:p:=by rw[iy.out];have b2:=dG.out;rw[au (by omega),au (by omega)];exact au (by omega)):p:=h
theorem vh(h:p:=by rw[aC w3 _ _ _ _ _ kr];rfl):p:=h
theorem zY(h:p:=by congr 1;have:=HE.out;omega):p:=h
theorem O4(h:p:=by rw[aG,List.length_singleton];have:=vk.out;have:=HE.out;omega):p:=h
theorem O5(h:p:=by rw[aG,Qu.out,Hn.2.1];have:=gx.2.2.2;have:=sW.out;show 1+2+_<=140737488355328;omega):p:=h
theorem zZ(h:p:=by show w.heap.size≠w.heap.size+1;omega):p:=h
theorem z7(h:p:=by obtain⟨k1,k2⟩:=LQ.out w hSw;have qu:=HJL.out;have lj:=ZG.out;go_simp;all_goals(with_reducible rfl)):p:=h
theorem Ac(h:p:=by simp[intOf];have:=HKL.out;omega):p:=h
theorem am1(h:p:=by have i2:2<=(c:Int):=(by omega);have i4:4<=(c:Int):=(by omega);have i6:6<=(c:Int):=(by omega);have i8:8<=(c:Int):=(by omega);have i10:10<=(c:Int):=(by omega);have n2: ¬c=2:=(av HK.out);have n4: ¬c=4:=(av HK.out);have n6: ¬c=6:=(av HK.out);have n8: ¬c=8:=(av HK.out);have n10: ¬c=10:=(av HK.out);go_simp;all_goals(with_reducible rfl)):p:=h
theorem am2(h:p:=by have i4:4<(l.length:Int):=(by omega);have i5:5<(l.length:Int):=(by omega);have i6:6<(l.length:Int):=(by omega);have i7:7<(l.length:Int):=(by omega);go_simp;all_goals(with_reducible rfl)):p:=h
theorem sx(h:p:=by show bo≠w.heap.size;omega):p:=h
theorem O6(h:p:=by rw[hH,aG,aG,bi];show 12<=8+(4+_);omega):p:=h
theorem Ad(h:p:=by rw[iH]):p:=h
theorem O7(h:p:=by obtain⟨jM,hca,Ik,hla,hac,ht0,htc,hpt⟩:=HC.out;go_simp;all_goals(with_reducible rfl)):p:=h
abbrev B8(b:UInt8):Value:= .int .u8 b.toNat
def Bytes(w:Lo)(A:As)(l:An):Prop:=
 l=[]\/ ∃b off,A=some ⟨b,off,none⟩/\b<w.heap.size/\ ∀k (h:k<l.length),w.cell? ⟨b,off+k,none⟩=some (.int .u8 (l[k].toNat:Nat))
theorem Bytes.aU(h:Bytes w A l)(hs:w.heap.size<=w'.heap.size)(hc: ∀p:Addr,A.map (·.block)=some p.block->p.block<w.heap.size->w'.cell? p=w.cell? p):Bytes w' A l:=by
 rcases h with h|⟨b,off,rfl,aV,hcell⟩
 ·exact .inl h
 ·exact .inr ⟨b,off,rfl,db aV hs,λk hk=>(hc ⟨b,off+k,none⟩ rfl aV).trans (hcell k hk)⟩
theorem Bytes.below(h:Bytes w A l)(hb:Below w.heap.size w w'):Bytes w' A l:=
 h.aU hb.size λ_ _ hp=>hb.cell hp
theorem Bytes.drewN(h:Bytes w A l)(n:Nat):Bytes (w.drewN n) A l:=h
theorem Bytes.drew(h:Bytes w A l):Bytes w.drew A l:=h
theorem Bytes.nil:Bytes w A []:= .inl rfl
theorem Bytes.addr(h:Bytes w A l)(hl:0<l.length): ∃b off,A=some ⟨b,off,none⟩/\b<w.heap.size/\ ∀k (h:k<l.length),w.cell? ⟨b,off+k,none⟩=some (.int .u8 (l[k].toNat:Nat)):=by
 rcases h with rfl|h;·simp at hl
 ·exact h
theorem Bytes.drop{off:Nat}(j:Nat)(h:Bytes w (some ⟨b,off,none⟩) l):Bytes w (some ⟨b,off+j,none⟩) (l.drop j):=by
 rcases h with rfl|⟨b',zn,e,aV,hc⟩
 ·exact .inl ah
 ·injection e with e;injection e with e1 e2;subst e1;subst e2;refine .inr ⟨_,_,rfl,aV,λk hk=> ?_⟩;have hk':j+k<l.length:=by simp at hk;omega
  have:=hc (j+k) hk';rw[List.getElem_drop,m6];exact this
theorem Bytes.take(j:Nat)(h:Bytes w A l):Bytes w A (l.take j):=by
 rcases h with rfl|⟨b,off,rfl,aV,hc⟩
 ·exact .inl ah
 ·refine .inr ⟨_,_,rfl,aV,λk hk=> ?_⟩;have hk':k<l.length:=by simp at hk;omega
  rw[List.getElem_take];exact hc k hk'
theorem Bytes.cutFrom(h:Bytes w A l){k c:Nat}(hk:k<=l.length)(hc:l.length<=c):Bytes w (if c=k then A else A.map (·.add k)) (l.drop k):=by
 by_cases sX:c=k;·exact .inl (pT aa)
 ·rw[au sX];rcases h with rfl|⟨b,off,rfl,aV,hcell⟩
  ·exact .inl ah
  ·have e:(Option.some (⟨b,off,none⟩:Addr)).map (·.add k)=Option.some ⟨b,off+k,none⟩:=(by simp only[Option.map];unfold Addr.add;split<;>simp_all);rw[e];exact Bytes.drop k (.inr ⟨b,off,rfl,aV,hcell⟩)
theorem below_drewN{a:Lo}(h:Below B a w)(n:Nat):Below B a (w.drewN n):=⟨h.os,h.tape,h.output,h.size,h.block⟩
theorem am{a:Lo}(h:Below B a w){row:Option Nat}(hg:w.grownBy w' row)(hB:B<=w.heap.size)(hr: ∀g,row=some g->B<=g):Below B a w':=
 ⟨hg.os.trans h.os,hg.tape.trans h.tape,hg.output.trans h.output,a8 h.size hg.size,λi hi=>(hg.block i aa (λe=>av (hr i e.symm))).trans (h.block i hi)⟩
def Own(base:Nat)(w:Lo)(v:Value)(l:An):Prop:=w.ownsRow base 5 1 v l.length (l.map B8)
theorem Own.nil(base:Nat)(w:Lo):Own base w (.slice none 0 0) []:=World.ownsRow_nil w base _ 1
theorem Own.alloc{base:Nat}{w:Lo}{v:Value}{l:An}(h:Own base w v l)(o:Obj):Own base (w.alloc o) v l:=World.ownsRow.alloc h o
theorem Own.drew(h:Own base w v l):Own base w.drew v l:=h
theorem Own.below(h:Own base w v l)(hb:Below w.heap.size w w'):Own base w' v l:=by
 rcases h with⟨h1,h2|⟨g,cap,cur,h2,h3,h4,h5⟩⟩
 ·exact⟨h1,.inl h2⟩
 ·refine⟨h1,.inr ⟨g,cap,cur,h2,h3,(hb.block g ?_).trans h4,h5⟩⟩;rcases dN g w.heap.size with h|h;·exact h
  ·rw[lI h]at h4;cases h4
theorem Own.read(h:Own base w v l): ∃A c,v= .slice A l.length c/\l.length<=c/\c<=9223372036854775807/\Bytes w A l:=by
 rcases h with⟨h1,⟨rfl,h0⟩|⟨g,cap,cur,rfl,hb,hg,O8,oT,dF,Bb⟩⟩
 ·have:l=[]:=mm h0;subst this;exact⟨none,0,rfl,ah,aa,.nil⟩
 ·refine⟨_,cap,rfl,O8,OU,?_⟩;refine .inr ⟨g,0,rfl,?_,λk hk=> ?_⟩
  ·rcases dN g w.heap.size with h|h;·exact h
   ·rw[lI h]at hg;cases hg
  ·rw[aC w g _ cur _ _ hg,Nat.zero_add];have h2:=aR (λx:List Value=>x[k]?) Bb;simp only[Ii,Nat.mul_one,hk,if_true,List.getElem?_map]at h2;rw[dS hk]at h2;simpa using h2
theorem Own.ay(h:Own base w v l): ∀g,v.ownBlock=Option.some g->base<=g/\g<w.heap.size:=jO h
theorem Own.lit(w:Lo)(l:An)(hb:base<=w.heap.size)(hm:l.length<=9223372036854775807):Own base (w.alloc (.cells (l.map B8).toArray 5)) (.slice (Option.some ⟨w.heap.size,0,none⟩) l.length l.length) l:=by have:=World.ownsRow_lit (base:=base) (e:=5) (size:=1) w (l.map B8).toArray l.length hb (by unfold maxLen;exact hm) ah;simpa [Own]using this
theorem tz:(prog.info? 5).map (λi=>(i.zero,i.size,i.bytes))=some (some (.int .u8 0),1,1):=ak
theorem nM(l:An): ∀u∈l.map B8,u.oneCell'=true:=by intro u hu;rw[List.mem_map]at hu;obtain⟨b,_,rfl⟩:=hu;rfl
theorem fR(base:Nat)(ty:TypeId)(w:Lo)(v:Value)(xs:An)(aL:Own base w v xs)(A:As)(l:An)(c:Nat)(hB:Bytes w A l)
  (dF:xs.length+l.length<=140737488355328) (aX:base<=w.heap.size):
  ∃v' w',(Builtin.append_ #[22,22] ty #[v,.slice A l.length c]).run prog w= .ok v' w'/\Own base w' v' (xs++l)/\w.grownBy w' v.ownBlock:=by
 obtain⟨i,hi,qw,kC,me⟩:=info_parts tz;cases A with
 | none=>
  have hl:l=[]:=by
   rcases hB with h|⟨_,_,h,_⟩
   ·exact h
   ·cases h
  subst hl;refine⟨v,w,?_,by simpa using aL,World.grownBy.refl w _⟩;rcases aL.2 with⟨rfl,h0⟩|⟨g,cap,cur,rfl,_,_,O8,_⟩
  ·simp[Builtin.append_,run_underlying underlying22,sizeOf,typeInfo,hi,Builtin.lenOf,Builtin.firstCells]
  ·simp[Builtin.append_,run_underlying underlying22,sizeOf,typeInfo,hi,Builtin.lenOf,Builtin.firstCells,O8,storeCells]
 | some ad=>
  have yo: ∀j u,(l.map B8)[j]? =some u->w.cell? (ad.add j)=some u:=by
   intro j u hu;rw[List.getElem?_map]at hu;by_cases hj:j<l.length;·obtain⟨b,off,e,_,hcell⟩:=hB.addr aa;injection e with e;subst e;rw[dS hj]at hu;rw[show(⟨b,off,none⟩:Addr).add j=⟨b,off+j,none⟩from oa,hcell j hj];simpa using hu
   ·rw[qE aa]at hu;simp at hu
  obtain⟨v',w',hr,h2,h3,_⟩:=run_append_own (P:=prog) w base 22 ty 5 i (.int .u8 0) 1 1 underlying22 hi qw kC me rfl ar
   v xs.length (xs.map B8) aL ad l.length c (l.map B8) ah yo (nM l) iJ aa aX
  exact⟨v',w',hr,by simpa [Own]using h2,h3⟩
theorem aj(oV:o.guard=none)(s x:Operand)
  (ho:o.op= .call {callee:= .builtin .append,args:= #[s,x],argTypes:= #[22,22]})
  (base:Nat) (w:Lo) (v:Value) (xs:An) (hs:a.eval s=v) (aL:Own base w v xs) (A:As) (l:An) (c:Nat) (hx:a.eval x= .slice A l.length c) (hB:Bytes w A l)
  (dF:xs.length+l.length<=140737488355328) (aX:base<=w.heap.size)
  (h: ∀v' w',Own base w' v' (xs++l)->w.grownBy w' v.ownBlock->wpList prog ops Q rest (a.put o.dst v') w'):wpList prog ops Q (o::rest) a w:=by
 refine wpList_plain oV λK hK=> ?_;obtain⟨v',w',hr,h2,h3⟩:=fR base o.type w v xs aL A l c hB dF aX;unfold Oper.wp execOp;simp only[ho,resolve,invoke,builtin,Sem.run_bind,Sem.run_pure,Result.andThen_ok,List.map_toArray,gy,List.map_nil,hs,hx,hr];exact hK _ _ (h v' w' h2 h3)
theorem lW(hB:Bytes w A l)(c:Nat):(convert 22 9 (.slice A l.length c)).run prog w= .ok (.string ⟨l.toArray⟩) w:=by
 cases A with
 | none=>
  have hl:l=[]:=by
   rcases hB with h|⟨_,_,h,_⟩
   ·exact h
   ·cases h
  subst hl;exact run_convert_bytes_nil w 22 5 underlying22 underlying5 0 c 9 underlying9
 | some ad=>
  have key: ∀b off,(∀k (h:k<l.length),w.cell? ⟨b,off+k,none⟩=some (.int .u8 (l[k].toNat:Nat)))->(convert 22 9 (.slice (some ⟨b,off,none⟩) l.length c)).run prog w= .ok (.string ⟨l.toArray⟩) w:=by
   intro b off hc;have h:=run_convert_bytes_arg (P:=prog) w 22 5 underlying22 underlying5 b off l.length c (l.map λx=>(x.toNat:Int)) ah (λi hi=>by
    rw[hc i hi];simp[List.getD,hi]) 9 underlying9
   rw[h];have e:strOfNums (l.map λx=>(x.toNat:Int))=⟨l.toArray⟩:=by
    unfold strOfNums;congr 1;congr 1;rw[List.map_map];conv=>rhs;rw[<-List.map_id l]
    apply List.map_congr_left;intro x _;simp
   rw[e]
  rcases hB with rfl|⟨b,off,e,_,hc⟩
  ·have h:=run_convert_bytes_string (P:=prog) w 22 9 5 (some ad) 0 c underlying22 underlying5 underlying9;rw[List.length_nil,h];simp[Conv.bytesToString];rfl
  ·injection e with e;subst e;exact key b off hc
theorem Bytes.one(w:Lo)(x:UInt8):Bytes (w.alloc (.cells #[.int .u8 x.toNat] 5)) (some ⟨w.heap.size,0,none⟩) [x]:=by refine .inr ⟨_,_,rfl,ah,λk hk=> ?_⟩;obtain rfl:k=0:=uZ;rw[aC _ _ _ _ _ _ (bz _ _)];rfl
def Holds(w:Lo)(e:Ending)(w':Lo):Prop:=e= .returned (.bool true)/\Below w.heap.size w w'
section
open Go.ChangeShapes Go.WideShapes Go.ChangeAt Go.RowKit
theorem Tryz.own:ownKnob prog.godebug=none:=ak
theorem laidOut:laidOutB prog=true:=ak
theorem xA:prog.cellsOf 5=1:=ak
theorem LU{H:Type}{enc:TypeId×Value->H}{W:Lo}{b0:Nat}{v:Value}{d:DataW H}{p:List MemPlace}
  (hval:Value.okWide prog W .any b0 22 v) (h:DataW.Trod enc prog W 0 (λ_=>true) true 22 v d p):
  ∃(A:As) (l:An) (c:Nat),v= .slice A l.length c/\l.length<=c/\c<=9223372036854775807/\Bytes W A l:=by
 obtain⟨fuel,hf⟩:=h;obtain⟨a0,len,cap,rfl⟩:=okWide_slice underlying22 hval;rcases open_ints underlying22 underlying5 xA hf with⟨hcs,_⟩|⟨a,ahB,bW,zs,hcs,_,hl,hm,hz,_,hcell,hwz⟩
 ·simp[Value.cells]at hcs;obtain⟨rfl,rfl,rfl⟩:=hcs;exact⟨none,[],0,rfl,ah,aa,.nil⟩
 ·simp[Value.cells]at hcs;obtain⟨rfl,rfl,rfl⟩:=hcs;simp only[if_true]at hz;unfold maxLen at hm;refine⟨some a,(zs.take len).map (λn=>UInt8.ofNat n.toNat),cap,by rw[cX,eZ,Nat.min_eq_left aa],aH,hm,?_⟩;rcases Nat.eq_zero_or_pos len with h0|sY;·subst h0;exact .inl ah
  ·obtain⟨b,off,spot⟩:=a;have vl:spot=none:=(by simpa [Addr.add]using World.cell?_spot (hcell 0 aa));subst vl;refine .inr ⟨b,off,rfl,?_,λk hk=> ?_⟩;·have:=block_lt_of_cell (hcell 0 aa);simpa [Addr.add]using this
   ·have hk':k<len:=(by simp at hk;omega);have hc:=hcell k aa;have hw:=hwz (zs[k]'aa) (lF _);have hb:0<=zs[k]'aa/\zs[k]'aa<256:=(by have h1:IntKind.u8.min=0:=rfl;have h2:IntKind.u8.max=255:=rfl;simp[Lit.wf]at hw;omega);rw[show(⟨b,off,none⟩:Addr).add k=⟨b,off+k,none⟩from oa]at hc;rw[hc];have e:zs.getD k 0=zs[k]'aa:=(by simp[List.getD,show k<zs.length by omega]);rw[e,List.getElem_map,List.getElem_take];congr 2;rw[fN];omega
theorem nj{a:Int}(h:(Lit.int .i64 a).wf=true): -9223372036854775808<=a/\a<=9223372036854775807:=by have e1:IntKind.i64.min= -9223372036854775808:=rfl;have e2:IntKind.i64.max=9223372036854775807:=rfl;simp[Lit.wf]at h;omega
theorem O9{a:Int}(h:(Lit.int .u32 a).wf=true):a=((BitVec.ofNat 32 a.toNat).toNat:Int):=by have e1:IntKind.u32.min=0:=rfl;have e2:IntKind.u32.max=4294967295:=rfl;simp[Lit.wf]at h;rw[lG];omega
theorem tA{H:Type}{enc:TypeId×Value->H}{W W':Lo}(hb:Below W.heap.size W W'): ∀{ts:List TypeId} {vs:List Value} {ds:List (DataW H)} {ps:List MemPlace},
  DataW.TrodAll enc prog W 0 (λ_=>true) true ts vs ds ps->(∀t∈ts,prog.readableRec t=true/\t<prog.types.size)->(∀x∈ps,x.block<W.heap.size)->
  DataW.TrodAll enc prog W' 0 (λb=>decide (b<W.heap.size)) true ts vs ds ps
 | [],vs,ds,ps,h,_,_=>by obtain⟨rfl,rfl,rfl⟩:=trodAll_nil h;exact rfl
 | t::ts,vs,ds,ps,h,hr,aV=>by
  obtain⟨v,vs',d,ds',p,q,rfl,rfl,rfl,h1,h2⟩:=trodAll_cons h;have qj:=hr t ah
  exact⟨p,q,Below.trod laidOut qj.1 qj.2 h1 hb (λx hx=>aV x (by simp[hx])),
   tA hb h2 (λt ht=>hr t (by simp[ht])) (λx hx=>aV x (by simp[hx])),rfl⟩
theorem Ua{H:Type}{enc:TypeId×Value->H}{f:Func}{s:ChangeSpec}{W W':Lo}{args:Array Value}{ds:List (DataW H)}{before:List MemPlace}
  (hr:f.resultTypes= #[4]) (hvs:s.vars=[])
  (hW:DataW.Whole enc prog f.params.toList s.vars false W args.toList ds [] before)
  (xB:(s.fn H (ds++[])).results=[.lit (.bool true)]) (ahD:(s.fn H (ds++[])).args=ds) (ahE:(s.fn H (ds++[])).vars=[])
  (Il: ∀t∈f.params.toList,prog.readableRec t=true/\t<prog.types.size)
  (hb:Below W.heap.size W W'):s.post enc prog f false true false false W args (.bool true) W':=by
 have aV:=hW.lt;have xC:=hW;obtain⟨p,q,hA,hV,rfl,_,_⟩:=hW;rw[hvs]at hV;obtain⟨_,rfl⟩:=trodVars_none hV;refine⟨ds,[],_,[],p,[],xC,?_,?_,?_,hb.frame _,λh=>oU⟩;·rw[xB,hr];exact trodAll_mk1 (shut_bool underlying4 true)
 ·rw[ahD];exact tA hb hA Il (λx hx=>aV x (by simp[hx]))
 ·rw[hvs,ahE];rfl
end
def aZ(t:TypeId)(base:Nat)(w:Lo)(v:Value)(l:List Value):Prop:=w.ownsRow base t 1 v l.length l
structure Elem(ts t:TypeId)(z:Value)(bytes:Nat):Prop where
 und:prog.underlying ts=some (.slice t)
 info:(prog.info? t).map (λi=>(i.zero,i.size,i.bytes))=some (some z,1,bytes)
 one:z.cells.size=1
theorem aZ.nil(t:TypeId)(base:Nat)(w:Lo):aZ t base w (.slice none 0 0) []:=World.ownsRow_nil w base _ 1
theorem aZ.aU{l:List Value}(h:aZ t base w v l)(hb: ∀g,v.ownBlock=some g->w'.heap[g]? =w.heap[g]?):aZ t base w' v l:=by
 rcases h with⟨h1,h2|⟨g,cap,cur,h2,h3,h4,h5⟩⟩
 ·exact⟨h1,.inl h2⟩
 ·exact⟨h1,.inr ⟨g,cap,cur,h2,h3,(hb g (by rw[h2];rfl)).trans h4,h5⟩⟩
theorem aZ.lt{t:TypeId}{base:Nat}{w:Lo}{v:Value}{l:List Value}(h:aZ t base w v l)(g:Nat)(hg:v.ownBlock=some g):base<=g/\g<w.heap.size:=jO h g hg
theorem aZ.below{l:List Value}(h:aZ t base w v l)(hb:Below w.heap.size w w'):aZ t base w' v l:=h.aU λg hg=>hb.block g (h.lt g hg).2
theorem aZ.alloc{t:TypeId}{base:Nat}{w:Lo}{v:Value}{l:List Value}(h:aZ t base w v l)(o:Obj):aZ t base (w.alloc o) v l:=h.below (az)
theorem aZ.drew{l:List Value}(h:aZ t base w v l):aZ t base w.drew v l:=h
theorem aZ.grown{v2:Value}{l:List Value}(h:aZ t base w v l)(hg:w.grownBy w' v2.ownBlock)(fj: ∀g,v.ownBlock=some g->v2.ownBlock≠some g):aZ t base w' v l:=
 h.aU λg e=>hg.block g (h.lt g e).2 (λh2=>fj g e h2.symm)
theorem aZ.form{l:List Value}(h:aZ t base w v l):
  (v= .slice none 0 0/\l=[])\/ ∃g cap,v= .slice (some ⟨g,0,none⟩) l.length cap/\base<=g/\g<w.heap.size/\l.length<=cap/\cap<=9223372036854775807/\ ∀i (h:i<l.length),w.cell? ⟨g,i,none⟩=some l[i]:=by
 have hc:=fun(g cap:Nat) (e:v= .slice (some ⟨g,0,none⟩) l.length cap) (i:Nat) (hi:i<l.length)=>World.ownsRow.cellAt (e▸h) i aa;rcases h with⟨h1,⟨h2,h3⟩|⟨g,cap,cur,h2,h3,h4,h5,h6,h7,h8⟩⟩
 ·exact .inl ⟨h2,mm h3⟩
 ·refine .inr ⟨g,cap,h2,h3,?_,h5,AM,λi hi=> ?_⟩
  ·rcases dN g w.heap.size with h|h;·exact h
   ·rw[lI h]at h4;cases h4
  ·rw[hc g cap h2 i hi,dS hi]
theorem aZ.read{l:List Value}(h:aZ t base w v l):
  ∃A c,v= .slice A l.length c/\l.length<=c/\c<=9223372036854775807/\(∀i (h:i<l.length),∃g,A=some ⟨g,0,none⟩/\w.cell? ⟨g,i,none⟩=some l[i]):=by
 rcases h.form with⟨rfl,rfl⟩|⟨g,cap,rfl,_,_,hc,hm,hcell⟩
 ·exact⟨none,0,rfl,ah,aa,λi hi=>by simp at hi⟩
 ·exact⟨_,cap,rfl,hc,hm,λi hi=>⟨g,rfl,hcell i hi⟩⟩
theorem aZ.bT{l:List Value}(h:aZ t base w v l)(hl:0<l.length):
  ∃g cap,v= .slice (some ⟨g,0,none⟩) l.length cap/\base<=g/\g<w.heap.size/\l.length<=cap/\cap<=9223372036854775807/\ ∀i (h:i<l.length),w.cell? ⟨g,i,none⟩=some l[i]:=by
 rcases h.form with⟨_,rfl⟩|h;·simp at hl
 ·exact h
theorem aZ.lit(t:TypeId)(w:Lo)(l:List Value)(hb:base<=w.heap.size)(hm:l.length<=9223372036854775807):aZ t base (w.alloc (.cells l.toArray t)) (.slice (some ⟨w.heap.size,0,none⟩) l.length l.length) l:=by have:=World.ownsRow_lit (base:=base) (e:=t) (size:=1) w l.toArray l.length hb (by unfold maxLen;exact hm) ah;simpa [aZ]using this
theorem f7{a:Lo}(h:Below B a w)(hg:w.grownBy w' v.ownBlock)(hB:B<=w.heap.size)(hr: ∀g,v.ownBlock=some g->B<=g):Below B a w':=am h hg hB hr
theorem jn(hE:Elem ts t z bytes)(base:Nat)(ty:TypeId)(w:Lo)(v:Value)(l:List Value)(aL:aZ t base w v l)(hh m c:Nat)(news:List Value)(hl:news.length=m)
  (hc: ∀i (h:i<news.length),w.cell? ⟨hh,i,none⟩=some news[i]) (h1: ∀u∈news,u.oneCell'=true) (dF:(l.length+m)*bytes<=140737488355328) (yp:l.length+m<=140737488355328) (aX:base<=w.heap.size):
  ∃v' w',(Builtin.append_ #[ts,ts] ty #[v,.slice (some ⟨hh,0,none⟩) m c]).run prog w= .ok v' w'/\aZ t base w' v' (l++news)/\w.grownBy w' v.ownBlock/\(v'.ownBlock=v.ownBlock\/v'.ownBlock=some w.heap.size):=by
 obtain⟨i,hi,qw,kC,me⟩:=info_parts hE.info
 obtain⟨v',w',hr,h2,h3,_,h5⟩:=run_append_own_at (P:=prog) w base ts ty t i z 1 bytes hE.und hi qw kC me hE.one ar
  v l.length l aL ⟨hh,0,none⟩ m c news aa (by
   intro j u hu;have hj:j<news.length:=by
    rcases dN j news.length with h|h;·exact h
    ·rw[qE h]at hu;cases hu
   have:=hc j hj;rw[dS hj]at hu;injection hu with hu;rw[<-hu,<-this,show(⟨hh,0,none⟩:Addr).add j=⟨hh,j,none⟩from oa]) h1 iJ dF aX
 exact⟨v',w',hr,by simpa [aZ,hl]using h2,h3,h5⟩
theorem bB(hE:Elem ts t z bytes)(oV:o.guard=none)(s x:Operand)
  (ho:o.op= .call {callee:= .builtin .append,args:= #[s,x],argTypes:= #[ts,ts]})
  (base:Nat) (w:Lo) (v:Value) (l:List Value) (hs:a.eval s=v) (aL:aZ t base w v l) (hh m c:Nat) (news:List Value) (hx:a.eval x= .slice (some ⟨hh,0,none⟩) m c) (hl:news.length=m)
  (hc: ∀i (h:i<news.length),w.cell? ⟨hh,i,none⟩=some news[i]) (h1: ∀u∈news,u.oneCell'=true) (dF:(l.length+m)*bytes<=140737488355328) (yp:l.length+m<=140737488355328) (aX:base<=w.heap.size)
  (h: ∀v' w',aZ t base w' v' (l++news)->w.grownBy w' v.ownBlock->(v'.ownBlock=v.ownBlock\/v'.ownBlock=some w.heap.size)->wpList prog ops Q rest (a.put o.dst v') w'):wpList prog ops Q (o::rest) a w:=by
 refine wpList_plain oV λK hK=> ?_;obtain⟨v',w',hr,h2,h3,h4⟩:=jn hE base o.type w v l aL hh m c news hl hc h1 dF yp aX;unfold Oper.wp execOp;simp only[ho,resolve,invoke,builtin,Sem.run_bind,Sem.run_pure,Result.andThen_ok,List.map_toArray,gy,List.map_nil,hs,hx,hr];exact hK _ _ (h v' w' h2 h3 h4)
theorem iB(hE:Elem ts t z bytes){K:Act->World->Prop}(oV:o.guard=none)(s x:Operand)
  (ho:o.op= .call {callee:= .builtin .append,args:= #[s,x],argTypes:= #[ts,ts]})
  (base:Nat) (w:Lo) (v:Value) (l:List Value) (hs:a.eval s=v) (aL:aZ t base w v l) (hh m c:Nat) (news:List Value) (hx:a.eval x= .slice (some ⟨hh,0,none⟩) m c) (hl:news.length=m)
  (hc: ∀i (h:i<news.length),w.cell? ⟨hh,i,none⟩=some news[i]) (h1: ∀u∈news,u.oneCell'=true) (dF:(l.length+m)*bytes<=140737488355328) (yp:l.length+m<=140737488355328) (aX:base<=w.heap.size)
  (h: ∀v' w',aZ t base w' v' (l++news)->w.grownBy w' v.ownBlock->(v'.ownBlock=v.ownBlock\/v'.ownBlock=some w.heap.size)->K (a.put o.dst v') w'):if Region.wanted o (yielded ops a.tmps)=true then Oper.wp prog o a w K Q else K (a.put o.dst undef) w:=by
 rw[ax nH];obtain⟨v',w',hr,h2,h3,h4⟩:=jn hE base o.type w v l aL hh m c news hl hc h1 dF yp aX;unfold Oper.wp execOp;simp only[ho,resolve,invoke,builtin,Sem.run_bind,Sem.run_pure,Result.andThen_ok,List.map_toArray,gy,List.map_nil,hs,hx,hr];exact h v' w' h2 h3 h4
theorem gJ(w:Lo)(u:Value)(t:TypeId): ∀i (h:i<[u].length),(w.alloc (.cells #[u] t)).cell? ⟨w.heap.size,i,none⟩=some [u][i]:=by intro i hi;obtain rfl:i=0:=jP;rw[aC _ _ _ _ _ _ (bz _ _)];rfl
abbrev PF(F:Nat):Value:= .pointer (some ⟨F,0,none⟩)
theorem dQ{d:An}{i:Nat}(h:i<d.length):d.getD i 0=d[i]:=by simp[List.getD,h]
theorem heap_set(h:w.heap[g]? =some (.cells L.toArray t (0,0)))(i:Nat)(v:Value):(w.setCell ⟨g,i,none⟩ v).heap[g]? =some (.cells (L.set i v).toArray t (0,0)):=by unfold World.setCell;simp[Array.getElem?_modify,h]
theorem af(w:Lo)(a:Addr)(v:Value)(i:Nat)(h:i≠a.block):(w.setCell a v).heap[i]? =w.heap[i]? :=RowKit.Below.heap_setCell _ _ _ _ h
abbrev LV(a b c d:Int):Value:= .agg #[.int .i64 a,.int .i64 b,.int .i64 c,.int .i64 d]
abbrev mq(k:Int)(b:UInt8)(l d r:Int):Value:= .agg #[.int .i64 k,.int .u8 b.toNat,.int .i64 l,.int .i64 d,.int .i64 r]
theorem ob{W:Lo}{cs:List Value}(h:W.heap[b]? =some (.cells L.toArray t (0,0)))(hcs: ∀j,j<cs.length->cs[j]? =L[j]?): ∀j v,cs[j]? =some v->W.drew.cell? ((⟨b,0,none⟩:Addr).add j)=some v:=by intro j v hj;have qu:j<cs.length:=(List.getElem?_eq_some_iff.1 hj).1;have e:((⟨b,0,none⟩:Addr).add j)=⟨b,j,none⟩:=oa;have h':W.drew.heap[b]? =some (.cells L.toArray t (0,0)):=h;rw[e,aC W.drew b _ _ _ _ h',List.getElem?_toArray,<-hcs j qu,hj]
theorem Im:prog.arrayLen 152=4:=ak
theorem ZH:prog.underlying 152=some (.array (prog.arrayLen 152) (prog.elem 152)):=ak
theorem Bc(g n:Nat)(h:n<=3)(w:Lo):(Instr.sliceAt 152 (.pointer (some ⟨g,0,none⟩)) (some (.int .i64 1)) (some (.int .i64 (n+1:Nat))) none).run prog w= .ok (.slice (some ⟨g,1,none⟩) n 3) w:=by have hs:(sizeOf (prog.elem 152)).run prog w= .ok 1 w:=ak;rw[run_sliceAt_array_lh w 152 ⟨g,0,none⟩ ZH .i64 .i64 1 (n+1:Nat) ar aa (by rw[Im];omega),hs,Im];simp only[Result.andThen,slicedAt,Int.toNat_natCast,Nat.mul_one];rw[au ar,show(1:Int).toNat=1 from rfl,Addr.add_mid,Nat.zero_add,Nat.add_sub_cancel]
theorem Ip(g n:Nat)(h:n<=4)(w:Lo):(Instr.sliceAt 152 (.pointer (some ⟨g,0,none⟩)) none (some (.int .i64 n)) none).run prog w= .ok (.slice (some ⟨g,0,none⟩) n 4) w:=by have hs:(sizeOf (prog.elem 152)).run prog w= .ok 1 w:=ak;rw[run_sliceAt_array_h w 152 ⟨g,0,none⟩ ZH .i64 n aa (by rw[Im];omega),hs,Im];simp only[Result.andThen,slicedAt,Int.toNat_natCast,Nat.mul_one,Nat.sub_zero];rw[au ar];simp[Addr.add]
def r4(a b c d:Int):Nat->Int
 | 0=>a
 | 1=>b
 | 2=>c
 | _=>d
theorem ahF(a b c d:Int)(w:Lo):(Instr.index 152 (.agg #[.int .i64 a,.int .i64 b,.int .i64 c,.int .i64 d]) (.int .i64 0)).run prog w= .ok (.int .i64 a) w:=by first|rfl|kernel_rfl|(simp[Instr.index,run_underlying underlying152,asIntOf,go_sem])
theorem ahG(a b c d:Int)(w:Lo):(Instr.index 152 (.agg #[.int .i64 a,.int .i64 b,.int .i64 c,.int .i64 d]) (.int .i64 1)).run prog w= .ok (.int .i64 b) w:=by first|rfl|kernel_rfl|(simp[Instr.index,run_underlying underlying152,asIntOf,go_sem])
theorem ahH(a b c d:Int)(w:Lo):(Instr.index 152 (.agg #[.int .i64 a,.int .i64 b,.int .i64 c,.int .i64 d]) (.int .i64 2)).run prog w= .ok (.int .i64 c) w:=by first|rfl|kernel_rfl|(simp[Instr.index,run_underlying underlying152,asIntOf,go_sem])
theorem ahI(a b c d:Int)(w:Lo):(Instr.index 152 (.agg #[.int .i64 a,.int .i64 b,.int .i64 c,.int .i64 d]) (.int .i64 3)).run prog w= .ok (.int .i64 d) w:=by first|rfl|kernel_rfl|(simp[Instr.index,run_underlying underlying152,asIntOf,go_sem])
structure Sy where
 k:Nat
 b:UInt8
 l:Nat
 d:Nat
 r:Nat
deriving DecidableEq
abbrev Sy.val(s:Sy):Value:=mq (s.k:Nat) s.b (s.l:Nat) (s.d:Nat) (s.r:Nat)
abbrev R4:=Int×Int×Int×Int
abbrev R4.val(r:R4):Value:=LV r.1 r.2.1 r.2.2.1 r.2.2.2
def eD(s:Sy)(r:R4):R4:=
 if s.k=0 then r
 else if s.k=1 then((s.d:Int),r.1,r.2.1,r.2.2.1)
 else match s.r with
  | 0=>r
  | 1=>(r.2.1,r.1,r.2.2.1,r.2.2.2)
  | 2=>(r.2.2.1,r.1,r.2.1,r.2.2.2)
  | _=>(r.2.2.2,r.1,r.2.1,r.2.2.1)
def cY(l:List Sy):List Value:=l.flatMap λs=>[Value.int .i64 (s.k:Nat),.int .u8 (s.b.toNat:Nat),.int .i64 (s.l:Nat),.int .i64 (s.d:Nat),.int .i64 (s.r:Nat)]
theorem Bd(l:List Sy):(cY l).length=l.length*5:=by
 induction l with
 | nil=>rfl
 | cons a l ih=>simp only[cY,List.flatMap_cons,aG,el,List.length_nil]at ih ⊢;omega
theorem Be(l m:List Sy):cY (l++m)=cY l++cY m:=by simp[cY]
theorem Iq(l:List Sy): ∀i (h:i<l.length),(cY l)[5*i]? =some (.int .i64 (l[i].k:Nat))/\(cY l)[5*i+1]? =some (.int .u8 (l[i].b.toNat:Nat))/\(cY l)[5*i+2]? =some (.int .i64 (l[i].l:Nat))/\
  (cY l)[5*i+3]? =some (.int .i64 (l[i].d:Nat))/\(cY l)[5*i+4]? =some (.int .i64 (l[i].r:Nat)):=by
 induction l with
 | nil=>intro i h;simp at h
 | cons a l ih=>
  intro i h;cases i with
  | zero=>exact⟨rfl,rfl,rfl,rfl,rfl⟩
  | succ i=>
   have:=ih i qH;rw[show 5*(i+1)=5*i+1+1+1+1+1 by omega];exact this
def f8(base:Nat)(w:Lo)(v:Value)(l:List Sy):Prop:=w.ownsRow base 183 5 v l.length (cY l)
theorem acU:(prog.info? 183).map (λi=>(i.zero,i.size,i.bytes))=some (some (.agg #[.int .i64 0,.int .u8 0,.int .i64 0,.int .i64 0,.int .i64 0]),5,40):=ak
theorem f8.nil(base:Nat)(w:Lo):f8 base w (.slice none 0 0) []:=World.ownsRow_nil w base _ 5
theorem f8.aU{l:List Sy}(h:f8 base w v l)(hb: ∀g,v.ownBlock=some g->w'.heap[g]? =w.heap[g]?):f8 base w' v l:=by
 rcases h with⟨h1,h2|⟨g,cap,cur,h2,h3,h4,h5⟩⟩
 ·exact⟨h1,.inl h2⟩
 ·exact⟨h1,.inr ⟨g,cap,cur,h2,h3,(hb g (by rw[h2];rfl)).trans h4,h5⟩⟩
theorem f8.lt{base:Nat}{w:Lo}{v:Value}{l:List Sy}(h:f8 base w v l)(g:Nat)(hg:v.ownBlock=some g):base<=g/\g<w.heap.size:=jO h g hg
theorem f8.weaken{gz:Nat}{l:List Sy}(h:f8 base w v l)(hb:gz<=base):f8 gz w v l:=by
 rcases h with⟨h1,h2|⟨g,cap,cur,h2,h3,h4⟩⟩
 ·exact⟨h1,.inl h2⟩
 ·exact⟨h1,.inr ⟨g,cap,cur,h2,a8 hb h3,h4⟩⟩
theorem f8.below{l:List Sy}(h:f8 base w v l)(hb:Below w.heap.size w w'):f8 base w' v l:=h.aU λg hg=>hb.block g (h.lt g hg).2
theorem f8.set{l:List Sy}(h:f8 base w v l){p:Addr}(hp:p.block<base)(u:Value):f8 base (w.setCell p u) v l:=h.aU λg hg=>af _ _ _ _ (by have:=(h.lt g hg).1;omega)
theorem f8.read{l:List Sy}(h:f8 base w v l)(hl:0<l.length):
  ∃g cap,v= .slice (some ⟨g,0,none⟩) l.length cap/\g<w.heap.size/\l.length<=cap/\cap<=9223372036854775807/\ ∀i (h:i<l.length),w.cell? ⟨g,5*i,none⟩=some (.int .i64 (l[i].k:Nat))/\w.cell? ⟨g,5*i+1,none⟩=some (.int .u8 (l[i].b.toNat:Nat))/\
   w.cell? ⟨g,5*i+2,none⟩=some (.int .i64 (l[i].l:Nat))/\w.cell? ⟨g,5*i+3,none⟩=some (.int .i64 (l[i].d:Nat))/\w.cell? ⟨g,5*i+4,none⟩=some (.int .i64 (l[i].r:Nat)):=by
 rcases h with⟨h1,⟨h2,h3⟩|⟨g,cap,cur,rfl,h3,h4,h5,h6,h7,h8⟩⟩
 ·omega
 ·refine⟨g,cap,rfl,(bU h4),h5,AM,λi hi=> ?_⟩;have Ir:=Iq l i hi;have hc: ∀j,j<l.length*5->w.cell? ⟨g,j,none⟩=(cY l)[j]? :=λj hj=>by have e:cur[j]? =(cY l)[j]? :=(by rw[<-h8,List.getElem?_take_of_lt aa,Array.getElem?_toList]);rw[<-e,aC w g j _ _ _ h4]
  refine⟨?_,?_,?_,?_,?_⟩;·rw[hc _ aa];exact Ir.1
  ·rw[hc _ aa];exact Ir.2.1
  ·rw[hc _ aa];exact Ir.2.2.1
  ·rw[hc _ aa];exact Ir.2.2.2.1
  ·rw[hc _ aa];exact Ir.2.2.2.2
theorem Dw(ty:TypeId)(base:Nat)(w:Lo)(v:Value)(l:List Sy)(aL:f8 base w v l)(hh c:Nat)(s:Sy)
  (hc:w.heap[hh]? =some (.cells (cY [s]).toArray 183 (0,0))) (hl:l.length<=1000000) (aX:base<=w.heap.size):
  ∃v' w',(Builtin.append_ #[176,176] ty #[v,.slice (some ⟨hh,0,none⟩) 1 c]).run prog w= .ok v' w'/\f8 base w' v' (l++[s])/\w.grownBy w' v.ownBlock:=by
 obtain⟨i,hi,hz⟩:=Option.map_eq_some_iff.1 acU;injection hz with qw hz;injection hz with kC me
 obtain⟨v',w',hr,h2,h3,_⟩:=run_append_own (P:=prog) w base 176 ty 183 i _ 5 40 underlying176 hi qw kC me rfl ar
  v l.length (cY l) aL ⟨hh,0,none⟩ 1 c (cY [s]) (by rw[Bd];rfl) (by
   intro j u hu;have e:(⟨hh,0,none⟩:Addr).add j=⟨hh,j,none⟩:=oa;rw[e,aC w hh _ _ _ _ hc,List.getElem?_toArray,hu]) (by intro u hu;simp[cY]at hu;rcases hu with rfl|rfl|rfl|rfl|rfl<;>rfl) iJ aa aX
 exact⟨v',w',hr,by unfold f8;rw[Be];simpa using h2,h3⟩
theorem oc(oV:o.guard=none)(s x:Operand)
  (ho:o.op= .call {callee:= .builtin .append,args:= #[s,x],argTypes:= #[176,176]})
  (base:Nat) (w:Lo) (v:Value) (l:List Sy) (hs:a.eval s=v) (aL:f8 base w v l) (hh c:Nat) (y:Sy) (hx:a.eval x= .slice (some ⟨hh,0,none⟩) 1 c)
  (hc:w.heap[hh]? =some (.cells (cY [y]).toArray 183 (0,0))) (hl:l.length<=1000000) (aX:base<=w.heap.size)
  (h: ∀v' w',f8 base w' v' (l++[y])->w.grownBy w' v.ownBlock->wpList prog ops Q rest (a.put o.dst v') w'):wpList prog ops Q (o::rest) a w:=by
 refine wpList_plain oV λK hK=> ?_;obtain⟨v',w',hr,h2,h3⟩:=Dw o.type base w v l aL hh c y hc hl aX;unfold Oper.wp execOp;simp only[ho,resolve,invoke,builtin,Sem.run_bind,Sem.run_pure,Result.andThen_ok,List.map_toArray,gy,List.map_nil,hs,hx,hr];exact hK _ _ (h v' w' h2 h3)
theorem f8.form{l:List Sy}(h:f8 base w v l):
  ∃A cap,v= .slice A l.length cap/\l.length<=cap/\cap<=9223372036854775807/\ ∀i (h:i<l.length),∃g,A=some ⟨g,0,none⟩/\g<w.heap.size/\w.cell? ⟨g,5*i,none⟩=some (.int .i64 (l[i].k:Nat))/\w.cell? ⟨g,5*i+1,none⟩=some (.int .u8 (l[i].b.toNat:Nat))/\
   w.cell? ⟨g,5*i+2,none⟩=some (.int .i64 (l[i].l:Nat))/\w.cell? ⟨g,5*i+3,none⟩=some (.int .i64 (l[i].d:Nat))/\w.cell? ⟨g,5*i+4,none⟩=some (.int .i64 (l[i].r:Nat)):=by
 by_cases hl:0<l.length;·obtain⟨g,cap,rfl,hg,hc,hm,cZ⟩:=h.read hl;exact⟨_,cap,rfl,hc,hm,λi hi=>⟨g,rfl,hg,cZ i hi⟩⟩
 ·rcases h with⟨_,⟨rfl,h3⟩|⟨g,cap,cur,rfl,h3,h4,h5,h6,_⟩⟩
  ·exact⟨none,0,by rw[h3],aa,ar,λi hi=>aa⟩
  ·exact⟨_,cap,rfl,h5,AM,λi hi=>aa⟩
section
open Go.Shelf
def vw:Go.Shelf.Ren:=⟨λ| 128=>274|n=>n,λ| 51=>24|3=>3|4=>4|46=>147|5=>5|9=>9|n=>n,λ| n=>n⟩
theorem DB:Go.Proofs.Lays.n128 prog vw:={
 mixed:=ak
 f128:=func274.trans (aR some ak)
 t3:=underlying3
 a3:=isAgg3
 z3:=sizeOf3
 v3:=zeroValue3
 t4:=underlying4
 a4:=isAgg4
 z4:=sizeOf4
 v4:=zeroValue4
 t5:=underlying5
 a5:=isAgg5
 z5:=sizeOf5
 v5:=zeroValue5
 t9:=underlying9
 a9:=isAgg9
 z9:=sizeOf9
 v9:=zeroValue9
 t46:=underlying147
 a46:=isAgg147
 z46:=sizeOf147
 v46:=zeroValue147
 t51:=underlying24
 a51:=isAgg24
 z51:=sizeOf24
 v51:=zeroValue24}
theorem xH(x:Int)(w:Lo)(h0:0<=x)(h1:x<=4294967295):
  Calls prog 274 #[.int .u32 x] w λe w'=>e= .returned (.int .i64 (Lib.bitLen x.toNat))/\w'=w:=Any.bits_Len32 DB x w h0 h1
def vx:Go.Shelf.Ren:=⟨λ| 115=>92|n=>n,λ| 37=>22|4=>4|9=>9|5=>5|n=>n,λ| n=>n⟩
theorem DC:Go.Proofs.Lays.n115 prog vx:={
 mixed:=ak
 f115:=func92.trans (aR some ak)
 t4:=underlying4
 a4:=isAgg4
 z4:=sizeOf4
 v4:=zeroValue4
 t9:=underlying9
 a9:=isAgg9
 z9:=sizeOf9
 v9:=zeroValue9
 t37:=underlying22
 a37:=isAgg22
 z37:=sizeOf22
 v37:=zeroValue22}
open Go.Proofs Go.RowKit Go.Lib in
theorem pi(v1 v2:Value)(t1 t2:ByteArray)(w:Lo)(h1:(convert 22 9 v1).run prog w= .ok (.string t1) w)(h2:(convert 22 9 v2).run prog w= .ok (.string t2) w):
  Calls prog 92 #[v1,v2] w λe w'=>e= .returned (.bool (t1.toList==t2.toList))/\w'=w:=Any.bytes_Equal_strs DC v1 v2 t1 t2 w h1 h2
def td:Go.Shelf.Ren:=⟨λ| 14=>24|15=>49|n=>n,λ| 26=>27|22=>22|3=>3|4=>4|0=>0|9=>9|20=>20|5=>5|n=>n,λ| n=>n⟩
theorem jo:Go.Proofs.SlLaysJ.n14 prog td:={
 mixed:=ak
 f14:=func24.trans (aR some ak)
 f15:=func49.trans (aR some ak)
 t0:=underlying0
 a0:=isAgg0
 z0:=sizeOf0
 v0:=zeroValue0
 t3:=underlying3
 a3:=isAgg3
 z3:=sizeOf3
 v3:=zeroValue3
 t4:=underlying4
 a4:=isAgg4
 z4:=sizeOf4
 v4:=zeroValue4
 t9:=underlying9
 a9:=isAgg9
 z9:=sizeOf9
 v9:=zeroValue9
 t20:=underlying20
 a20:=isAgg20
 z20:=sizeOf20
 v20:=zeroValue20
 t22:=underlying22
 a22:=isAgg22
 z22:=sizeOf22
 v22:=zeroValue22
 t26:=underlying27
 a26:=isAgg27
 z26:=sizeOf27
 v26:=zeroValue27
 t5:=underlying5
 z5:=sizeOf5
 i5:=ak}
open Go.RowKit Go.Lib in
theorem gM(b o n c:Nat)(vs:List Value)(ls:List (An))(sv:Value)(sep:An)(w:Lo)(hn:ls.length=n)(h2:2<=n)(hP:Lib.PartsAt w ⟨b,o,none⟩ vs ls)(IU:n<=c)(hS:Lib.HoldsBytes w sv sep)(aoJ:n<=140737488355328)(hlen:Lib.lens ls+sep.length*(n-1)<=140737488355328):
  Calls prog 24 #[.slice (some ⟨b,o,none⟩) n c,sv] w λe w'=> ∃v',e= .returned v'/\Lib.FreshBytes w.heap.size w' v' (Lib.join ls sep)/\Below w.heap.size w w':=Any.bytes_Join_many jo b o n c vs ls sv sep w hn h2 hP IU hS aoJ hlen
open Go.RowKit Go.Lib in
theorem qm(p:As)(c:Nat)(sv:Value)(w:Lo):
  Calls prog 24 #[.slice p 0 c,sv] w λe w'=>e= .returned (.slice (some ⟨w.heap.size,0,none⟩) 0 0)/\w'=w.alloc (.cells #[] 5):=Any.bytes_Join_none jo p c sv w
open Go.RowKit Go.Lib in
theorem qY(b o c:Nat)(ad0:Addr)(c0:Nat)(l0:An)(sv:Value)(w:Lo)(hcell:w.cell? ⟨b,o,none⟩=some (.slice (some ad0) l0.length c0))(hc: ∀(i:Nat) x,l0[i]? =some x->w.cell? (ad0.add i)=some (.int .u8 (x.toNat:Int)))(h0:0<l0.length)(hs:l0.length<=140737488355328):
  Calls prog 24 #[.slice (some ⟨b,o,none⟩) 1 c,sv] w λe w'=> ∃v',e= .returned v'/\Lib.FreshBytes w.heap.size w' v' l0/\Below w.heap.size w w':=Any.bytes_Join_one jo b o c ad0 c0 l0 sv w hcell hc h0 hs
open Go.RowKit Go.Lib in
theorem mu(b o c:Nat)(p0:As)(c0:Nat)(sv:Value)(w:Lo)(hcell:w.cell? ⟨b,o,none⟩=some (.slice p0 0 c0)):
  Calls prog 24 #[.slice (some ⟨b,o,none⟩) 1 c,sv] w λe w'=>e= .returned (.slice none 0 0)/\w'=w:=Any.bytes_Join_one_empty jo b o c p0 c0 sv w hcell
end
theorem jL(i:Nat)
  (hy: ∀w,S w->(execOp a.eval oi).run P w= .ok (.value v) w) (hS:S w) (h:wpAnyH P md ops Q S fuel (listed.setIfInBounds i true) (a.put oi.dst v) w)
  (hi:ops.toList.drop i=oi::rest:=by rfl) (hs:Region.noSelect ops=true:=by kernel_rfl) (hf:Region.free md ops listed i=true:=by kernel_rfl) (hr:(Region.ready md ops listed).contains i=true:=by kernel_rfl)
  (hq: ∀c a w,Q (.panic c) (a.put oi.dst v) w->Q (.panic c) a w:=by exact λ_ _ _ h=>h) (hw:Region.wanted oi (yielded ops a.tmps)=true:=by rfl):wpAnyH P md ops Q S (fuel+1) listed a w:=
 wpAnyH_take (by have e:=aR (λl:List Oper=>l[0]?) hi;simpa using e) hs hf hr hq (.inl ⟨hw,hy⟩) hS h
theorem bx(i:Nat)
  (hi:ops.toList.drop i=oi::rest) (hy: ∀w,S w->(execOp a.eval oi).run P w= .ok (.value v) w) (hS:S w)
  (hs:Region.noSelect ops=true:=by kernel_rfl) (hf:Region.free md ops listed i=true:=by kernel_rfl) (hr:(Region.ready md ops listed).contains i=true:=by kernel_rfl)
  (hq: ∀c a w,Q (.panic c) (a.put oi.dst v) w->Q (.panic c) a w:=by exact λ_ _ _ h=>h) (hw:Region.wanted oi (yielded ops a.tmps)=true:=by rfl)
  (hp:a.put oi.dst v=a':=by(try simp only[Act.put,List.setIfInBounds_toArray,List.set_cons_zero,List.set_cons_succ]);rfl)
  (hl:listed.setIfInBounds i true=l':=by(try simp only[List.setIfInBounds_toArray,List.set_cons_zero,List.set_cons_succ]);rfl)
  (h:wpAnyH P md ops Q S fuel l' a' w):wpAnyH P md ops Q S (fuel+1) listed a w:=
 jL i hy hS (hl▸hp▸h) hi hs hf hr hq hw
theorem ag(i:Nat)
  (hS:S w)
  (hi:ops.toList.drop i=oi::rest:=by rfl) (hs:Region.noSelect ops=true:=by kernel_rfl) (hf:Region.free md ops listed i=true:=by kernel_rfl) (hr:(Region.ready md ops listed).contains i=true:=by kernel_rfl)
  (hy: ∀w,S w->(execOp a.eval oi).run P w= .ok (.value v) w:=by intro w hSw;go_simp;all_goals(with_reducible rfl))
  (hq: ∀c a w,Q (.panic c) (a.put oi.dst v) w->Q (.panic c) a w:=by exact λ_ _ _ h=>h) (hw:Region.wanted oi (yielded ops a.tmps)=true:=by rfl)
  (hp:a.put oi.dst v=a':=by(try simp only[Act.put,List.setIfInBounds_toArray,List.set_cons_zero,List.set_cons_succ]);rfl)
  (hl:listed.setIfInBounds i true=l':=by(try simp only[List.setIfInBounds_toArray,List.set_cons_zero,List.set_cons_succ]);rfl)
  (h:wpAnyH P md ops Q S fuel l' a' w):wpAnyH P md ops Q S (fuel+1) listed a w:=
 jL i hy hS (hl▸hp▸h) hi hs hf hr hq hw
theorem bN(i:Nat)
  (hS:S w)
  (hi:ops.toList.drop i=oi::rest:=by rfl) (hs:Region.noSelect ops=true:=by kernel_rfl) (hf:Region.free md ops listed i=true:=by kernel_rfl) (hr:(Region.ready md ops listed).contains i=true:=by kernel_rfl)
  (hy: ∀w,S w->(execOp a.eval oi).run P w= .ok (.value v) w:=by intro w;(try simp only[and_imp]);intros;go_simp;all_goals(with_reducible rfl))
  (hq: ∀c a w,Q (.panic c) (a.put oi.dst v) w->Q (.panic c) a w:=by exact λ_ _ _ h=>h) (hw:Region.wanted oi (yielded ops a.tmps)=true:=by rfl)
  (hp:a.put oi.dst v=a':=by(try simp only[Act.put,List.setIfInBounds_toArray,List.set_cons_zero,List.set_cons_succ]);rfl)
  (hl:listed.setIfInBounds i true=l':=by(try simp only[List.setIfInBounds_toArray,List.set_cons_zero,List.set_cons_succ]);rfl)
  (h:wpAnyH P md ops Q S fuel l' a' w):wpAnyH P md ops Q S (fuel+1) listed a w:=
 jL i hy hS (hl▸hp▸h) hi hs hf hr hq hw
theorem cC(i:Nat)
  {p:World->Prop} (hX: ∀w,S w->p w) (hS:S w)
  (hi:ops.toList.drop i=oi::rest:=by rfl) (hs:Region.noSelect ops=true:=by kernel_rfl) (hf:Region.free md ops listed i=true:=by kernel_rfl) (hr:(Region.ready md ops listed).contains i=true:=by kernel_rfl)
  (hy: ∀w,p w->(execOp a.eval oi).run P w= .ok (.value v) w:=by intro w;(try simp only[and_imp]);intros;go_simp;all_goals(with_reducible rfl))
  (hq: ∀c a w,Q (.panic c) (a.put oi.dst v) w->Q (.panic c) a w:=by exact λ_ _ _ h=>h) (hw:Region.wanted oi (yielded ops a.tmps)=true:=by rfl)
  (hp:a.put oi.dst v=a':=by(try simp only[Act.put,List.setIfInBounds_toArray,List.set_cons_zero,List.set_cons_succ]);rfl)
  (hl:listed.setIfInBounds i true=l':=by(try simp only[List.setIfInBounds_toArray,List.set_cons_zero,List.set_cons_succ]);rfl)
  (h:wpAnyH P md ops Q S fuel l' a' w):wpAnyH P md ops Q S (fuel+1) listed a w:=
 jL i (λw h=>hy w (hX w h)) hS (hl▸hp▸h) hi hs hf hr hq hw
theorem dD(i:Nat)
  (hS:S w)
  (hi:ops.toList.drop i=oi::rest:=by rfl) (hs:Region.noSelect ops=true:=by kernel_rfl) (hf:Region.free md ops listed i=true:=by kernel_rfl) (hr:(Region.ready md ops listed).contains i=true:=by kernel_rfl)
  (hq: ∀c a w,Q (.panic c) (a.put oi.dst undef) w->Q (.panic c) a w:=by exact λ_ _ _ h=>h) (hw:Region.wanted oi (yielded ops a.tmps)=false:=by rfl)
  (hp:a.put oi.dst undef=a':=by(try simp only[Act.put,List.setIfInBounds_toArray,List.set_cons_zero,List.set_cons_succ]);rfl)
  (hl:listed.setIfInBounds i true=l':=by(try simp only[List.setIfInBounds_toArray,List.set_cons_zero,List.set_cons_succ]);rfl)
  (h:wpAnyH P md ops Q S fuel l' a' w):wpAnyH P md ops Q S (fuel+1) listed a w:=
 wpAnyH_take (v:=undef) (by have e:=aR (λl:List Oper=>l[0]?) hi;simpa using e) hs hf hr hq (.inr ⟨hw,rfl⟩) hS (hl▸hp▸h)
theorem aO(i:Nat)
  (h: ∀K':Act->World->Prop,Shut (∀a w,S w->(S w->wpAnyH P md ops Q S fuel (listed.setIfInBounds i true) a w)->K' a w)->if Region.wanted oi (yielded ops a.tmps)=true then Oper.wp P oi a w K' Q else K' (a.put oi.dst undef) w)
  (hi:ops.toList.drop i=oi::rest:=by rfl) (hr:Region.ready md ops listed=[i]:=by kernel_rfl):wpAnyH P md ops Q S (fuel+1) listed a w:=
 wpAnyH_ready hr (by simp) (AllReadyH.cons (by have e:=aR (λl:List Oper=>l[0]?) hi;simpa using e) h AllReadyH.nil)
end Go.Proofs.YtfcaoggfnkhfiaaGreatDoor
