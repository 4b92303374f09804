import Derived.Test.YtfcaoggfnkhfiaaGreatDoorZ13
namespace Go.Proofs.YtfcaoggfnkhfiaaGreatDoor
set_option maxRecDepth 100000
set_option maxHeartbeats 8000000
open Go.RowKit Go.Proofs.Tryz
variable{l:An}{g:Nat}{w:Lo}
theorem afd(g:Nat)(w:Lo):(Instr.sliceAt 148 (.pointer (some ⟨g,0,none⟩)) none none none).run prog w= .ok (.slice (some ⟨g,0,none⟩) 32 32) w:=by have ha:prog.arrayLen 148=32:=ak;have hu:prog.underlying 148=some (.array (prog.arrayLen 148) (prog.elem 148)):=ak;have hs:(sizeOf (prog.elem 148)).run prog w= .ok 1 w:=ak;rw[run_sliceAt_array_all w 148 ⟨g,0,none⟩ hu,hs,ha];simp[Result.andThen,slicedAt];unfold Addr.add;split<;>simp_all
theorem dK(w:Lo):Below w.heap.size w w.drew:=(aP _ _).drew
theorem afe(v:Value)(w:Lo):Calls prog 111 #[v] w (bV w []):=by go_enter func111,ntmps111;go_wp2;go_ret;exact⟨none,0,rfl,ah,aa,.nil,aP _ _⟩
theorem XL(A:As)(l:An)(c:Nat)(w:Lo)(hB:Bytes w A l)(hc:l.length<=c)(hm:c<=9223372036854775807):Calls prog 112 #[.slice A l.length c] w (bV w (gG (C3.eJ 0#32 l).toNat 4)):=by have HS:=ae (C3.vG A l c w hB hc hm);have hx:=(C3.eJ 0#32 l).isLt;generalize(C3.eJ 0#32 l).toNat=x at*;have HL:=ae (λw=>mJ x 4 aa aa w);have uX:0<=(x:Int):=aa;have ks:(x:Int)<4294967296:=aa;go_enter func112,ntmps112;go_wp2_with fail;refine HS.mono ?_;rintro e w1 ⟨rfl,aI⟩;go_wp2_with fail;refine(HL w1).mono ?_;rintro e w2 hd;obtain⟨A2,c2,rfl,ei,fm,fq,aK⟩:=hd.bytes;go_wp2;go_ret;exact⟨A2,c2,rfl,ei,fm,fq,aQ aI aK⟩
theorem aff(A:As)(l:An)(c:Nat)(w:Lo)(hB:Bytes w A l)(hc:l.length<=c)(hm:c<=9223372036854775807):Calls prog 114 #[.slice A l.length c] w (bV w (gG (NV.eJ 0#64 l).toNat 8)):=by have HS:=ae (NV.vG A l c w hB hc hm);have hx:=(NV.eJ 0#64 l).isLt;generalize(NV.eJ 0#64 l).toNat=x at*;have HL:=ae (λw=>mJ x 8 aa aa w);go_enter func114,ntmps114;go_wp2_with fail;refine HS.mono ?_;rintro e w1 ⟨rfl,aI⟩;go_wp2_with fail;refine(HL w1).mono ?_;rintro e w2 hd;obtain⟨A2,c2,rfl,ei,fm,fq,aK⟩:=hd.bytes;go_wp2;go_ret;exact⟨A2,c2,rfl,ei,fm,fq,aQ aI aK⟩
theorem afg(A:As)(l:An)(c:Nat)(w:Lo)(hT:jx w)(hB:Bytes w A l)(hc:l.length<=c)(hm:c<=9223372036854775807)(hn:l.length<=100000000):Calls prog 116 #[.slice A l.length c] w (bV w (St.new.fI l).gN):=by
 have HS:=ae (QQ A l c w hT hB hc hm hn);have aaH:(St.new.fI l).gN.length=32:=nT _;have aiN:=(zero_of_info BC).1;generalize(St.new.fI l).gN=D at*;go_enter func116,ntmps116;go_wp2_with fail;refine HS.mono ?_;rintro e w2 ⟨rfl,aK⟩;have jC:=bz w2 (.cells bI 148);have Mv:=World.setRow_alloc_new w2 bI (D.map B8).toArray 148;have dF:((prog.info? 148).map (·.size))=some (D.map B8).toArray.size:=by rw[sG];simp[aaH]
 have vV:bI.size=(D.map B8).toArray.size:=by simp[aaH,bI]
 have mS:(D.map B8).toArray.all (·.oneCell')=true:=all_oneCell_toArray (nM _);have iP:Bytes (w2.alloc (.cells (D.map B8).toArray 148)) (some ⟨w2.heap.size,0,none⟩) D:= .inr ⟨_,_,rfl,ah,λk hk=>by
  rw[aC _ _ _ _ _ _ (bz _ _),Nat.zero_add,List.getElem?_toArray,List.getElem?_map,dS hk];rfl⟩
 have bm:=aK.trans ((bq w2 (.cells (D.map B8).toArray 148)).mono aK.size);have ft:=ae iP;have d_:=ae Mv;have Dp:=ae aaH;have k:=λw=>afd w2.heap.size w;generalize(D.map B8).toArray=DV at*;clear Mv iP aaH aK;go_wp2_with (refine wpList_store_row rfl 148 _ _ rfl w2.heap.size DV rfl rfl 148 bI jC dF vV mS ?_;rw[d_.out])
 go_ret;exact⟨some ⟨w2.heap.size,0,none⟩,32,by rw[Dp.out];rfl,by rw[Dp.out];omega,aa,ft.out,bm⟩
theorem pK(c:Int):c=0\/c=1\/c=4\/c=10\/cQ c=false:=by
 unfold cQ;by_cases h0:c=0;·exact .inl h0
 by_cases h1:c=1;·exact .inr (.inl h1)
 by_cases h4:c=4;·exact .inr (.inr (.inl h4))
 by_cases zI:c=10;·exact .inr (.inr (.inr (.inl zI)))
 ·simp[h0,h1,h4,zI]
theorem mM(c:Int)(w:Lo):Calls prog 45 #[.int .i64 c] w λe w'=>e= .returned (.bool (cQ c))/\Below w.heap.size w w':=by
 have key: ∀(a:Option (Nat×Value)) (v:Value) (b:Bool),Instr.findNow (.int .i64) (.int .i64 c) nW.toList 0=some a->(a.map (·.2)).getD .nilFunc=v->a.isSome=b->cQ c=b->
   Calls prog 45 #[.int .i64 c] w λe w'=>e= .returned (.bool b)/\aq w w':=by
  intro a v b hf hv hb _;go_enter func45,ntmps45;go_wp2_with fail;refine(mL w).mono ?_;rintro e w1 ⟨r,rfl,hm,hr,aI⟩;have k:=pI w1 r c hm a hf;rw[hv,hb]at k;clear hf hv hb hm;go_wp2;go_ret;exact⟨rfl,aI⟩
 rcases pK c with rfl|rfl|rfl|rfl|h;·exact key _ _ _ EZ rfl rfl rfl
 ·exact key _ _ _ yg rfl rfl rfl
 ·exact key _ _ _ E5 rfl rfl rfl
 ·exact key _ _ _ CN rfl rfl rfl
 ·rw[h];exact key _ _ _ (CO c h) rfl rfl h
theorem pL(c:Int)(A:As)(l:An)(cap:Nat)(w:Lo)(hT:jx w)(hB:Bytes w A l)(hc:l.length<=cap)(hm:cap<=9223372036854775807)(hn:l.length<=100000000):
  Calls prog 39 #[.int .i64 c,.slice A l.length cap] w (bV w (eN c l)):=by
 rcases pK c with rfl|rfl|rfl|rfl|h;·have HT:=ae hT;clear hT;show Calls _ _ _ _ (bV w []);go_enter func39,ntmps39;go_wp2_with fail;refine(mL w).mono ?_;rintro e w1 ⟨r,rfl,fc,hr,aI⟩;have k:(Instr.lookup 113 (.map (some r)) (.int .i64 0) true).run prog w1= .ok (.tuple #[.func (.func 111) #[] #[],.bool true]) w1:=pI w1 r 0 fc _ EZ;have i9:=hB.below aI;have uY:=HT.below aI;have zv:=ae (afe (.slice A l.length cap) w1);clear fc uY i9 hB;go_wp2_with fail;refine zv.mono ?_;rintro e w2 ⟨A2,c2,rfl,ei,fm,fq,aK⟩;go_wp2;go_ret;exact⟨A2,c2,rfl,ei,fm,fq,aQ aI aK⟩
 ·have HT:=ae hT;clear hT;show Calls _ _ _ _ (bV w (gG (C3.eJ 0#32 l).toNat 4));go_enter func39,ntmps39;go_wp2_with fail;refine(mL w).mono ?_;rintro e w1 ⟨r,rfl,fc,hr,aI⟩;have k:(Instr.lookup 113 (.map (some r)) (.int .i64 1) true).run prog w1= .ok (.tuple #[.func (.func 112) #[] #[],.bool true]) w1:=pI w1 r 1 fc _ yg;have i9:=hB.below aI;have uY:=HT.below aI;have zv:=ae (XL A l cap w1 i9 hc hm);clear fc uY i9 hB;go_wp2_with fail;refine zv.mono ?_;rintro e w2 ⟨A2,c2,rfl,ei,fm,fq,aK⟩;go_wp2;go_ret;exact⟨A2,c2,rfl,ei,fm,fq,aQ aI aK⟩
 ·have HT:=ae hT;clear hT;show Calls _ _ _ _ (bV w (gG (NV.eJ 0#64 l).toNat 8));go_enter func39,ntmps39;go_wp2_with fail;refine(mL w).mono ?_;rintro e w1 ⟨r,rfl,fc,hr,aI⟩;have k:(Instr.lookup 113 (.map (some r)) (.int .i64 4) true).run prog w1= .ok (.tuple #[.func (.func 114) #[] #[],.bool true]) w1:=pI w1 r 4 fc _ E5;have i9:=hB.below aI;have uY:=HT.below aI;have zv:=ae (aff A l cap w1 i9 hc hm);clear fc uY i9 hB;go_wp2_with fail;refine zv.mono ?_;rintro e w2 ⟨A2,c2,rfl,ei,fm,fq,aK⟩;go_wp2;go_ret;exact⟨A2,c2,rfl,ei,fm,fq,aQ aI aK⟩
 ·have HT:=ae hT;clear hT;show Calls _ _ _ _ (bV w (St.new.fI l).gN);go_enter func39,ntmps39;go_wp2_with fail;refine(mL w).mono ?_;rintro e w1 ⟨r,rfl,fc,hr,aI⟩;have k:(Instr.lookup 113 (.map (some r)) (.int .i64 10) true).run prog w1= .ok (.tuple #[.func (.func 116) #[] #[],.bool true]) w1:=pI w1 r 10 fc _ CN;have i9:=hB.below aI;have uY:=HT.below aI;have zv:=ae (afg A l cap w1 uY i9 hc hm hn);clear fc uY i9 hB;go_wp2_with fail;refine zv.mono ?_;rintro e w2 ⟨A2,c2,rfl,ei,fm,fq,aK⟩;go_wp2;go_ret;exact⟨A2,c2,rfl,ei,fm,fq,aQ aI aK⟩
 ·have hs:eN c l=[]:=by simp[cQ]at h;unfold eN;rw[au aa,au aa,au aa]
  rw[hs];have HF:=ae (CO c h);go_enter func39,ntmps39;go_wp2_with fail;refine(mL w).mono ?_;rintro e w1 ⟨r,rfl,fc,hr,aI⟩;have k:(Instr.lookup 113 (.map (some r)) (.int .i64 c) true).run prog w1= .ok (.tuple #[.nilFunc,.bool false]) w1:=pI w1 r c fc _ HF.out;clear fc;go_wp2;go_ret;exact⟨none,0,rfl,ah,aa,.nil,aI⟩
theorem XM(c:Int)(w:Lo)(hT:jx w):Calls prog 96 #[.int .i64 c] w λe w'=>e= .returned (.int .i64 (dg c:Nat))/\Below w.heap.size w w':=by have HS:=ae (pL c none [] 0 w hT .nil ah aa ah);have HL:=ae (fy c []);generalize eN c []=L at*;go_enter func96,ntmps96;go_wp2_with fail;refine HS.mono ?_;rintro e w1 ⟨A,c1,rfl,dE,fc,i9,aI⟩;go_wp2;go_ret;exact⟨by rw[HL.out];rfl,aI⟩
def uF(c:Int):Int:=if cQ c then(dg c:Int)else -1
theorem E6(c:Int)(w:Lo):Calls prog 52 #[.int .i64 c] w λe w'=>e= .returned (.int .i64 (uF c))/\w=w':=by
 rcases pK c with rfl|rfl|rfl|rfl|h;·go_enter func52,ntmps52;go_wp2;go_ret;exact⟨rfl,rfl⟩
 ·go_enter func52,ntmps52;go_wp2;go_ret;exact⟨rfl,rfl⟩
 ·go_enter func52,ntmps52;go_wp2;go_ret;exact⟨rfl,rfl⟩
 ·go_enter func52,ntmps52;go_wp2;go_ret;exact⟨rfl,rfl⟩
 ·have hr:uF c= -1:=by unfold uF;rw[h];rfl
  rw[hr];simp[cQ]at h;obtain⟨⟨⟨h0,h1⟩,h4⟩,zI⟩:=h;have e0:(c==0)=false:=by simpa using h0
  have e1:(c==1)=false:=by simpa using h1
  have e4:(c==4)=false:=by simpa using h4
  have e10:(c==10)=false:=by simpa using zI
  clear h0 h1 h4 zI hr;go_enter func52,ntmps52;go_wp2;go_ret;exact⟨rfl,rfl⟩
theorem oI(A:As)(l:An)(c:Nat)(w:Lo)(hB:Bytes w A l)(hm:l.length<=100000000):Calls prog 60 #[.int .i64 1,.slice A l.length c] w (eM w (eN 1 l)):=by have HS:=ae (C3.uE A l c w hB aa);have hs:eN 1 l=gG (C3.eJ 0#32 l).toNat 4:=rfl;rw[hs];have hx:=(C3.eJ 0#32 l).isLt;generalize(C3.eJ 0#32 l).toNat=x at*;have HL:=ae (λw=>GP 4 x w aa aa);have uX:0<=(x:Int):=aa;have ks:(x:Int)<4294967296:=aa;clear hs;go_enter func60,ntmps60;go_wp2_with fail;refine HS.mono ?_;rintro e w1 ⟨rfl,rfl⟩;go_wp2_with fail;refine(HL _).mono ?_;rintro e w2 ⟨v,rfl,ho,hb⟩;go_wp2;go_ret;exact⟨v,rfl,ho,hb⟩
theorem XN(c:Int)(A:As)(l:An)(cap:Nat)(w:Lo)(hB:Bytes w A l)(hm:l.length<=100000000):Calls prog 60 #[.int .i64 c,.slice A l.length cap] w (bV w (eN c l)):=by
 by_cases h1:c=1;·subst h1;exact(oI A l cap w hB hm).mono λe w' h=>h.bytes
 by_cases h4:c=4;·subst h4;have HS:=ae (NV.uE A l cap w hB aa);have hs:eN 4 l=gG (NV.eJ 0#64 l).toNat 8:=rfl;rw[hs];have hx:=(NV.eJ 0#64 l).isLt;generalize(NV.eJ 0#64 l).toNat=x at*;have HL:=ae (λw=>GP 8 x w aa aa);clear hs;go_enter func60,ntmps60;go_wp2_with fail;refine HS.mono ?_;rintro e w1 ⟨rfl,rfl⟩;go_wp2_with fail;refine(HL _).mono ?_;rintro e w2 hd;obtain⟨A2,c2,rfl,ei,fm,fq,aK⟩:=hd.bytes;go_wp2;go_ret;exact⟨A2,c2,rfl,ei,fm,fq,aK⟩
 by_cases zI:c=10;·subst zI;have HS:=ae (XB A l cap w hB hm);have hs:eN 10 l=(St.new.fI l).gN:=rfl;rw[hs];generalize(St.new.fI l).gN=D at*;clear hs;go_enter func60,ntmps60;go_wp2_with fail;refine HS.mono ?_;rintro e w2 ⟨A2,c2,rfl,ei,fm,fq,aK⟩;go_wp2;go_ret;exact⟨A2,c2,rfl,ei,fm,fq,aK⟩
 ·have hs:eN c l=[]:=by unfold eN;rw[au h1,au h4,au zI]
  rw[hs];have e1:(c==1)=false:=by simpa using h1
  have e4:(c==4)=false:=by simpa using h4
  have e10:(c==10)=false:=by simpa using zI
  clear hs h1 h4 zI;go_enter func60,ntmps60;go_wp2;go_ret;exact⟨none,0,rfl,ah,aa,.nil,aP _ _⟩
def gh(l:An):List UInt8:=gG (C3.eJ 0#32 l).toNat 4
theorem bi(l:An):(gh l).length=4:=fw _ _
theorem oJ(A:As)(l:An)(cap:Nat)(w:Lo)(hB:Bytes w A l)(hc:l.length<=cap)(hm:cap<=9223372036854775807):
  Calls prog 39 #[.int .i64 1,.slice A l.length cap] w (bV w (gh l)):=by
 show Calls _ _ _ _ (bV w (gG (C3.eJ 0#32 l).toNat 4));go_enter func39,ntmps39;go_wp2_with fail;refine(mL w).mono ?_;rintro e w1 ⟨r,rfl,fc,hr,aI⟩;have k:(Instr.lookup 113 (.map (some r)) (.int .i64 1) true).run prog w1= .ok (.tuple #[.func (.func 112) #[] #[],.bool true]) w1:=pI w1 r 1 fc _ yg;have i9:=hB.below aI;have zv:=ae (XL A l cap w1 i9 hc hm);clear fc i9 hB;go_wp2_with fail;refine zv.mono ?_;rintro e w2 ⟨A2,c2,rfl,ei,fm,fq,aK⟩;go_wp2;go_ret;exact⟨A2,c2,rfl,ei,fm,fq,aQ aI aK⟩
def l8(w:Lo)(g:Nat)(L:An):Prop:= ∀i (h:i<L.length),w.cell? ⟨g,i,none⟩=some (B8 L[i])/\w.frozen? ⟨g,i,none⟩=false
def yk(w:Lo)(L:An)(e:Ending)(w':Lo):Prop:= ∃g cap,e= .returned (.slice (some ⟨g,0,none⟩) L.length cap)/\L.length<=cap/\cap<=9223372036854775807/\w.heap.size<=g/\g<w'.heap.size/\l8 w' g L/\Below w.heap.size w w'
theorem l8.bytes{L:An}(h:l8 w g L)(hg:g<w.heap.size):Bytes w (some ⟨g,0,none⟩) L:= .inr ⟨g,0,rfl,hg,λk hk=>by rw[Nat.zero_add];exact(h k hk).1⟩
theorem eo{A:As}{c:Nat}(h:Bytes w A l):Lib.HoldsBytes w (.slice A l.length c) l:=by
 refine⟨A,c,rfl,λe=> ?_,λa e i x hx=> ?_⟩
 ·rcases h with h|⟨b,off,h,_⟩
  ·exact h
  ·rw[e]at h;cases h
 ·rcases h with h|⟨b,off,h,_,hc⟩
  ·subst h;simp at hx
  ·rw[e]at h;injection h with h;subst h
   have hi:i<l.length:=by
    rcases dN i l.length with h|h;·exact h
    ·rw[qE h]at hx;cases hx
   rw[dS hi]at hx;injection hx with hx;rw[<-hx,show(⟨b,off,none⟩:Addr).add i=⟨b,off+i,none⟩from oa];exact hc i hi
theorem pQ{B:Nat}{w':Lo}{v:Value}(h:Lib.FreshBytes B w' v l)(hl:0<l.length):
  ∃g cap,v= .slice (some ⟨g,0,none⟩) l.length cap/\l.length<=cap/\cap<=9223372036854775807/\B<=g/\g<w'.heap.size/\l8 w' g l:=by
 obtain⟨g,cap,zs,rfl,hg,lj,oT,hz,hzb,hb,hc,hf⟩:=h;refine⟨g,cap,rfl,lj,OU,hg,?_,λi hi=>⟨?_,hf i aa⟩⟩;·have:=World.block_lt_of_cell? _ _ (hc 0 aa);simpa using this
 ·rw[hc i aa];have hiz:i<zs.length:=aa;have e:zs.getD i 0=zs[i]:=by simp[List.getD,hiz]
  have hzi:=hzb zs[i] (lF _);have n9:l[i]=UInt8.ofNat zs[i].toNat:=by have h2:(Lib.bytesOf (zs.take l.length))[i]? =l[i]? :=(by rw[hb]);rw[dS hi]at h2;unfold Lib.bytesOf at h2;rw[List.getElem?_map,Ii,ax hi,dS hiz]at h2;simpa using h2.symm
  rw[e,n9];show some (Value.int .u8 zs[i])=some (Value.int .u8 ((UInt8.ofNat zs[i].toNat).toNat:Nat));rw[fN];congr 2;omega
theorem Yf{A0 A1 A2:As}{l0 l1 l2:An}{c0 c1 c2:Nat}(w:Lo)(h0:Bytes w A0 l0)(h1:Bytes w A1 l1)(h2:Bytes w A2 l2)
  (k0:w.cell? ⟨g,0,none⟩=some (.slice A0 l0.length c0)) (k1:w.cell? ⟨g,1,none⟩=some (.slice A1 l1.length c1)) (k2:w.cell? ⟨g,2,none⟩=some (.slice A2 l2.length c2))
  (L:An) (hL:l0++l1++l2=L) (hl:L.length<=1000000) (hp:0<L.length):
  Calls prog 24 #[.slice (some ⟨g,0,none⟩) 3 3,.slice none 0 0] w (yk w L):=by
 have hlen:l0.length+l1.length+l2.length=L.length:=by rw[<-hL];simp;omega
 have hP:Lib.PartsAt w ⟨g,0,none⟩ [.slice A0 l0.length c0,.slice A1 l1.length c1,.slice A2 l2.length c2] [l0,l1,l2]:=by
  refine⟨rfl,λi v hv=> ?_,λi v l hv hl=> ?_⟩
  ·rw[show(⟨g,0,none⟩:Addr).add i=⟨g,i,none⟩from oa];match i with
   | 0=>simp at hv;subst hv;exact k0
   | 1=>simp at hv;subst hv;exact k1
   | 2=>simp at hv;subst hv;exact k2
   | i+3=>simp at hv
  ·match i with
   | 0=>simp at hv hl;subst hv;subst hl;exact eo h0
   | 1=>simp at hv hl;subst hv;subst hl;exact eo h1
   | 2=>simp at hv hl;subst hv;subst hl;exact eo h2
   | i+3=>simp at hv
 refine(gM g 0 3 3 _ [l0,l1,l2] (.slice none 0 0) [] w rfl aa hP aa ⟨none,0,rfl,λ_=>rfl,λa e=>eK⟩ aa (by simp[Lib.lens];omega)).mono ?_;rintro e w' ⟨v,rfl,hv,hb⟩;have ej:Lib.join [l0,l1,l2] []=L:=by rw[Lib.join_cons,<-hL];simp[Lib.joinTail]
 rw[ej]at hv;obtain⟨g',cap,rfl,q1,q2,q3,q4,q5⟩:=pQ hv hp;exact⟨g',cap,rfl,q1,q2,q3,q4,q5,hb⟩
def jB:List UInt8:=[253,55,122,88,90,0]
def jh(b:UInt8):List UInt8:=jB++[0,b]++eN 1 [0,b]
theorem fB(b:UInt8):(jh b).length=12:=by unfold jh jB;simp[fy,dg]
theorem tT(w:Lo):Calls prog 46 #[] w (eM w jB):=by have ho:Own w.heap.size (w.alloc (.cells #[.int .u8 253,.int .u8 55,.int .u8 122,.int .u8 88,.int .u8 90,.int .u8 0] 5)) (.slice (some ⟨w.heap.size,0,none⟩) 6 6) jB:=Own.lit (base:=w.heap.size) w jB (aF _) (by simp[jB]);go_enter func46,ntmps46;go_wp2;go_ret;exact⟨_,rfl,ho,bq _ _⟩
theorem tU(w:Lo):Calls prog 48 #[] w (eM w [89,90]):=by have ho:Own w.heap.size (w.alloc (.cells #[.int .u8 89,.int .u8 90] 5)) (.slice (some ⟨w.heap.size,0,none⟩) 2 2) [89,90]:=Own.lit (base:=w.heap.size) w [89,90] (aF _) ah;go_enter func48,ntmps48;go_wp2;go_ret;exact⟨_,rfl,ho,bq _ _⟩
def CS(w:Lo)(L:An)(e:Ending)(w':Lo):Prop:= ∃g cap,e= .returned (.tuple #[.slice (some ⟨g,0,none⟩) L.length cap,.int .i64 0])/\L.length<=cap/\cap<=9223372036854775807/\w.heap.size<=g/\g<w'.heap.size/\l8 w' g L/\Below w.heap.size w w'
theorem Yg(b:UInt8)(w:Lo)(hT:jx w)(hf:cQ (b.toNat:Nat)=true):Calls prog 22 #[.int .i64 b.toNat] w (CS w (jh b)):=by have HF:=ae (mM (b.toNat:Nat) w);rw[hf]at HF;have hbt:=b.toNat_lt;have fV:0<=(b.toNat:Int):=aa;have aI:(b.toNat:Int)<256:=aa;have HT:=ae hT;have vk:Hid (jB++[0,b]++eN 1 [0,b]=jh b):=ae rfl;have xo:=ae (fB b);have Qh:Hid ((eN 1 [0,b]).length=4):=ae (fy 1 [0,b]);have ub:IntKind.u8.wrap (b.toNat:Int)=b.toNat:=na;generalize jh b=HL at*;clear hT hf;go_enter func22,ntmps22;go_wp2_with fail;refine HF.mono ?_;rintro e w1 ⟨rfl,aI⟩;have IR:Own w.heap.size (w1.alloc (.cells #[.int .u8 0,B8 b] 5)) (.slice (some ⟨w1.heap.size,0,none⟩) 2 2) [0,b]:=Own.lit (base:=w.heap.size) w1 [0,b] aI.size ah;have aK:=aI.trans ((bq w1 (.cells #[.int .u8 0,B8 b] 5)).mono aI.size);have HHM:=ae (tT (w1.alloc (.cells #[.int .u8 0,B8 b] 5)));go_wp2_with fail;generalize w1.alloc (.cells #[.int .u8 0,B8 b] 5)=w2 at*;refine HHM.mono ?_;rintro e w3 ⟨vm,rfl,hom,bm⟩;have alx:=aQ aK bm;obtain⟨Am,cm,rfl,_,_,hBm⟩:=hom.read;have zq:=IR.below bm;obtain⟨Af,cf,ef,hcf,hmf,hBf⟩:=zq.read;injection ef with e1 e2 e3;subst e1;have I0:=ae (pL 1 (some ⟨w1.heap.size,0,none⟩) [0,b] 2 w3 (HT.below alx) hBf ah aa ah);have HBM:=ae hBm;have Yh:=ae hBf;clear IR zq hom hcf hmf e2 e3 hBm hBf aK aI;go_wp2_with fail;refine I0.mono ?_;rintro e w4 ⟨A4,c4,rfl,jM,kf,lx,bc⟩;have aly:=aQ alx bc;rw[Qh.out];have kj:=bq w4 (.cells #[.slice Am jB.length cm,.slice (some ⟨w1.heap.size,0,none⟩) 2 2,.slice A4 4 c4] 22);have alz:=(HBM.below bc).below kj;have alA:=(Yh.below bc).below kj;have alB:=lx.below kj;have hc: ∀i,(w4.alloc (.cells #[.slice Am jB.length cm,.slice (some ⟨w1.heap.size,0,none⟩) 2 2,.slice A4 4 c4] 22)).cell? ⟨w4.heap.size,i,none⟩=(#[.slice Am jB.length cm,.slice (some ⟨w1.heap.size,0,none⟩) 2 2,.slice A4 4 c4]:Array Value)[i]? :=λi=>aC _ _ _ _ _ _ (bz _ _);have hJ:=ae (Yf (c0:=cm) (c1:=2) (c2:=c4) (g:=w4.heap.size) _ alz alA alB (hc 0) (hc 1) ((hc 2).trans (by rw[Qh.out];rfl)) HL vk.out (by rw[xo.out];omega) (by rw[xo.out];omega));have eS:=aQ aly kj;clear hc alz alA alB kj aly lx;go_wp2_with fail;generalize w4.alloc (.cells #[.slice Am jB.length cm,.slice (some ⟨w1.heap.size,0,none⟩) 2 2,.slice A4 4 c4] 22)=w5 at*;refine hJ.mono ?_;rintro e w6 ⟨g,cap,rfl,q1,q2,q3,q4,q5,q6⟩;go_wp2;go_ret2;exact⟨g,cap,rfl,q1,q2,a8 eS.size q3,q4,q5,aQ eS q6⟩
def ke(b:UInt8)(n:Nat):List UInt8:=gG n 4++[0,b]
def iw(b:UInt8)(n:Nat):List UInt8:=eN 1 (ke b n)++ke b n++[89,90]
theorem l9(b:UInt8)(n:Nat):(ke b n).length=6:=by unfold ke;simp[fw]
theorem fH(l:An):(eN 1 l).length=4:=fy 1 l
theorem eO(b:UInt8)(n:Nat):(iw b n).length=12:=by unfold iw;simp[fH,l9]
theorem Bytes.two(w:Lo)(a b:UInt8):Bytes (w.alloc (.cells #[B8 a,B8 b] 5)) (some ⟨w.heap.size,0,none⟩) [a,b]:=by obtain⟨A,c,e,_,_,h⟩:=(Own.lit (base:=w.heap.size) w [a,b] (aF _) ah).read;injection e with e1 _ _;subst e1;exact h
theorem Yv(b:UInt8)(n:Nat)(s:Int)(hs:s=4*((n:Int)+1))(hn:n<4294967296)(w:Lo)(hT:jx w)(hf:cQ (b.toNat:Nat)=true):Calls prog 23 #[.int .i64 b.toNat,.int .i64 s] w (CS w (iw b n)):=by
 have HF:=ae (mM (b.toNat:Nat) w);rw[hf]at HF;have hbt:=b.toNat_lt;have fV:0<=(b.toNat:Int):=aa;have aI:(b.toNat:Int)<256:=aa;have HT:=ae hT;have vk:Hid (eN 1 (ke b n)++ke b n++[89,90]=iw b n):=ae rfl;have xo:=ae (eO b n);have yW:Hid (gG n 4++[0,b]=ke b n):=ae rfl;have Uk:=ae (l9 b n);have Qh:=ae (fH (ke b n));have hq:s/4-1=(n:Int):=aa;have HLF:Hid (∀w,Calls prog 47 #[.int .u64 (s/4-1),.int .i64 4] w (eM w (gG n 4))):=ae (λw=>by rw[hq];exact mJ n 4 aa aa w);have ZK:=ae (fw 4 n);have ub:IntKind.u8.wrap (b.toNat:Int)=b.toNat:=na;have tg:4<=s:=aa;have VW:s<=17179869184:=aa;have Ey:0<=s:=aa;have hmb:(s%4==0)=true:=aH;have aBr:(s%4 !=0)=false:=aH;generalize iw b n=FL at*;generalize ke b n=BD at*;generalize gG n 4=LW at*;clear hT hf hs hn hq;go_enter func23,ntmps23;go_wp2_with fail;refine HF.mono ?_;rintro e w1 ⟨rfl,aI⟩;go_wp2_with fail;refine(HLF w1).mono ?_;rintro e w2 ⟨v2,rfl,dz,aK⟩;have alJ:=aQ aI aK;have kj:=bq w2 (.cells #[.int .u8 0,B8 b] 5);have dU:=dz.below kj;have iP:Bytes (w2.alloc (.cells #[.int .u8 0,B8 b] 5)) (some ⟨w2.heap.size,0,none⟩) [0,b]:=by obtain⟨A,c,e,_,_,h⟩:=(Own.lit (base:=w2.heap.size) w2 [0,b] (aF _) ah).read;injection e with e1 _ _;subst e1;exact h
 have bm:=aQ alJ kj;have Hv:w1.heap.size<=(w2.alloc (.cells #[.int .u8 0,B8 b] 5)).heap.size:=a8 aK.size kj.size;have dF:LW.length+[0,b].length<=140737488355328:=by rw[ZK.out];simp
 clear dz aK kj;go_wp2_with (refine aj rfl _ _ rfl w1.heap.size _ v2 LW rfl dU _ [0,b] 2 rfl iP dF Hv ?_;intro v4 w4 bM dq;rw[yW.out]at bM;have bc:=am bm dq bm.size (λg e=>a8 aI.size (jO dU g e).1);obtain⟨A4,c4,rfl,jM,kf,lx⟩:=bM.read)
 have I0:=ae (pL 1 A4 BD c4 w4 (HT.below bc) lx jM kf (by rw[Uk.out];omega));have fJ:=ae lx;clear bM dU iP lx bm alJ Hv dF dq;refine I0.mono ?_;rintro e w5 ⟨A5,c5,rfl,vU,yY,pM,eS⟩;have aa1:=aQ bc eS;have HFM:=ae (tU w5);rw[Qh.out];go_wp2_with fail;refine HFM.mono ?_;rintro e w6 ⟨v6,rfl,lf,oq⟩;obtain⟨A6,c6,rfl,_,_,zG⟩:=lf.read;have alK:=aQ aa1 oq;have kj:=bq w6 (.cells #[.slice A5 4 c5,.slice A4 BD.length c4,.slice A6 2 c6] 22);have h0:=(pM.below oq).below kj;have h1:=((fJ.below eS).below oq).below kj;have h2:=zG.below kj;have hc: ∀i,(w6.alloc (.cells #[.slice A5 4 c5,.slice A4 BD.length c4,.slice A6 2 c6] 22)).cell? ⟨w6.heap.size,i,none⟩=(#[.slice A5 4 c5,.slice A4 BD.length c4,.slice A6 2 c6]:Array Value)[i]? :=λi=>aC _ _ _ _ _ _ (bz _ _);have hJ:=ae (Yf (c0:=c5) (c1:=c4) (c2:=c6) (g:=w6.heap.size) _ h0 h1 h2 ((hc 0).trans (by rw[Qh.out];rfl)) (hc 1) (hc 2) FL vk.out (by rw[xo.out];omega) (by rw[xo.out];omega));have Fd:=aQ alK kj;clear hc h0 h1 h2 kj alK lf zG;go_wp2_with fail;generalize w6.alloc (.cells #[.slice A5 4 c5,.slice A4 BD.length c4,.slice A6 2 c6] 22)=w7 at*;refine hJ.mono ?_;rintro e w8 ⟨g,cap,rfl,q1,q2,q3,q4,q5,q6⟩;go_wp2;go_ret2;exact⟨g,cap,rfl,q1,q2,a8 Fd.size q3,q4,q5,aQ Fd q6⟩
theorem Tb(b:UInt8)(w:Lo):Calls prog 28 #[.int .i64 b.toNat] w (eM w (jh b)):=by
 have hbt:=b.toNat_lt;have fV:0<=(b.toNat:Int):=aa;have aI:(b.toNat:Int)<256:=aa;have vk:Hid ([253,55,122,88,90,0,0,b]++eN 1 [0,b]=jh b):=ae (by simp[jh,jB]);have Qh:=ae (fH [0,b]);have ub:IntKind.u8.wrap (b.toNat:Int)=b.toNat:=na;generalize jh b=HL at*;have kE:Own w.heap.size (w.alloc (.cells #[.int .u8 253,.int .u8 55,.int .u8 122,.int .u8 88,.int .u8 90,.int .u8 0,.int .u8 0,B8 b] 5)) (.slice (some ⟨w.heap.size,0,none⟩) 8 8) [253,55,122,88,90,0,0,b]:=Own.lit (base:=w.heap.size) w [253,55,122,88,90,0,0,b] (aF _) ah;have asK:=bq w (.cells #[.int .u8 253,.int .u8 55,.int .u8 122,.int .u8 88,.int .u8 90,.int .u8 0,.int .u8 0,B8 b] 5);go_enter func28,ntmps28;go_wp2_with fail;have e1:(w.alloc (.cells #[.int .u8 253,.int .u8 55,.int .u8 122,.int .u8 88,.int .u8 90,.int .u8 0,.int .u8 0,B8 b] 5)).heap.size=w.heap.size+1:=ah;generalize w.alloc (.cells #[.int .u8 253,.int .u8 55,.int .u8 122,.int .u8 88,.int .u8 90,.int .u8 0,.int .u8 0,B8 b] 5)=w1 at*;have kj:=bq w1 (.cells #[.int .u8 0,B8 b] 5);have fq:Bytes (w1.alloc (.cells #[.int .u8 0,B8 b] 5)) (some ⟨w1.heap.size,0,none⟩) [0,b]:=by obtain⟨A,c,e,_,_,h⟩:=(Own.lit (base:=w1.heap.size) w1 [0,b] (aF _) ah).read;injection e with e1 _ _;subst e1;exact h
 rw[e1]at fq;have dz:=kE.below kj;have aK:=aQ asK kj;have HC:=ae (oI (some ⟨w.heap.size+1,0,none⟩) [0,b] 2 _ fq ah);clear kE kj fq e1;refine HC.mono ?_;rintro e w3 ⟨v3,rfl,dU,bm⟩;obtain⟨A3,c3,rfl,ju,tl,iP⟩:=dU.read;have bM:=dz.below bm;have bc:=aQ aK bm;have dF:([253,55,122,88,90,0,0,b]:An).length+(eN 1 [0,b]).length<=140737488355328:=by rw[Qh.out];simp
 clear dz dU;go_wp2_with (refine aj rfl _ _ rfl w.heap.size _ (.slice (some ⟨w.heap.size,0,none⟩) 8 8) [253,55,122,88,90,0,0,b] rfl bM A3 (eN 1 [0,b]) c3 rfl iP dF bc.size ?_;intro v5 w5 gU ig;rw[vk.out]at gU;have eS:=am bc ig bc.size (λg e=>(jO bM g e).1))
 go_ret;exact⟨v5,rfl,gU,eS⟩
theorem Tc(b:UInt8)(n:Nat)(s:Int)(hs:s=4*((n:Int)+1))(hn:n<4294967296)(w:Lo):Calls prog 30 #[.int .i64 b.toNat,.int .i64 s] w (eM w (iw b n)):=by
 have hbt:=b.toNat_lt;have fV:0<=(b.toNat:Int):=aa;have aI:(b.toNat:Int)<256:=aa;have vk:Hid (eN 1 (ke b n)++ke b n++[89,90]=iw b n):=ae rfl;have yW:Hid (gG n 4++[0,b]=ke b n):=ae rfl;have Uk:=ae (l9 b n);have Qh:=ae (fH (ke b n));have hq:s/4-1=(n:Int):=aa;have HLF:Hid (∀w,Calls prog 62 #[.int .u64 (s/4-1),.int .i64 4] w (eM w (gG n 4))):=ae (λw=>by rw[hq];exact GP 4 n w aa aa);have ZK:=ae (fw 4 n);have ub:IntKind.u8.wrap (b.toNat:Int)=b.toNat:=na;have Ey:0<=s:=aa;have tg:4<=s:=aa;have VW:s<=17179869184:=aa;generalize iw b n=FL at*;generalize ke b n=BD at*;generalize gG n 4=LW at*;clear hs hn hq;go_enter func30,ntmps30;go_wp2_with fail;refine(HLF w).mono ?_;rintro e w2 ⟨v2,rfl,dz,aK⟩;have kj:=bq w2 (.cells #[.int .u8 0,B8 b] 5);have dU:=dz.below kj;have iP:Bytes (w2.alloc (.cells #[.int .u8 0,B8 b] 5)) (some ⟨w2.heap.size,0,none⟩) [0,b]:=by obtain⟨A,c,e,_,_,h⟩:=(Own.lit (base:=w2.heap.size) w2 [0,b] (aF _) ah).read;injection e with e1 _ _;subst e1;exact h
 have bm:=aQ aK kj;have dF:LW.length+[0,b].length<=140737488355328:=by rw[ZK.out];simp
 clear dz kj;go_wp2_with (refine aj rfl _ _ rfl w.heap.size _ v2 LW rfl dU _ [0,b] 2 rfl iP dF bm.size ?_;intro v4 w4 bM dq;rw[yW.out]at bM;have bc:=am bm dq bm.size (λg e=>(jO dU g e).1);obtain⟨A4,c4,rfl,jM,kf,lx⟩:=bM.read)
 have I0:=ae (oI A4 BD c4 w4 lx (by rw[Uk.out];omega));have fJ:=ae lx;clear bM dU iP lx bm dF dq;refine I0.mono ?_;rintro e w5 ⟨v5,rfl,gU,eS⟩;have aa1:=aQ bc eS;have pM:=fJ.below eS;have asL:(eN 1 BD).length+BD.length<=140737488355328:=by rw[Qh.out,Uk.out];omega
 go_wp2_with (first
  | (refine aj rfl _ _ rfl w4.heap.size _ v5 (eN 1 BD) rfl gU A4 BD c4 rfl pM asL eS.size ?_;intro v6 w6 lf ot;have oq:=am aa1 ot aa1.size (λg e=>a8 bc.size (jO gU g e).1);have hs6:w4.heap.size<=w6.heap.size:=a8 eS.size ot.size;have kj:=bq w6 (.cells #[.int .u8 89,.int .u8 90] 5);have te:=lf.below kj;have Fd:=aQ oq kj;have hs7:=a8 hs6 kj.size;have D5:Bytes (w6.alloc (.cells #[.int .u8 89,.int .u8 90] 5)) (some ⟨w6.heap.size,0,none⟩) [89,90]:=Bytes.two w6 89 90;have asM:(eN 1 BD++BD).length+[(89:UInt8),90].length<=140737488355328:=by(rw[aG,Qh.out,Uk.out];simp))
  | (refine aj rfl _ _ rfl w4.heap.size _ v6 (eN 1 BD++BD) rfl te _ [89,90] 2 rfl D5 asM hs7 ?_;intro v8 w8 qA J1;rw[vk.out]at qA;have rG:=am Fd J1 Fd.size (λg e=>a8 bc.size (jO te g e).1)))
 go_ret;exact⟨v8,rfl,qA.weaken bc.size,rG⟩
end Go.Proofs.YtfcaoggfnkhfiaaGreatDoor
