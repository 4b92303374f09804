import Derived.Test.YtfcaoggfnkhfiaaGreatDoorZ23
namespace Go.Proofs.YtfcaoggfnkhfiaaGreatDoor
set_option maxRecDepth 100000
set_option maxHeartbeats 8000000
open Go.RowKit Go.Proofs.Tryz
variable{k:Bz}{dict:Int}{B:List UInt8}{a b c fuel i n p pos size:Nat}{w w':World}
def Pa(k:Bz)(cv:Value)(x:tW)(e:Ending)(w':World):Prop:=
 match x with
 | .bad n=>e= .returned (.int .i64 (n:Nat))∧Below k.base k.w0 w'
 | .go pos s=>e= .returned (.int .i64 0)∧tF k w' pos s cv
def kt(B:List UInt8)(pos:Nat)(s:gH):tW:=
 if B.length<pos+1 then .bad 2
 else .go (pos+1) {s with lc:=(B.getD pos 0).toNat%9,lp:=(B.getD pos 0).toNat/9%5,pb:=(B.getD pos 0).toNat/45,asked:=false}
theorem pG{s:gH}{cv:Value}(hU:tF k w pos s cv):Calls prog 248 #[PF k.R,Mp k] w (Pa k cv (kt k.B pos s)):=by
 have HU:=ae hU;by_cases h1:k.B.length<pos+1;·have HN:=ae (ld HU.out 1 ak h1);have HR:=ae (show kt k.B pos s= .bad 2 by unfold kt;rw[if_pos h1]);clear hU h1;go_enter func248,ntmps248;go_wp2_with fail;refine HN.out.mono ?_;rintro e w1 ⟨rfl,rfl⟩;go_wp2_with fail;go_ret;rw[HR.out];exact⟨rfl,HU.out.below⟩
 ·have HN:=ae (mP HU.out 1 ak aa);have HR:=ae (show kt k.B pos s= .go (pos+1) {s with lc:=(k.B.getD pos 0).toNat%9,lp:=(k.B.getD pos 0).toNat/9%5,pb:=(k.B.getD pos 0).toNat/45,asked:=false} by unfold kt;rw[if_neg h1]);have hxl:=(k.B.getD pos 0).toNat_lt;have⟨x,hx⟩:=ex (k.B.getD pos 0);rw[hx]at HR hxl;have VR:=ae hx;have H1:=ae h1;have m1:((x.toNat:Int)).tmod 9=((x.toNat%9:Nat):Int):=by rw[Int.tmod_eq_emod_of_nonneg aa];omega
  have m2:((x.toNat:Int)).tdiv 9=((x.toNat/9:Nat):Int):=by rw[Int.tdiv_eq_ediv_of_nonneg aa];omega
  have m3:(((x.toNat/9:Nat):Int)).tmod 5=((x.toNat/9%5:Nat):Int):=by rw[Int.tmod_eq_emod_of_nonneg aa];omega
  have m4:((x.toNat:Int)).tdiv 45=((x.toNat/45:Nat):Int):=by rw[Int.tdiv_eq_ediv_of_nonneg aa];omega
  have Z8:(x.toNat:Int)<256:=aa;clear hU h1 hx;go_enter func248,ntmps248;go_wp2_with fail;refine HN.out.mono ?_;rintro e w1 ⟨A1,c1,rfl,cC,⟨eW,_⟩,tG,_⟩;have xT:((k.B.drop pos).take 1).length=1:=by have:=H1.out;simp;omega
  obtain⟨b,off,rfl,hb,hcs⟩:=eW.addr aa;have k0:=hcs 0 aa;have e0:((k.B.drop pos).take 1)[0]=x:=by rw[←VR.out];simp[List.getElem_take,List.getD_eq_getElem?_getD,List.getElem?_eq_getElem (show pos<k.B.length by have:=H1.out;omega)]
  rw[Nat.add_zero,e0]at k0;obtain⟨v,⟨r0,r1,r2,r3,r4,r5,r6,r7,r8⟩,_,lW⟩:=tG.cells;have f5:=lW 5;have f6:=lW 6;have f7:=lW 7;have f4:=lW 4;have qj:=ae tG;clear cC eW tG xT hcs hb e0 lW;go_wp2_with fail;go_ret;rw[HR.out];have n1:(x.toNat:Int)%9=((x.toNat%9:Nat):Int):=aa;have n2:(x.toNat:Int)/9%5=((x.toNat/9%5:Nat):Int):=aa;have n3:(x.toNat:Int)/45=((x.toNat/45:Nat):Int):=aa;rw[n1,n2,n3];have u1:=qj.out.put 5 (.int .i64 ((x.toNat%9:Nat):Nat)) (s':={s with lc:=x.toNat%9}) (cv':=cv) (fun _=>rfl) rfl qj.out.nums.2.2.2.2;have u2:=u1.put 6 (.int .i64 ((x.toNat/9%5:Nat):Nat)) (s':={s with lc:=x.toNat%9,lp:=x.toNat/9%5}) (cv':=cv) (fun _=>rfl) rfl qj.out.nums.2.2.2.2;have u3:=u2.put 7 (.int .i64 ((x.toNat/45:Nat):Nat)) (s':={s with lc:=x.toNat%9,lp:=x.toNat/9%5,pb:=x.toNat/45}) (cv':=cv) (fun _=>rfl) rfl qj.out.nums.2.2.2.2;exact⟨rfl,u3.put 4 (.bool false) (s':={s with lc:=x.toNat%9,lp:=x.toNat/9%5,pb:=x.toNat/45,asked:=false}) (cv':=cv) (fun _=>rfl) rfl qj.out.nums.2.2.2.2⟩
theorem kH{base:Nat}{w0 w1 w2:World}(h1:Below base w0 w1)(h2:Below base w0 w2)(hs:base≤w0.heap.size){A:Option Addr}{l:List UInt8}(hB:Bytes w1 A l)(hA: ∀a,A=some a→a.block<base):Bytes w2 A l:=by
 rcases hB with h | ⟨b,off,rfl,hb,hc⟩
 ·exact .inl h
 ·have aH:b<base:=hA _ rfl;refine .inr ⟨b,off,rfl,am h2.size,fun j hj=> ?_⟩;rw[h2.cell (p:=⟨b,off+j,none⟩) aH,←h1.cell (p:=⟨b,off+j,none⟩) aH];exact hc j hj
theorem Uk.below{s:gH}(h:Uk k w pos s):Below k.base k.w0 w:=by obtain⟨cv,h1,_⟩:=h;exact h1.below
theorem pF.ret{x:tW}{e:Ending}(h:pF k x e w'): ∃n:Int,e= .returned (.int .i64 n)∧pF k x (.returned (.int .i64 n)) w':=by
 cases x with
 | bad n=>obtain⟨rfl,h⟩:=h;exact⟨_,rfl,rfl,h⟩
 | go p s=>obtain⟨rfl,h⟩:=h;exact⟨_,rfl,rfl,h⟩
theorem jy{s:gH}(h:Uk k w pos s)(n:Nat)(hn:n≤1000000)(hl:k.B.length<pos+n):Calls prog 182 #[.int .i64 (n:Nat),PF k.bb,PF k.ab] w (vb w):=by obtain⟨cv,h1,_⟩:=h;exact ld h1 n hn hl
theorem ku{s:gH}(h:Uk k w pos s)(n:Nat)(hn:n≤1000000)(hl:pos+n≤k.B.length):Calls prog 182 #[.int .i64 (n:Nat),PF k.bb,PF k.ab] w (fun e w'=> ∃AP cP,e= .returned (.tuple #[.slice AP n cP,.int .i64 0])∧(n≤cP∧cP≤9223372036854775807)∧(Bytes w' AP ((k.B.drop pos).take n)∧ ∀a,AP=some a→a.block<k.base)∧Uk k w' (pos+n) s):=by obtain⟨cv,h1,h2⟩:=h;refine(mP h1 n hn hl).mono ?_;rintro e w' ⟨AP,cP,rfl,h3,h4,h5,h6⟩;exact⟨AP,cP,rfl,h3,h4,_,h5,h6 _ _ h2⟩
theorem zR{s:gH}(h:Uk k w pos s)(c:Nat)(cC:128≤c)(cU:c<256)(eS:s.clear=true)(IB: ¬(c<192∧s.asked=true))(ho:s.out.length≤400000000)(iz:1≤k.dict)(jz:k.dict≤9223372036854775807):
  Calls prog 217 #[PF k.R,.int .u8 (c:Nat),Mp k] w (pF k (gT k.B k.dict c pos s)):=by
 obtain⟨cv,hU,hC⟩:=h;have HU:=ae hU;have HC:=ae hC;have HO:=ae ho;have HD:=ae (And.intro iz jz);have Ic:=ae eS;have pW:(c:Int)<256:=aa;have axb:(128:Int)≤(c:Int):=aa;by_cases h1:k.B.length<pos+4;·have HN:=ae (ld HU.out 4 ak h1);have HR:=ae (show gT k.B k.dict c pos s= .bad 2 by unfold gT;exact if_pos h1);clear hU hC ho iz jz eS IB h1;go_enter func217,ntmps217;go_wp2_with fail;refine HN.out.mono ?_;rintro e w1 ⟨rfl,rfl⟩;go_wp2_with fail;go_ret;rw[HR.out];exact⟨rfl,HU.out.below⟩
 ·have HN:=ae (mP HU.out 4 ak aa);have xF:=ae (show pos+4≤k.B.length by omega);have BB:gT k.B k.dict c pos s=((dV c k.B (pos+4) s).then (eP c)).then (cQ k.B (db k.B (pos+2)+1) (65536*(c%32)+db k.B pos+1) k.dict):=by unfold gT;exact if_neg h1
  by_cases vd:c<192
  ·have sf:dV c k.B (pos+4) s= .go (pos+4) s:=(by unfold dV;exact if_pos vd);have has:s.asked=false:=by
    cases hq:s.asked with
    | false=>rfl
    | true=>exact absurd ⟨vd,hq⟩ IB
   have HAS:=ae has;have aog:decide ((192:Int)≤(c:Int))=false:=decide_eq_false aa;by_cases BC:c<160
   ·have HR:=ae (BB.trans (show _=cQ k.B (db k.B (pos+2)+1) (65536*(c%32)+db k.B pos+1) k.dict (pos+4) s by rw[sf,show(tW.go (pos+4) s).then (eP c)=eP c (pos+4) s from rfl,show eP c (pos+4) s= .go (pos+4) s by unfold eP;exact if_pos BC];rfl));have ahL:decide ((160:Int)≤(c:Int))=false:=decide_eq_false aa;clear hU hC ho iz jz eS IB h1 BB sf has vd BC cC cU;go_enter func217,ntmps217;go_wp2_with fail;refine HN.out.mono ?_;rintro e w1 ⟨A1,c1,rfl,cC,eW,tG,xd⟩;have a7:=ae eW;have qj:=ae (And.intro tG xd);have O9:(4:Int)≤(c1:Int):=aa;have wj: ¬c1=2:=aa;have P7:=ae cC;clear eW tG xd cC;have HT:Hid (Uk k w1 (pos+4) s∧s.clear=true∧s.asked=false∧s.out.length≤400000000):=ae ⟨⟨_,qj.out.1,qj.out.2 _ _ HC.out⟩,Ic.out,HAS.out,HO.out⟩;have⟨wt,YY⟩:=ex (w1);subst YY;have ZD:=ae (kH qj.out.1.below HT.out.1.below qj.out.1.BA a7.out.1 a7.out.2);have Mq:=ae (jH (k:=k) (p:=pos) (n:=4) (i:=2) (c:=c1-2) (A:=A1.map (·.add 2)) (w:=w1) (by have h:=ZD.out.cutFrom (k:=2) (c:=c1) (by have:=xF.out;simp;omega) Dd;rw[if_neg wj]at h;exact h) (am xF.out) ak);have⟨t,ht⟩:=ex (db k.B (pos+2));rw[ht]at Mq HR;have O8:t<65536:=wM;have⟨n,hn⟩:=ex (t+1);rw[hn]at HR;have hti:(t:Int)+1=(n:Int):=aa;have pX:(n:Int)≤65536:=aa;have zS:=ae (show n≤65536 by omega);clear ht O8 hn;go_wp2_with fail;refine Mq.out.mono ?_;rintro e w5 ⟨rfl,eu⟩;have UF:=ae (HT.out.1.aF eu);clear eu;by_cases h3:k.B.length<pos+4+n;·have nR:=ae (jy UF.out n (am zS.out) h3);have vc:=ae (HR.out.trans (show cQ k.B n _ k.dict (pos+4) s= .bad 2 by unfold cQ;exact if_pos h3));clear h3;go_wp2_with fail;refine nR.out.mono ?_;rintro e w6 ⟨rfl,rfl⟩;go_wp2_with fail;go_ret;rw[vc.out];exact⟨rfl,UF.out.below⟩
    ·have nR:=ae (ku UF.out n (am zS.out) aa);have vc:=ae (HR.out.trans (show cQ k.B n _ k.dict (pos+4) s=dR ((k.B.drop (pos+4)).take n) _ k.dict (pos+4+n) s by unfold cQ;exact if_neg h3));have H3:=ae h3;clear h3;go_wp2_with fail;refine nR.out.mono ?_;rintro e w6 ⟨A6,c6,rfl,zC,mj,UG⟩;have GY:=ae (jH (k:=k) (p:=pos) (n:=4) (i:=0) (c:=c1) (A:=A1) (w:=w6) (kH qj.out.1.below UG.below qj.out.1.BA a7.out.1 a7.out.2) (am xF.out) ak);have z_:=ae (And.intro UG (And.intro mj zC));have⟨u,hu⟩:=ex (db k.B (pos+0));rw[hu]at GY;rw[Nat.add_zero]at hu;rw[hu]at vc;have hul:u<65536:=(by rw[←hu];exact sq _ _);have⟨z,hz⟩:=ex (65536*(c%32)+u+1);rw[hz]at vc;have eQ:((c:Int)%32)*65536+(u:Int)+1=(z:Int):=aa;have oC:wrap64 (((c:Int)%32)*65536)=((c:Int)%32)*65536:=oy;have Pb:IntKind.u8.wrap ((c:Int).tmod 32)=(c:Int)%32:=(by rw[Int.tmod_eq_emod_of_nonneg aa,IntKind.wrap_u8];omega);have Wd:z≤4000000:=aa;have hui:(u:Int)<65536:=aa;have VT:(z:Int)≤4000000:=aa;have HZ:=ae Wd;clear UG mj zC hu hul hz Wd;go_wp2_with fail;refine GY.out.mono ?_;rintro e w7 ⟨rfl,mM⟩;have HU7:=ae (z_.out.1.aF mM);have wl:=ae (z_.out.2.1.1.below mM);clear mM;have OQ:((k.B.drop (pos+4)).take n).length=n:=(by have:=H3.out;simp;omega);have nD:=nG (pos:=pos+4+n) (s:=s) HU7.out HT.out.2.1 HT.out.2.2.1 HT.out.2.2.2 A6 ((k.B.drop (pos+4)).take n) c6 wl.out (am zS.out) z HZ.out HD.out.1 HD.out.2;rw[OQ]at nD;have UH:=ae nD;clear nD OQ;go_wp2_with fail;refine UH.out.mono ?_;intro e w8 nH;obtain⟨m,rfl,nH⟩:=nH.ret;have KA:=ae nH;clear nH;go_wp2_with fail;go_ret;rw[vc.out];exact KA.out
   ·have gN:jT (s.lc:Nat) (s.lp:Nat) (s.pb:Nat)=true:=(by obtain⟨_,_,_,_,_,hp,_⟩:=hC eS has;exact hp);have HR:=ae (BB.trans (show _=cQ k.B (db k.B (pos+2)+1) (65536*(c%32)+db k.B pos+1) k.dict (pos+4) (aW s) by rw[sf,show(tW.go (pos+4) s).then (eP c)=eP c (pos+4) s from rfl,show eP c (pos+4) s= .go (pos+4) (aW s) by unfold eP;rw[if_neg BC,if_neg (by rw[gN];decide)]];rfl));have ahL:decide ((160:Int)≤(c:Int))=true:=decide_eq_true aa;obtain⟨LC,hLC⟩: ∃n,s.lc=n:=⟨_,rfl⟩
    obtain⟨LP,hLP⟩: ∃n,s.lp=n:=⟨_,rfl⟩
    obtain⟨PB,hPB⟩: ∃n,s.pb=n:=⟨_,rfl⟩
    have Dy:=of_decide_eq_true gN;have mQ:=ae (And.intro (show LC≤4∧LP≤4∧PB≤4∧LC+LP≤4 by omega) gN);have sH:=ae (And.intro hLC (And.intro hLP hPB));clear hU hC ho iz jz eS IB h1 BB sf has vd BC cC cU gN Dy hLC hLP hPB;go_enter func217,ntmps217;go_wp2_with fail;refine HN.out.mono ?_;rintro e w1 ⟨A1,c1,rfl,cC,eW,tG,xd⟩;have a7:=ae eW;have qj:=ae (And.intro tG xd);have O9:(4:Int)≤(c1:Int):=aa;have wj: ¬c1=2:=aa;have P7:=ae cC;clear eW tG xd cC;have Ii:=ae qj.out.1;obtain⟨v,⟨_,_,_,_,_,r5,r6,r7,_⟩,_,_⟩:=Ii.out.cells;rw[sH.out.1]at r5;rw[sH.out.2.1]at r6;rw[sH.out.2.2]at r7;obtain⟨v0,aP,_⟩:=Ii.out.row;have EY:k.R<w1.heap.size:=(cr aP)
    have yT:=ae (fun W=>qa LC LP PB W (am mQ.out.1) (am mQ.out.1) (am mQ.out.1) (am mQ.out.1));have Ih:w1.drew.cell? ⟨k.R,5,none⟩=some (.int .i64 (LC:Nat))∧w1.drew.cell? ⟨k.R,6,none⟩=some (.int .i64 (LP:Nat))∧w1.drew.cell? ⟨k.R,7,none⟩=some (.int .i64 (PB:Nat)):=⟨r5,r6,r7⟩
    clear aP;go_upto_region 9 with fail;refine wp_region_held_drew (S:=fun W=>W.cell? ⟨k.R,5,none⟩=some (.int .i64 (LC:Nat))∧W.cell? ⟨k.R,6,none⟩=some (.int .i64 (LP:Nat))∧W.cell? ⟨k.R,7,none⟩=some (.int .i64 (PB:Nat))) ai Ih (fun hS=> ?_);refine af 0 hS (h:=af 1 hS (h:=af 2 hS (h:=aL 3 hS (h:=af 4 hS (h:=af 5 hS (h:=af 6 hS (h:=aL 7 hS (h:=af 8 hS (h:=af 9 hS (h:=af 10 hS (h:=aL 11 hS (h:= ?_))))))))))));refine aC 12 (fun K hK=> ?_);go_simp;refine(yT.out _).mono ?_;rintro e D9 ⟨C,Lb,rfl,UI,qz,UJ,UK⟩;have g12:D9.cell? ⟨k.R,5,none⟩=some (.int .i64 (LC:Nat))∧D9.cell? ⟨k.R,6,none⟩=some (.int .i64 (LP:Nat))∧D9.cell? ⟨k.R,7,none⟩=some (.int .i64 (PB:Nat)):=⟨(qz.cell (p:=⟨k.R,5,none⟩) EY).trans r5,(qz.cell (p:=⟨k.R,6,none⟩) EY).trans r6,(qz.cell (p:=⟨k.R,7,none⟩) EY).trans r7⟩
    have UL:=ae (And.intro UI (And.intro qz (And.intro UJ UK)));clear UI qz UJ UK;go_wp2_with fail;refine hK.out _ _ g12 (fun _=> ?_);clear hK K;refine af 13 g12 (h:=af 14 g12 (h:=af 15 g12 (h:=af 16 g12 (h:=af 17 g12 (h:= ?_)))));refine wpAnyH_done ai ?_ _;clear hS Ih EY yT r5 r6 r7;have pH:=Ii.out.aF ((Below.refl _ _).drew.trans (show Below w1.heap.size w1.drew D9 from UL.out.2.1));obtain⟨_,⟨_,_,_,_,_,_,_,_,r8⟩,_,lW⟩:=pH.cells;have f8:=lW 8;have qx:=pH.put 8 (PF C) (s':=aW s) (cv':=PF C) (fun _=>rfl) rfl pH.nums.2.2.2.2;have zP:ks k.base (D9.setCell ⟨k.R,8,none⟩ (PF C)) (PF C) (aW s):=by
     obtain⟨v0,aP,_⟩:=pH.row;have hb:=Nat.le_trans Ii.out.BA Ii.out.below.size;have h1:=UL.out.2.2.1;have h2:=UL.out.2.2.2;have Dz:ks k.base D9 (PF C) (aW s):=fun _ _=>⟨C,Lb,rfl,⟨Nat.le_trans hb h1,Nat.le_trans hb h2⟩,by show bB _ C Lb s.lc s.lp s.pb 0 (1,1,1,1) (fun _=>1024);rw[sH.out.1,sH.out.2.1,sH.out.2.2];exact UL.out.1,mQ.out.2,(by decide:(0:Nat)<12),Ul⟩
     exact Dz.set (p:=⟨k.R,8,none⟩) aP ak ak _
    obtain⟨wt,YY⟩: ∃W,D9.setCell ⟨k.R,8,none⟩ (PF C)=W:=⟨_,rfl⟩
    rw[YY]at qx zP;have HWT:=ae YY;have HT:Hid (Uk k wt (pos+4) (aW s)∧(aW s).clear=true∧(aW s).asked=false∧(aW s).out.length≤400000000):=ae ⟨⟨_,qx,zP⟩,Ic.out,HAS.out,HO.out⟩;clear pH lW qx zP YY Ii UL;go_upto_region 13 with fail;rw[HWT.out];clear HWT f8 r8;have ZD:=ae (kH qj.out.1.below HT.out.1.below qj.out.1.BA a7.out.1 a7.out.2);have Mq:=ae (jH (k:=k) (p:=pos) (n:=4) (i:=2) (c:=c1-2) (A:=A1.map (·.add 2)) (w:=wt) (by have h:=ZD.out.cutFrom (k:=2) (c:=c1) (by have:=xF.out;simp;omega) Dd;rw[if_neg wj]at h;exact h) (am xF.out) ak);have⟨t,ht⟩:=ex (db k.B (pos+2));rw[ht]at Mq HR;have O8:t<65536:=wM;have⟨n,hn⟩:=ex (t+1);rw[hn]at HR;have hti:(t:Int)+1=(n:Int):=aa;have pX:(n:Int)≤65536:=aa;have zS:=ae (show n≤65536 by omega);clear ht O8 hn;go_wp2_with fail;refine Mq.out.mono ?_;rintro e w5 ⟨rfl,eu⟩;have UF:=ae (HT.out.1.aF eu);clear eu;by_cases h3:k.B.length<pos+4+n;·have nR:=ae (jy UF.out n (am zS.out) h3);have vc:=ae (HR.out.trans (show cQ k.B n _ k.dict (pos+4) (aW s)= .bad 2 by unfold cQ;exact if_pos h3));clear h3;go_wp2_with fail;refine nR.out.mono ?_;rintro e w6 ⟨rfl,rfl⟩;go_wp2_with fail;go_ret;rw[vc.out];exact⟨rfl,UF.out.below⟩
    ·have nR:=ae (ku UF.out n (am zS.out) aa);have vc:=ae (HR.out.trans (show cQ k.B n _ k.dict (pos+4) (aW s)=dR ((k.B.drop (pos+4)).take n) _ k.dict (pos+4+n) (aW s) by unfold cQ;exact if_neg h3));have H3:=ae h3;clear h3;go_wp2_with fail;refine nR.out.mono ?_;rintro e w6 ⟨A6,c6,rfl,zC,mj,UG⟩;have GY:=ae (jH (k:=k) (p:=pos) (n:=4) (i:=0) (c:=c1) (A:=A1) (w:=w6) (kH qj.out.1.below UG.below qj.out.1.BA a7.out.1 a7.out.2) (am xF.out) ak);have z_:=ae (And.intro UG (And.intro mj zC));have⟨u,hu⟩:=ex (db k.B (pos+0));rw[hu]at GY;rw[Nat.add_zero]at hu;rw[hu]at vc;have hul:u<65536:=(by rw[←hu];exact sq _ _);have⟨z,hz⟩:=ex (65536*(c%32)+u+1);rw[hz]at vc;have eQ:((c:Int)%32)*65536+(u:Int)+1=(z:Int):=aa;have oC:wrap64 (((c:Int)%32)*65536)=((c:Int)%32)*65536:=oy;have Pb:IntKind.u8.wrap ((c:Int).tmod 32)=(c:Int)%32:=(by rw[Int.tmod_eq_emod_of_nonneg aa,IntKind.wrap_u8];omega);have Wd:z≤4000000:=aa;have hui:(u:Int)<65536:=aa;have VT:(z:Int)≤4000000:=aa;have HZ:=ae Wd;clear UG mj zC hu hul hz Wd;go_wp2_with fail;refine GY.out.mono ?_;rintro e w7 ⟨rfl,mM⟩;have HU7:=ae (z_.out.1.aF mM);have wl:=ae (z_.out.2.1.1.below mM);clear mM;have OQ:((k.B.drop (pos+4)).take n).length=n:=(by have:=H3.out;simp;omega);have nD:=nG (pos:=pos+4+n) (s:=(aW s)) HU7.out HT.out.2.1 HT.out.2.2.1 HT.out.2.2.2 A6 ((k.B.drop (pos+4)).take n) c6 wl.out (am zS.out) z HZ.out HD.out.1 HD.out.2;rw[OQ]at nD;have UH:=ae nD;clear nD OQ;go_wp2_with fail;refine UH.out.mono ?_;intro e w8 nH;obtain⟨m,rfl,nH⟩:=nH.ret;have KA:=ae nH;clear nH;go_wp2_with fail;go_ret;rw[vc.out];exact KA.out
  ·have aog:decide ((192:Int)≤(c:Int))=true:=decide_eq_true aa;have ahL:decide ((160:Int)≤(c:Int))=true:=decide_eq_true aa;have BC: ¬c<160:=aa;by_cases h5:k.B.length<pos+4+1;·have HR:=ae (BB.trans (show _=tW.bad 2 by rw[show dV c k.B (pos+4) s= .bad 2 by unfold dV;rw[if_neg vd,if_pos h5]];rfl));have HPO:=ae (show kt k.B (pos+4) s= .bad 2 by unfold kt;exact if_pos h5);clear hU hC ho iz jz eS IB h1 BB vd BC cC cU h5;go_enter func217,ntmps217;go_wp2_with fail;refine HN.out.mono ?_;rintro e w1 ⟨A1,c1,rfl,cC,eW,tG,xd⟩;have a7:=ae eW;have qj:=ae (And.intro tG xd);have O9:(4:Int)≤(c1:Int):=aa;have wj: ¬c1=2:=aa;have P7:=ae cC;clear eW tG xd cC;have V3:=ae (pG qj.out.1);rw[HPO.out]at V3;go_wp2_with fail;refine V3.out.mono ?_;rintro e w2 ⟨rfl,aD⟩;go_wp2_with fail;go_ret;rw[HR.out];exact⟨rfl,aD⟩
   ·have⟨s1,js⟩:=ex ({s with lc:=(k.B.getD (pos+4) 0).toNat%9,lp:=(k.B.getD (pos+4) 0).toNat/9%5,pb:=(k.B.getD (pos+4) 0).toNat/45,asked:=false}:gH);have sf:dV c k.B (pos+4) s= .go (pos+4+1) s1:=(by rw[←js];unfold dV;rw[if_neg vd,if_neg h5]);have HPO:=ae (show kt k.B (pos+4) s= .go (pos+4+1) s1 by rw[←js];unfold kt;exact if_neg h5);have sk:=ae (show s1.clear=s.clear∧s1.asked=false∧s1.out=s.out by rw[←js];exact⟨rfl,rfl,rfl⟩);have aoh:=ae (sk.out.1.trans eS);obtain⟨LC,hLC⟩: ∃n,s1.lc=n:=⟨_,rfl⟩
    obtain⟨LP,hLP⟩: ∃n,s1.lp=n:=⟨_,rfl⟩
    obtain⟨PB,hPB⟩: ∃n,s1.pb=n:=⟨_,rfl⟩
    have sH:=ae (And.intro hLC (And.intro hLP hPB));cases gN:jT (s1.lc:Nat) (s1.lp:Nat) (s1.pb:Nat)with
    | false=>
     have HR:=ae (BB.trans (show _=tW.bad 6 by rw[sf,show(tW.go (pos+4+1) s1).then (eP c)=eP c (pos+4+1) s1 from rfl,show eP c (pos+4+1) s1= .bad 6 by unfold eP;rw[if_neg BC,if_pos gN]];rfl));rw[hLC,hLP,hPB]at gN;have mQ:=ae gN;clear hU hC ho iz jz eS IB h1 BB vd BC cC cU h5 js sf hLC hLP hPB gN;go_enter func217,ntmps217;go_wp2_with fail;refine HN.out.mono ?_;rintro e w1 ⟨A1,c1,rfl,cC,eW,tG,xd⟩;have a7:=ae eW;have qj:=ae (And.intro tG xd);have O9:(4:Int)≤(c1:Int):=aa;have wj: ¬c1=2:=aa;have P7:=ae cC;clear eW tG xd cC;have V3:=ae (pG qj.out.1);rw[HPO.out]at V3;go_wp2_with fail;refine V3.out.mono ?_;rintro e w2 ⟨rfl,UM⟩;have Ii:=ae UM;clear UM;obtain⟨v,⟨_,_,_,_,_,r5,r6,r7,_⟩,_,_⟩:=Ii.out.cells;rw[sH.out.1]at r5;rw[sH.out.2.1]at r6;rw[sH.out.2.2]at r7;have yT:=ae (fun W=>FS (LC:Nat) (LP:Nat) (PB:Nat) W mQ.out);have Ih:w2.drew.cell? ⟨k.R,5,none⟩=some (.int .i64 (LC:Nat))∧w2.drew.cell? ⟨k.R,6,none⟩=some (.int .i64 (LP:Nat))∧w2.drew.cell? ⟨k.R,7,none⟩=some (.int .i64 (PB:Nat)):=⟨r5,r6,r7⟩
     go_upto_region 9 with fail;refine wp_region_held_drew (S:=fun W=>W.cell? ⟨k.R,5,none⟩=some (.int .i64 (LC:Nat))∧W.cell? ⟨k.R,6,none⟩=some (.int .i64 (LP:Nat))∧W.cell? ⟨k.R,7,none⟩=some (.int .i64 (PB:Nat))) ai Ih (fun hS=> ?_);refine af 0 hS (h:=af 1 hS (h:=af 2 hS (h:=aL 3 hS (h:=af 4 hS (h:=af 5 hS (h:=af 6 hS (h:=aL 7 hS (h:=af 8 hS (h:=af 9 hS (h:=af 10 hS (h:=aL 11 hS (h:= ?_))))))))))));refine aC 12 (fun K hK=> ?_);go_simp;refine(yT.out _).mono ?_;rintro e D9 ⟨rfl,e12⟩;subst e12;have g12:=hS;go_wp2_with fail;refine hK.out _ _ g12 (fun _=> ?_);clear hK K;refine af 13 g12 (h:=af 14 g12 (h:=af 15 g12 (h:=af 16 g12 (h:=af 17 g12 (h:= ?_)))));refine wpAnyH_done ai ?_ _;go_wp2_with fail;go_ret;rw[HR.out];exact⟨rfl,(Ii.out.aF (a8 _)).below⟩
    | true=>
     have HR:=ae (BB.trans (show _=cQ k.B (db k.B (pos+2)+1) (65536*(c%32)+db k.B pos+1) k.dict (pos+4+1) (aW s1) by rw[sf,show(tW.go (pos+4+1) s1).then (eP c)=eP c (pos+4+1) s1 from rfl,show eP c (pos+4+1) s1= .go (pos+4+1) (aW s1) by unfold eP;rw[if_neg BC,if_neg (by rw[gN];decide)]];rfl));have Dy:=of_decide_eq_true gN;have mQ:=ae (And.intro (show LC≤4∧LP≤4∧PB≤4∧LC+LP≤4 by omega) gN);clear hU hC ho iz jz eS IB h1 BB vd BC cC cU h5 js sf hLC hLP hPB gN Dy;go_enter func217,ntmps217;go_wp2_with fail;refine HN.out.mono ?_;rintro e w1 ⟨A1,c1,rfl,cC,eW,tG,xd⟩;have a7:=ae eW;have qj:=ae (And.intro tG xd);have O9:(4:Int)≤(c1:Int):=aa;have wj: ¬c1=2:=aa;have P7:=ae cC;clear eW tG xd cC;have V3:=ae (pG qj.out.1);rw[HPO.out]at V3;go_wp2_with fail;refine V3.out.mono ?_;rintro e w2 ⟨rfl,UM⟩;have Ii:=ae UM;clear UM;obtain⟨v,⟨_,_,_,_,_,r5,r6,r7,_⟩,_,_⟩:=Ii.out.cells;rw[sH.out.1]at r5;rw[sH.out.2.1]at r6;rw[sH.out.2.2]at r7;obtain⟨v0,aP,_⟩:=Ii.out.row;have EY:k.R<w2.heap.size:=(cr aP)
     have yT:=ae (fun W=>qa LC LP PB W (am mQ.out.1) (am mQ.out.1) (am mQ.out.1) (am mQ.out.1));have Ih:w2.drew.cell? ⟨k.R,5,none⟩=some (.int .i64 (LC:Nat))∧w2.drew.cell? ⟨k.R,6,none⟩=some (.int .i64 (LP:Nat))∧w2.drew.cell? ⟨k.R,7,none⟩=some (.int .i64 (PB:Nat)):=⟨r5,r6,r7⟩
     clear aP;go_upto_region 9 with fail;refine wp_region_held_drew (S:=fun W=>W.cell? ⟨k.R,5,none⟩=some (.int .i64 (LC:Nat))∧W.cell? ⟨k.R,6,none⟩=some (.int .i64 (LP:Nat))∧W.cell? ⟨k.R,7,none⟩=some (.int .i64 (PB:Nat))) ai Ih (fun hS=> ?_);refine af 0 hS (h:=af 1 hS (h:=af 2 hS (h:=aL 3 hS (h:=af 4 hS (h:=af 5 hS (h:=af 6 hS (h:=aL 7 hS (h:=af 8 hS (h:=af 9 hS (h:=af 10 hS (h:=aL 11 hS (h:= ?_))))))))))));refine aC 12 (fun K hK=> ?_);go_simp;refine(yT.out _).mono ?_;rintro e D9 ⟨C,Lb,rfl,UI,qz,UJ,UK⟩;have g12:D9.cell? ⟨k.R,5,none⟩=some (.int .i64 (LC:Nat))∧D9.cell? ⟨k.R,6,none⟩=some (.int .i64 (LP:Nat))∧D9.cell? ⟨k.R,7,none⟩=some (.int .i64 (PB:Nat)):=⟨(qz.cell (p:=⟨k.R,5,none⟩) EY).trans r5,(qz.cell (p:=⟨k.R,6,none⟩) EY).trans r6,(qz.cell (p:=⟨k.R,7,none⟩) EY).trans r7⟩
     have UL:=ae (And.intro UI (And.intro qz (And.intro UJ UK)));clear UI qz UJ UK;go_wp2_with fail;refine hK.out _ _ g12 (fun _=> ?_);clear hK K;refine af 13 g12 (h:=af 14 g12 (h:=af 15 g12 (h:=af 16 g12 (h:=af 17 g12 (h:= ?_)))));refine wpAnyH_done ai ?_ _;clear hS Ih EY yT r5 r6 r7;have pH:=Ii.out.aF ((Below.refl _ _).drew.trans (show Below w2.heap.size w2.drew D9 from UL.out.2.1));obtain⟨_,⟨_,_,_,_,_,_,_,_,r8⟩,_,lW⟩:=pH.cells;have f8:=lW 8;have qx:=pH.put 8 (PF C) (s':=aW s1) (cv':=PF C) (fun _=>rfl) rfl pH.nums.2.2.2.2;have zP:ks k.base (D9.setCell ⟨k.R,8,none⟩ (PF C)) (PF C) (aW s1):=by
      obtain⟨v0,aP,_⟩:=pH.row;have hb:=Nat.le_trans Ii.out.BA Ii.out.below.size;have h1:=UL.out.2.2.1;have h2:=UL.out.2.2.2;have Dz:ks k.base D9 (PF C) (aW s1):=fun _ _=>⟨C,Lb,rfl,⟨Nat.le_trans hb h1,Nat.le_trans hb h2⟩,by show bB _ C Lb s1.lc s1.lp s1.pb 0 (1,1,1,1) (fun _=>1024);rw[sH.out.1,sH.out.2.1,sH.out.2.2];exact UL.out.1,mQ.out.2,(by decide:(0:Nat)<12),Ul⟩
      exact Dz.set (p:=⟨k.R,8,none⟩) aP ak ak _
     obtain⟨wt,YY⟩: ∃W,D9.setCell ⟨k.R,8,none⟩ (PF C)=W:=⟨_,rfl⟩
     rw[YY]at qx zP;have HWT:=ae YY;have HT:Hid (Uk k wt (pos+4+1) (aW s1)∧(aW s1).clear=true∧(aW s1).asked=false∧(aW s1).out.length≤400000000):=ae ⟨⟨_,qx,zP⟩,aoh.out,sk.out.2.1,(by show s1.out.length≤_;rw[sk.out.2.2];exact HO.out)⟩;clear pH lW qx zP YY Ii UL;go_upto_region 13 with fail;rw[HWT.out];clear HWT f8 r8;have ZD:=ae (kH qj.out.1.below HT.out.1.below qj.out.1.BA a7.out.1 a7.out.2);have Mq:=ae (jH (k:=k) (p:=pos) (n:=4) (i:=2) (c:=c1-2) (A:=A1.map (·.add 2)) (w:=wt) (by have h:=ZD.out.cutFrom (k:=2) (c:=c1) (by have:=xF.out;simp;omega) Dd;rw[if_neg wj]at h;exact h) (am xF.out) ak);have⟨t,ht⟩:=ex (db k.B (pos+2));rw[ht]at Mq HR;have O8:t<65536:=wM;have⟨n,hn⟩:=ex (t+1);rw[hn]at HR;have hti:(t:Int)+1=(n:Int):=aa;have pX:(n:Int)≤65536:=aa;have zS:=ae (show n≤65536 by omega);clear ht O8 hn;go_wp2_with fail;refine Mq.out.mono ?_;rintro e w5 ⟨rfl,eu⟩;have UF:=ae (HT.out.1.aF eu);clear eu;by_cases h3:k.B.length<pos+4+1+n;·have nR:=ae (jy UF.out n (am zS.out) h3);have vc:=ae (HR.out.trans (show cQ k.B n _ k.dict (pos+4+1) (aW s1)= .bad 2 by unfold cQ;exact if_pos h3));clear h3;go_wp2_with fail;refine nR.out.mono ?_;rintro e w6 ⟨rfl,rfl⟩;go_wp2_with fail;go_ret;rw[vc.out];exact⟨rfl,UF.out.below⟩
     ·have nR:=ae (ku UF.out n (am zS.out) aa);have vc:=ae (HR.out.trans (show cQ k.B n _ k.dict (pos+4+1) (aW s1)=dR ((k.B.drop (pos+4+1)).take n) _ k.dict (pos+4+1+n) (aW s1) by unfold cQ;exact if_neg h3));have H3:=ae h3;clear h3;go_wp2_with fail;refine nR.out.mono ?_;rintro e w6 ⟨A6,c6,rfl,zC,mj,UG⟩;have GY:=ae (jH (k:=k) (p:=pos) (n:=4) (i:=0) (c:=c1) (A:=A1) (w:=w6) (kH qj.out.1.below UG.below qj.out.1.BA a7.out.1 a7.out.2) (am xF.out) ak);have z_:=ae (And.intro UG (And.intro mj zC));have⟨u,hu⟩:=ex (db k.B (pos+0));rw[hu]at GY;rw[Nat.add_zero]at hu;rw[hu]at vc;have hul:u<65536:=(by rw[←hu];exact sq _ _);have⟨z,hz⟩:=ex (65536*(c%32)+u+1);rw[hz]at vc;have eQ:((c:Int)%32)*65536+(u:Int)+1=(z:Int):=aa;have oC:wrap64 (((c:Int)%32)*65536)=((c:Int)%32)*65536:=oy;have Pb:IntKind.u8.wrap ((c:Int).tmod 32)=(c:Int)%32:=(by rw[Int.tmod_eq_emod_of_nonneg aa,IntKind.wrap_u8];omega);have Wd:z≤4000000:=aa;have hui:(u:Int)<65536:=aa;have VT:(z:Int)≤4000000:=aa;have HZ:=ae Wd;clear UG mj zC hu hul hz Wd;go_wp2_with fail;refine GY.out.mono ?_;rintro e w7 ⟨rfl,mM⟩;have HU7:=ae (z_.out.1.aF mM);have wl:=ae (z_.out.2.1.1.below mM);clear mM;have OQ:((k.B.drop (pos+4+1)).take n).length=n:=(by have:=H3.out;simp;omega);have nD:=nG (pos:=pos+4+1+n) (s:=(aW s1)) HU7.out HT.out.2.1 HT.out.2.2.1 HT.out.2.2.2 A6 ((k.B.drop (pos+4+1)).take n) c6 wl.out (am zS.out) z HZ.out HD.out.1 HD.out.2;rw[OQ]at nD;have UH:=ae nD;clear nD OQ;go_wp2_with fail;refine UH.out.mono ?_;intro e w8 nH;obtain⟨m,rfl,nH⟩:=nH.ret;have KA:=ae nH;clear nH;go_wp2_with fail;go_ret;rw[vc.out];exact KA.out
theorem vZ{s:gH}(h:s.clear=true)(h2: ¬(2<c∧c<128)): ¬(s.clear=false∨(2<c∧c<128)):=by
 rw[h];intro h;rcases h with h | h;·cases h
 ·exact h2 h
theorem GZ{s:gH}(h:Uk k w pos s)(c:Nat)(cC:1≤c)(cU:c<256)(ho:s.out.length≤400000000)(iz:1≤k.dict)(jz:k.dict≤9223372036854775807):
  Calls prog 183 #[PF k.R,.int .u8 (c:Nat),Mp k] w (pF k (bJ k.B k.dict c pos s)):=by
 have HD:=ae (And.intro iz jz);have HO:=ae ho;have H:=ae h;by_cases eS:c=1∨224≤c
 ·have⟨s1,js⟩:=ex ({s with start:=s.out.length,clear:=true,asked:=true}:gH);have wI:bJ k.B k.dict c pos s=br k.B k.dict c pos s1:=by unfold bJ kr;rw[if_pos eS,js]
  obtain⟨cv,hU,_⟩:=h;obtain⟨v,⟨_,r1,r2,r3,r4,_,_,_,_⟩,Mr,lW⟩:=hU.cells;obtain⟨AO,cO,rfl,hcO,hmO,hBO⟩:=Mr.read;have f2:=lW 2;have f3:=lW 3;have f4:=lW 4;have u1:=hU.put 2 (.int .i64 (s.out.length:Nat)) (s':={s with start:=s.out.length}) (cv':=cv) (fun _=>rfl) rfl (Nat.le_refl _);have u2:=u1.put 3 (.bool true) (s':={s with start:=s.out.length,clear:=true}) (cv':=cv) (fun _=>rfl) rfl (Nat.le_refl _);have u3:=u2.put 4 (.bool true) (s':={s with start:=s.out.length,clear:=true,asked:=true}) (cv':=cv) (fun _=>rfl) rfl (Nat.le_refl _);rw[js]at u3;have Pc:s1.asked=true∧s1.clear=true∧s1.out=s.out:=by rw[←js];exact⟨rfl,rfl,rfl⟩
  have mi:Uk k (((w.setCell ⟨k.R,2,none⟩ (.int .i64 (s.out.length:Nat))).setCell ⟨k.R,3,none⟩ (.bool true)).setCell ⟨k.R,4,none⟩ (.bool true)) pos s1:=⟨cv,u3,fun _ h2=>by rw[Pc.1]at h2;cases h2⟩
  obtain⟨_,⟨_,_,_,q3,q4,_,_,_,_⟩,_,_⟩:=u3.cells;obtain⟨w3,IW⟩: ∃W,((w.setCell ⟨k.R,2,none⟩ (.int .i64 (s.out.length:Nat))).setCell ⟨k.R,3,none⟩ (.bool true)).setCell ⟨k.R,4,none⟩ (.bool true)=W:=⟨_,rfl⟩
  rw[IW]at mi q3 q4;rw[Pc.2.1]at q3;rw[Pc.1]at q4;have HK3:=ae mi;have Nz:=ae IW;have sk:=ae Pc;have MX:=ae (show s1.out.length≤400000000 by rw[Pc.2.2];exact ho);have XG:(s.out.length:Int)≤400000000:=aa;generalize s.out.length=n at*;clear hU Mr hcO hmO hBO u1 u2 u3 mi IW js Pc ho iz jz lW;by_cases h1:c=1;·subst h1;have HR:=ae (wI.trans (show br k.B k.dict 1 pos s1=fB k.B pos s1 by unfold br;rw[if_neg (vZ sk.out.2.1 aa),if_pos aa]));have gl:=ae (zQ HK3.out MX.out);clear wI eS cC cU;go_enter func183,ntmps183;go_upto_region 5 with fail;rw[Nz.out];go_wp2_with fail;refine gl.out.mono ?_;intro e w8 nH;obtain⟨m,rfl,nH⟩:=nH.ret;have KA:=ae nH;clear nH;go_wp2_with fail;go_ret;rw[HR.out];exact KA.out
  ·have aoi:224≤c:=(by omega);have HR:=ae (wI.trans (show br k.B k.dict c pos s1=gT k.B k.dict c pos s1 by unfold br;rw[if_neg (vZ sk.out.2.1 aa),if_neg aa,if_neg aa]));have N1:=ae (zR HK3.out c aa cU sk.out.2.1 aa MX.out HD.out.1 HD.out.2);have i1: ¬(c:Int)=1:=aa;have i1b:((c:Int)==1)=false:=beq_eq_false_iff_ne.2 i1;have i2:(224:Int)≤(c:Int):=aa;have i3:(c:Int)<256:=aa;clear wI eS cC cU h1 aoi;go_enter func183,ntmps183;go_upto_region 5 with fail;rw[Nz.out];go_wp2_with fail;refine N1.out.mono ?_;intro e w8 nH;obtain⟨m,rfl,nH⟩:=nH.ret;have KA:=ae nH;clear nH;go_wp2_with fail;go_ret;rw[HR.out];exact KA.out
 ·have wI:bJ k.B k.dict c pos s=br k.B k.dict c pos s:=by unfold bJ kr;rw[if_neg eS]
  obtain⟨cv,hU,_⟩:=h;obtain⟨v,⟨_,_,_,r3,r4,_,_,_,_⟩,_,_⟩:=hU.cells;have i1: ¬(c:Int)=1:=aa;have i1b:((c:Int)==1)=false:=beq_eq_false_iff_ne.2 i1;have i2:(c:Int)<224:=aa;have i3:(1:Int)≤(c:Int):=aa;clear hU ho iz jz;cases hq:s.clear with
  | false=>
   have HR:=ae (wI.trans (show br k.B k.dict c pos s= .bad 6 by unfold br;rw[if_pos (.inl hq)]));rw[hq]at r3;clear wI eS cC cU hq;go_enter func183,ntmps183;go_wp2_with fail;go_ret;rw[HR.out];exact⟨rfl,H.out.below⟩
  | true=>
   rw[hq]at r3;have HQ:=ae hq;by_cases KB:2<c∧c<128;·have HR:=ae (wI.trans (show br k.B k.dict c pos s= .bad 6 by unfold br;rw[if_pos (.inr KB)]));have i4:(2:Int)<(c:Int):=aa;have i5:(c:Int)<128:=aa;clear wI eS cC cU hq KB;go_enter func183,ntmps183;go_wp2_with fail;go_ret;rw[HR.out];exact⟨rfl,H.out.below⟩
   ·have EL: ¬(s.clear=false∨(2<c∧c<128)):=vZ hq KB;by_cases bQ:c≤2;·have hc:c=2:=(by omega);subst hc;have HR:=ae (wI.trans (show br k.B k.dict 2 pos s=fB k.B pos s by unfold br;rw[if_neg EL,if_pos bQ]));have gl:=ae (zQ H.out HO.out);clear wI eS cC cU hq KB EL bQ i1 i1b i2 i3;go_enter func183,ntmps183;go_wp2_with fail;refine gl.out.mono ?_;intro e w8 nH;obtain⟨m,rfl,nH⟩:=nH.ret;have KA:=ae nH;clear nH;go_wp2_with fail;go_ret;rw[HR.out];exact KA.out
    ·have i4:(128:Int)≤(c:Int):=(by omega);by_cases BG:c<192∧s.asked=true;·have HR:=ae (wI.trans (show br k.B k.dict c pos s= .bad 6 by unfold br;rw[if_neg EL,if_neg bQ,if_pos BG]));have i5:(c:Int)<192:=aa;rw[BG.2]at r4;clear wI eS cC cU hq KB EL bQ BG;go_enter func183,ntmps183;go_wp2_with fail;go_ret;rw[HR.out];exact⟨rfl,H.out.below⟩
     ·have HR:=ae (wI.trans (show br k.B k.dict c pos s=gT k.B k.dict c pos s by unfold br;rw[if_neg EL,if_neg bQ,if_neg BG]));have N1:=ae (zR H.out c aa cU HQ.out BG HO.out HD.out.1 HD.out.2);have hb:decide ((c:Int)<192)=true→s.asked=false:=fun h=>by
       have vd:c<192:=am (of_decide_eq_true h);cases hx:s.asked with
       | false=>rfl
       | true=>exact absurd ⟨vd,hx⟩ BG
      by_cases vd:(c:Int)<192;·have ha:=hb (decide_eq_true vd);rw[ha]at r4;clear wI eS cC cU hq KB EL bQ BG hb;go_enter func183,ntmps183;go_wp2_with fail;refine N1.out.mono ?_;intro e w8 nH;obtain⟨m,rfl,nH⟩:=nH.ret;have KA:=ae nH;clear nH;go_wp2_with fail;go_ret;rw[HR.out];exact KA.out
      ·clear wI eS cC cU hq KB EL bQ BG hb;go_enter func183,ntmps183;go_wp2_with fail;refine N1.out.mono ?_;intro e w8 nH;obtain⟨m,rfl,nH⟩:=nH.ret;have KA:=ae nH;clear nH;go_wp2_with fail;go_ret;rw[HR.out];exact KA.out
theorem KC{s t:gH}(h:fB B pos s= .go p t):pos≤p:=by
 unfold fB at h;split at h;·cases h
 ·split at h;·cases h
  ·injection h with h1 _;omega
theorem G0{L:List UInt8}{s t:gH}(h:dR L size dict pos s= .go p t):p=pos:=by
 unfold dR at h;split at h;·cases h
 ·split at h;·cases h
  ·unfold nF at h;split at h;·cases h
   ·split at h;·injection h with h1 _;exact h1.symm
    ·cases h
theorem CN{x:tW}{f:Nat→gH→tW}{t:gH}(h:x.then f= .go p t): ∃q s,x= .go q s∧f q s= .go p t:=by
 cases x with
 | bad n=>cases h
 | go q s=>exact⟨q,s,rfl,h⟩
theorem zT{x:tW}{f:Nat→gH→tW}(h:x.then f= .bad n):x= .bad n∨ ∃q s,x= .go q s∧f q s= .bad n:=by
 cases x with
 | bad m=>exact .inl h
 | go q s=>exact .inr ⟨q,s,rfl,h⟩
theorem KD{s t:gH}(h:dV c B pos s= .go p t):pos≤p:=by
 unfold dV at h;split at h;·injection h with h1 _;omega
 ·split at h;·cases h
  ·injection h with h1 _;omega
theorem UN{s t:gH}(h:eP c pos s= .go p t):pos≤p:=by
 unfold eP at h;split at h;·injection h with h1 _;omega
 ·split at h;·cases h
  ·injection h with h1 _;omega
theorem KE{many:Nat}{s t:gH}(h:cQ B many size dict pos s= .go p t):pos≤p:=by
 unfold cQ at h;split at h;·cases h
 ·have:=G0 h;omega
theorem KF{s t:gH}(h:bJ B dict c pos s= .go p t):pos≤p:=by
 unfold bJ br at h;split at h;·cases h
 ·split at h;·exact KC h
  ·split at h;·cases h
   ·unfold gT at h;split at h;·cases h
    ·obtain⟨q,x,h1,h2⟩:=CN h;obtain⟨q',x',h3,h4⟩:=CN h1;have a1:=KD h3;have a2:=UN h4;have a3:=KE h2;omega
theorem G1{s:gH}(h:bJ B dict c pos s= .bad n):n=2∨n=6:=by
 have wJ: ∀{m:Nat},tW.bad m= .bad n→m=2∨m=6→n=2∨n=6:=fun h hm=>by injection h with h;omega
 unfold bJ br at h;split at h;·exact wJ h (.inr rfl)
 ·split at h
  ·unfold fB at h;split at h;·exact wJ h (.inl rfl)
   ·split at h;·exact wJ h (.inl rfl)
    ·cases h
  ·split at h;·exact wJ h (.inr rfl)
   ·unfold gT at h;split at h;·exact wJ h (.inl rfl)
    ·rcases zT h with h | ⟨q,x,_,h⟩
     ·rcases zT h with h | ⟨q,x,_,h⟩
      ·unfold dV at h;split at h;·cases h
       ·split at h;·exact wJ h (.inl rfl)
        ·cases h
      ·unfold eP at h;split at h;·cases h
       ·split at h;·exact wJ h (.inr rfl)
        ·cases h
     ·unfold cQ at h;split at h;·exact wJ h (.inl rfl)
      ·unfold dR at h;split at h;·exact wJ h (.inr rfl)
       ·split at h;·exact wJ h (.inr rfl)
        ·unfold nF at h;split at h;·exact wJ h (.inr rfl)
         ·split at h;·cases h
          ·exact wJ h (.inr rfl)
def jq(w:World)(res:List UInt8×Nat×Nat)(e:Ending)(w':World):Prop:=
 ∃A c,e= .returned (.tuple #[.slice A res.1.length c,.int .i64 (res.2.1:Nat),.int .i64 (res.2.2:Nat)])∧(res.1.length≤c∧c≤9223372036854775807)∧Bytes w' A res.1∧Below w.heap.size w w'
theorem jq.bad(h:Below w.heap.size w w'):jq w ([],0,n) (.returned (.tuple #[.slice none 0 0,.int .i64 0,.int .i64 (n:Nat)])) w':=
 ⟨none,0,rfl,⟨Nat.le_refl _,ak⟩,.nil,h⟩
theorem KG(A:Option Addr)(B:List UInt8)(c:Nat)(dict:Int)(w:World)(hB:Bytes w A B)(hA: ∀a,A=some a→a.block<w.heap.size)(hc:B.length≤c)(hm:c≤9223372036854775807)(hl:B.length≤1000000000)(iz:1≤dict)(jz:dict≤9223372036854775807)(hf:B.length<fuel)(ug:gU B dict fuel 0 Uz):
  Calls prog 138 #[.slice A B.length c,.int .i64 dict] w (jq w (bV B dict fuel 0 Uz)):=by
 obtain⟨vM,pn⟩: ∃R,bV B dict fuel 0 Uz=R:=⟨_,rfl⟩
 rw[pn];have⟨W,hW⟩:=ex (((w.alloc (.cells #[.slice A B.length c] 22)).alloc (.cells #[.int .i64 0] 3)).alloc (.cells #[.int .i64 dict,.slice none 0 0,.int .i64 0,.bool false,.bool false,.int .i64 0,.int .i64 0,.int .i64 0,.pointer none] 246));obtain⟨bb,jS⟩: ∃n,w.heap.size=n:=⟨_,rfl⟩
 obtain⟨ab,sU⟩: ∃n,w.heap.size+1=n:=⟨_,rfl⟩
 obtain⟨R,hR⟩: ∃n,w.heap.size+1+1=n:=⟨_,rfl⟩
 have VU:Uk ⟨w.heap.size,w,bb,ab,R,A,B,c,dict⟩ W 0 Uz:=by
  subst jS;subst sU;subst hR;have az:Below w.heap.size w (w.alloc (.cells #[.slice A B.length c] 22)):=ar;have aD:=az.alloc az.size (.cells #[.int .i64 0] 3);have bA:=aD.alloc aD.size (.cells #[.int .i64 dict,.slice none 0 0,.int .i64 0,.bool false,.bool false,.int .i64 0,.int .i64 0,.int .i64 0,.pointer none] 246);rw[hW]at bA;refine⟨.pointer none,⟨?_,?_,⟨.slice none 0 0,?_,Own.nil _ _⟩,⟨Nat.le_refl _,ua,IA⟩,⟨hB.below bA,hA⟩,⟨hc,hm,by show B.length≤_;omega,Nat.zero_le _,Nat.le_refl _⟩,bA,Nat.le_refl _⟩,fun h _=>iR⟩;·rw[←hW];refine(Below.heap_alloc _ _ _ av).trans ((Below.heap_alloc _ _ _ ag).trans (heap_alloc_last _ _))
  ·rw[←hW];have e:(w.alloc (.cells #[.slice A B.length c] 22)).heap.size=w.heap.size+1:=ag;refine(Below.heap_alloc _ _ _ ag).trans ?_;show((w.alloc (.cells #[.slice A B.length c] 22)).alloc (.cells #[.int .i64 0] 3)).heap[w.heap.size+1]? =_;rw[←e];exact heap_alloc_last _ _
  ·rw[←hW];have e:((w.alloc (.cells #[.slice A B.length c] 22)).alloc (.cells #[.int .i64 0] 3)).heap.size=w.heap.size+1+1:=ag;show(((w.alloc (.cells #[.slice A B.length c] 22)).alloc (.cells #[.int .i64 0] 3)).alloc _).heap[w.heap.size+1+1]? =_;rw[←e];exact heap_alloc_last _ _
 have HK0:=ae VU;have HW:=ae hW;have UO:=ae (And.intro jS (And.intro sU hR));have HD:=ae (And.intro iz jz);have HF:=ae (And.intro hf (And.intro ug pn));have hdb:decide (dict<1)=false:=decide_eq_false aa;clear jS sU hR VU hW iz jz hf ug pn hB hA hc hm hl;go_enter func138,ntmps138;go_wp2_with fail;rw[HW.out,UO.out.2.2,UO.out.2.1,UO.out.1];go_loopg [] fuel (fun gk wr=> ∃(pos:Nat) (s:gH),Hid (Uk ⟨w.heap.size,w,bb,ab,R,A,B,c,dict⟩ wr pos s)∧Hid (B.length<pos+gk∧gU B dict gk pos s∧bV B dict gk pos s=vM));case atStart=>exact⟨0,Uz,HK0,ae ⟨am HF.out.1,HF.out.2⟩⟩
 case round=>
  obtain⟨pos,s,HK,HT⟩:=hrel;cases gk with
  | zero=>
   obtain⟨cv,hU,_⟩:=HK.out;have h1:=HT.out.1;have h2:pos≤B.length:=hU.nums.2.2.2.1;omega
  | succ gk=>
   by_cases h1:B.length<pos+1;·have gY:([],0,2)=vM:=(by have h:=HT.out.2.2;unfold bV at h;rw[if_pos h1]at h;exact h);have HR:=ae gY;have HN:Hid (Calls prog 182 #[.int .i64 1,PF bb,PF ab] wr (vb wr)):=ae (jy (n:=1) HK.out ak h1);clear gY h1;go_wp2_with fail;refine HN.out.mono ?_;rintro e w1 ⟨rfl,rfl⟩;go_wp2_with fail;go_ret3;rw[←HR.out];exact jq.bad HK.out.below
   ·have HN:Hid (Calls prog 182 #[.int .i64 1,PF bb,PF ab] wr _):=ae (ku (n:=1) HK.out ak (by show pos+1≤B.length;omega));have⟨x,hx⟩:=ex (B.getD pos 0);have hxl:x.toNat<256:=x.toNat_lt;have Z8:(x.toNat:Int)<256:=aa;have HX:=ae (And.intro h1 (And.intro hx hxl));clear hx hxl;go_wp2_with fail;refine HN.out.mono ?_;rintro e w1 ⟨A1,c1,rfl,cC,⟨eW,_⟩,VP⟩;have xT:((B.drop pos).take 1).length=1:=av;obtain⟨b,off,rfl,hb,hcs⟩:=eW.addr (show 0<((B.drop pos).take 1).length by omega);have k0:=hcs 0 (show 0<((B.drop pos).take 1).length by omega);have e0:((B.drop pos).take 1)[0]=x:=(by rw[←HX.out.2.1];simp[List.getElem_take,List.getD_eq_getElem?_getD,List.getElem?_eq_getElem (show pos<B.length by omega)]);have k1:w1.cell? ⟨b,off,none⟩=some (.int .u8 (x.toNat:Nat)):=(by rw[Nat.add_zero]at k0;rw[k0];exact congrArg (fun z:UInt8=>some (B8 z)) e0);have EZ:=ae VP;clear cC eW VP xT hcs k0 e0 hb h1;by_cases nV:x.toNat=0;·have gY:(s.out,pos+1,0)=vM:=(by have h:=HT.out.2.2;unfold bV at h;rw[if_neg HX.out.1,HX.out.2.1,if_pos nV]at h;exact h);have HR:=ae gY;have aoj:((x.toNat:Int)==0)=true:=(by rw[nV];rfl);have aok:(x.toNat:Int)=0:=aa;obtain⟨cv,hU,_⟩:=EZ.out;obtain⟨v,⟨_,r1,_,_,_,_,_,_,_⟩,Mr,_⟩:=hU.cells;obtain⟨AO,cO,rfl,hcO,hmO,hBO⟩:=Mr.read;obtain⟨_,q1,_,_⟩:=hU.boxes;have HU:=ae (And.intro hU.below (And.intro hBO (And.intro hcO hmO)));clear gY hU Mr hcO hmO hBO nV;go_wp2_with fail;go_quiet (fail);go_wp2_with fail;go_ret3;rw[←HR.out];exact⟨AO,cO,rfl,HU.out.2.2,HU.out.2.1,below_drewN HU.out.1 _⟩
    ·have aoj:((x.toNat:Int)==0)=false:=beq_eq_false_iff_ne.2 aa;have aok: ¬(x.toNat:Int)=0:=aa;have ug:=HT.out.2.1;have wI:=HT.out.2.2;unfold gU at ug;unfold bV at wI;rw[if_neg HX.out.1,HX.out.2.1,if_neg nV]at wI;have UQ:=ug.2 (am HX.out.1) (by rw[HX.out.2.1];exact nV);rw[HX.out.2.1]at UQ;have BK:Calls prog 183 #[PF R,.int .u8 (x.toNat:Nat),.func (.func 182) #[] #[PF bb,PF ab]] w1 (pF ⟨w.heap.size,w,bb,ab,R,A,B,c,dict⟩ (bJ B dict x.toNat (pos+1) s)):=GZ EZ.out x.toNat aa HX.out.2.2 ug.1 HD.out.1 HD.out.2;cases tR:bJ B dict x.toNat (pos+1) s with
     | bad n=>
      rw[tR]at wI BK;have hn:=G1 tR;have pX: ¬(n:Int)=0:=aa;have SB:((n:Int)==0)=false:=beq_eq_false_iff_ne.2 pX;have axd:((n:Int) !=0)=true:=(by rw[bne_iff_ne];exact pX);have HR:Hid (([],0,n)=vM):=ae wI;have EV:=ae BK;clear wI BK ug UQ tR hn nV;go_wp2_with fail;refine EV.out.mono ?_;rintro e w2 ⟨rfl,aD⟩;have dW:=ae aD;clear aD;go_wp2_with fail;go_ret3;rw[←HR.out];exact jq.bad dW.out
     | go p t=>
      rw[tR]at wI BK UQ;have hp:=KF tR;have EV:=ae BK;have qD:Hid (B.length<p+gk∧gU B dict gk p t∧bV B dict gk p t=vM):=ae ⟨am HT.out.1,UQ,wI⟩;clear wI BK ug UQ tR hp nV;go_wp2_with fail;refine EV.out.mono ?_;rintro e w2 ⟨rfl,l6⟩;have g_:=ae l6;clear l6;go_wp2_with fail;go_roundg gk;case measure=>omega
      case rel=>exact⟨p,t,g_,qD⟩
theorem pI(pre X rest:List UInt8)(h:i<X.length):(pre++(X++rest)).getD (pre.length+i) 0=X.getD i 0:=by simp only[List.getD_eq_getElem?_getD];rw[List.getElem?_append_right aa,show pre.length+i-pre.length=i by omega,List.getElem?_append_left h]
theorem Ms(pre X rest:List UInt8)(h:i+n≤X.length):((pre++(X++rest)).drop (pre.length+i)).take n=(X.drop i).take n:=by rw[←List.drop_drop,List.drop_append_of_le_length (Nat.le_refl _),List.drop_length,List.nil_append,List.drop_append_of_le_length aa,List.take_append_of_le_length jL]
theorem EC(pre X rest:List UInt8)(h:i+1<X.length):db (pre++(X++rest)) (pre.length+i)=db X i:=by unfold db;rw[pI pre X rest aa,show pre.length+i+1=pre.length+(i+1) by omega,pI pre X rest h]
theorem zU(h:n<65536)(x y:UInt8)(hx:x=UInt8.ofNat (n/256))(hy:y=UInt8.ofNat n):256*x.toNat+y.toNat=n:=by subst hx hy;simp only[UInt8.toNat_ofNat'];omega
structure tH(k:gG)(a:Nat)(z:eZ×Bool)(s:gH):Prop where
 out:s.out=k.D.take a
 start:s.start=0
 first:a=0→z=(none,false)
 later:a≠0→s.clear=true∧s.asked= !z.2
 props:z.2=true→s.lc=k.lc∧s.lp=k.lp∧s.pb=k.pb
 VZ: ∀c,z.1=some c→z.2=true∧GU c∧s.st=c.1∧s.r=c.2.1∧s.P=c.2.2
structure G2(k:gG):Prop where
 perm:k.lc≤4∧k.lp≤4∧k.pb≤4∧k.lc+k.lp≤4
 nice:k.nice≤273
 dict:1≤k.dict
 len:k.D.length≤100000
theorem YZ(D:List UInt8)(h:a≤b):D.take a++(D.drop a).take (b-a)=D.take b:=by rw[←List.take_add,show a+(b-a)=b by omega]
theorem Pd:GU rF:=⟨ak,⟨⟨ak,ak,ak,ak⟩,ak,ak,ak,ak⟩,fun _=>⟨show 1≤1024 by decide,show 1024≤2047 by decide⟩⟩
theorem KH{k:gG}{z:eZ×Bool}{s:gH}(sU:a<b)(hb:b≤k.D.length)(h16:b-a≤65536)(hr:tH k a z s)(pre rest:List UInt8):
  ∃c s',(pre++(dU k.D a b++rest)).getD pre.length 0=c∧c.toNat≠0∧bJ (pre++(dU k.D a b++rest)) dict c.toNat (pre.length+1) s= .go (pre.length+(dU k.D a b).length) s'∧tH k b (none,z.2) s':=by
 have⟨X,hX⟩:=ex (dU k.D a b);have hlen:X.length=b-a+3:=by rw[←hX];exact po sU hb
 have⟨c,hc⟩:=ex ((if a=0 then 1 else 2):UInt8);have BQ:X=c::UInt8.ofNat ((b-a-1)/256)::UInt8.ofNat (b-a-1)::(k.D.drop a).take (b-a):=by rw[←hX,←hc];rfl
 rw[hX];have hB:(pre++(X++rest)).length=pre.length+(X.length+rest.length):=ag;have g0:(pre++(X++rest)).getD pre.length 0=c:=by have:=pI pre X rest (i:=0) aa;rw[Nat.add_zero]at this;rw[this,BQ];rfl
 have g1:db (pre++(X++rest)) (pre.length+1)=b-a-1:=by rw[EC pre X rest aa,BQ];exact zU aa _ _ rfl rfl
 have g2:((pre++(X++rest)).drop (pre.length+3)).take (b-a)=(k.D.drop a).take (b-a):=by rw[Ms pre X rest aa,BQ];show((k.D.drop a).take (b-a)).take (b-a)=_;rw[List.take_take,Nat.min_self]
 generalize pre++(X++rest)=B at*;have bQ: ∀s1:gH,s1.clear=true→s1.out=k.D.take a→br B dict c.toNat (pre.length+1) s1= .go (pre.length+X.length) {s1 with out:=k.D.take b}:=by
  intro s1 h1 h2;have cU:c.toNat=1∨c.toNat=2:=by
   rw[←hc];by_cases h0:a=0;·rw[if_pos h0];exact .inl rfl
   ·rw[if_neg h0];exact .inr rfl
  unfold br;rw[if_neg (vZ h1 aa),if_pos aa];unfold fB;rw[if_neg aa,g1,if_neg aa,show pre.length+1+2=pre.length+3 by omega,show b-a-1+1=b-a by omega,g2,h2,YZ k.D aa];rw[show pre.length+3+(b-a)=pre.length+X.length by omega]
 by_cases h0:a=0
 ·have cC:c.toNat=1:=by rw[←hc,if_pos h0];rfl
  refine⟨c,{s with start:=s.out.length,clear:=true,asked:=true,out:=k.D.take b},g0,aa,?_,?_⟩;·unfold bJ kr;rw[if_pos (.inl cC)];exact bQ _ rfl hr.out
  ·have hz:=hr.first h0;refine⟨rfl,?_,fun h=>aa,fun _=>⟨rfl,?_⟩,fun h=> ?_,fun c h=>iR⟩;·show s.out.length=0;rw[hr.out,h0];rfl
   ·show true= !z.2;rw[hz];rfl
   ·rw[hz]at h;cases h
 ·have cC:c.toNat=2:=by rw[←hc,if_neg h0];rfl
  refine⟨c,{s with out:=k.D.take b},g0,aa,?_,?_⟩;·unfold bJ kr;rw[if_neg aa];exact bQ s (hr.later h0).1 hr.out
  ·exact⟨rfl,hr.start,fun h=>aa,fun _=>hr.later h0,hr.props,fun c h=>iR⟩
theorem G3{k:gG}{z:eZ×Bool}{s:gH}(hk:G2 k)(hd:(k.dict:Int)≤dict)(sU:a<b)(hb:b≤k.D.length)(h16:b-a≤65536)(ahP:(bx k a b (dr z.1)).1.length≤65536)(hr:tH k a z s)(pre rest:List UInt8):
  ∃c s',(pre++(cI k a b z.1 z.2 (bx k a b (dr z.1)).1++rest)).getD pre.length 0=c∧c.toNat≠0∧bJ (pre++(cI k a b z.1 z.2 (bx k a b (dr z.1)).1++rest)) dict c.toNat (pre.length+1) s= .go (pre.length+(cI k a b z.1 z.2 (bx k a b (dr z.1)).1).length) s'∧tH k b (some (bx k a b (dr z.1)).2,true) s':=by
 have aol:GU (dr z.1):=by
  cases hz:z.1 with
  | none=>exact Pd
  | some c=>exact(hr.VZ c hz).2.1
 obtain⟨h5,kw,act,y,Nw,hy2,su⟩:=O5 (k:=k) (dict:=dict) sU hb hk.len hk.dict hk.nice hd aol;obtain⟨⟨L,c2⟩,vp⟩: ∃r,bx k a b (dr z.1)=r:=⟨_,rfl⟩
 rw[vp]at h5 kw act Nw hy2 su ahP ⊢;simp only at h5 kw act Nw hy2 su ahP ⊢;have⟨c,hc⟩:=ex (ro a z.2 z.1);obtain⟨pp,hpp⟩: ∃p,(if 192≤c then [pm k]else [])=p:=⟨_,rfl⟩
 have⟨X,hX⟩:=ex (cI k a b z.1 z.2 L);have BQ:X=c::UInt8.ofNat ((b-a-1)/256)::UInt8.ofNat (b-a-1)::UInt8.ofNat ((L.length-1)/256)::UInt8.ofNat (L.length-1)::(pp++L):=by rw[←hX,←hpp,←hc];unfold cI;simp only[uz,List.cons_append,List.nil_append]
 have hlen:X.length=5+(pp.length+L.length):=by rw[BQ];simp;omega
 rw[hX];have hB:(pre++(X++rest)).length=pre.length+(X.length+rest.length):=ag;have g0:(pre++(X++rest)).getD pre.length 0=c:=by have:=pI pre X rest (i:=0) aa;rw[Nat.add_zero]at this;rw[this,BQ];rfl
 have g1:db (pre++(X++rest)) (pre.length+1)=b-a-1:=by rw[EC pre X rest aa,BQ];exact zU aa _ _ rfl rfl
 have g3:db (pre++(X++rest)) (pre.length+3)=L.length-1:=by rw[EC pre X rest aa,BQ];exact zU aa _ _ rfl rfl
 have g5:pp=[pm k]→(pre++(X++rest)).getD (pre.length+5) 0=pm k:=by intro h;rw[pI pre X rest (by rw[hlen];omega),BQ,h];rfl
 have g6:((pre++(X++rest)).drop (pre.length+(5+pp.length))).take L.length=L:=by
  rw[Ms pre X rest aa,BQ];have e:(c::UInt8.ofNat ((b-a-1)/256)::UInt8.ofNat (b-a-1)::UInt8.ofNat ((L.length-1)/256)::UInt8.ofNat (L.length-1)::(pp++L)).drop (5+pp.length)=L:=by rw[Nat.add_comm];show(pp++L).drop pp.length=L;rw[List.drop_append_of_le_length (Nat.le_refl _),List.drop_length,List.nil_append]
  rw[e,List.take_of_length_le (Nat.le_refl _)]
 generalize pre++(X++rest)=B at*
 have nD: ∀s2:gH,s2.out=k.D.take a→s2.start=0→s2.lc=k.lc→s2.lp=k.lp→s2.pb=k.pb→s2.st=(dr z.1).1→s2.r=(dr z.1).2.1→s2.P=(dr z.1).2.2→
   cQ B (L.length-1+1) (b-a-1+1) dict (pre.length+(5+pp.length)) s2= .go (pre.length+X.length) {s2 with out:=k.D.take b,st:=c2.1,r:=c2.2.1,P:=c2.2.2}:=by
  intro s2 e1 e2 e3 e4 e5 e6 e7 e8;unfold cQ;rw[show L.length-1+1=L.length by omega,show b-a-1+1=b-a by omega,if_neg aa,g6];unfold dR;have sP:(s2.out.drop s2.start).length=(k.D.take a).length:=by rw[e1,e2,List.drop_zero]
  have acu:cu 0 0 0 L s2.lc s2.lp s2.pb dict ((s2.out.drop s2.start).length+(b-a)) (b-a) (s2.out.drop s2.start) s2.st s2.r (s2.P,Rd.start L)=some (k.D.take b,c2.1,c2.2.1,y):=by rw[e3,e4,e5,e6,e7,e8,e1,e2,List.drop_zero];exact su
  rw[if_neg aa,if_neg (fun h=>h kw),acu];unfold nF;simp only;rw[if_pos hy2,Nw,sP,e1];have e9:k.D.take a++(k.D.take b).drop (k.D.take a).length=k.D.take b:=by
   rw[List.length_take,show min a k.D.length=a by omega];conv=>rhs;rw[←List.take_append_drop a (k.D.take b)]
   rw[List.take_take,show min a b=a by omega]
  rw[e9,show pre.length+(5+pp.length)+L.length=pre.length+X.length by omega]
 have hrel: ∀s2:gH,s2.start=0→s2.clear=true→s2.asked=false→s2.lc=k.lc→s2.lp=k.lp→s2.pb=k.pb→tH k b (some c2,true) {s2 with out:=k.D.take b,st:=c2.1,r:=c2.2.1,P:=c2.2.2}:=
  fun s2 e1 e2 e3 e4 e5 e6=>⟨rfl,e1,fun h=>aa,fun _=>⟨e2,e3⟩,fun _=>⟨e4,e5,e6⟩,fun c h=>by injection h with h;subst h;exact⟨rfl,act,rfl,rfl,rfl⟩⟩
 have gN:jT (k.lc:Nat) (k.lp:Nat) (k.pb:Nat)=true:=decide_eq_true (am hk.perm);have A_: ∀s1:gH,192≤c.toNat→pp=[pm k]→dV c.toNat B (pre.length+5) s1= .go (pre.length+(5+pp.length)) {s1 with lc:=k.lc,lp:=k.lp,pb:=k.pb,asked:=false}:=by
  intro s1 h1 h2;have qp:pp.length=1:=ow;unfold dV;rw[if_neg aa,if_neg aa,g5 h2];have hp:(pm k).toNat=k.lc+9*(k.lp+5*k.pb):=by unfold pm;have:=hk.perm;rw[UInt8.toNat_ofNat'];omega
  have:=hk.perm;rw[hp,show(k.lc+9*(k.lp+5*k.pb))%9=k.lc by omega,show(k.lc+9*(k.lp+5*k.pb))/9%5=k.lp by omega,show(k.lc+9*(k.lp+5*k.pb))/45=k.pb by omega,show pre.length+5+1=pre.length+(5+pp.length) by omega]
 have Eb: ∀s1:gH,160≤c.toNat→s1.lc=k.lc→s1.lp=k.lp→s1.pb=k.pb→eP c.toNat (pre.length+(5+pp.length)) s1= .go (pre.length+(5+pp.length)) (aW s1):=by intro s1 h1 e1 e2 e3;unfold eP;rw[if_neg aa,e1,e2,e3,if_neg (by rw[gN];decide)]
 have Mt: ∀(s1 s2:gH),c.toNat%32=0→(dV c.toNat B (pre.length+5) s1).then (eP c.toNat)= .go (pre.length+(5+pp.length)) s2→gT B dict c.toNat (pre.length+1) s1=cQ B (L.length-1+1) (b-a-1+1) dict (pre.length+(5+pp.length)) s2:=by intro s1 s2 IU h1;unfold gT;rw[if_neg aa,show pre.length+1+4=pre.length+5 by omega,h1,show pre.length+1+2=pre.length+3 by omega,g3,g1,IU,Nat.mul_zero,Nat.zero_add];rfl
 by_cases h0:a=0
 ·have hz:=hr.first h0;have AD:c=224:=by rw[←hc];unfold ro;rw[if_pos h0]
  have Me:c.toNat=224:=by rw[AD];rfl
  have KI:pp=[pm k]:=by rw[←hpp,AD,if_pos ak]
  have xG:dr z.1=rF:=by rw[hz];rfl
  have⟨s1,js⟩:=ex ({s with start:=s.out.length,clear:=true,asked:=true}:gH);have UR:s1.out=k.D.take a∧s1.start=0∧s1.clear=true:=by rw[←js];exact⟨hr.out,by show s.out.length=0;rw[hr.out,h0];rfl,rfl⟩
  refine⟨c,_,g0,aa,?_,hrel (aW {s1 with lc:=k.lc,lp:=k.lp,pb:=k.pb,asked:=false}) UR.2.1 UR.2.2 rfl rfl rfl rfl⟩;unfold bJ kr;rw[if_pos (.inr aa),js];unfold br;rw[if_neg (vZ UR.2.2 aa),if_neg aa,if_neg aa,Mt s1 (aW {s1 with lc:=k.lc,lp:=k.lp,pb:=k.pb,asked:=false}) aa (by rw[A_ s1 aa KI];exact Eb _ aa rfl rfl rfl)];exact nD _ UR.1 UR.2.1 rfl rfl rfl kd kd kd
 ·obtain⟨Pe,BG⟩:=hr.later h0;cases Qy:z.2 with
  | false=>
   have AD:c=192:=(by rw[←hc];unfold ro;rw[if_neg h0,if_pos Qy]);have Me:c.toNat=192:=(by rw[AD];rfl);have KI:pp=[pm k]:=(by rw[←hpp,AD,if_pos ak]);have xG:dr z.1=rF:=by
    cases eQ:z.1 with
    | none=>rfl
    | some q=>have:=(hr.VZ q eQ).1;rw[Qy]at this;cases this
   refine⟨c,_,g0,aa,?_,hrel (aW {s with lc:=k.lc,lp:=k.lp,pb:=k.pb,asked:=false}) hr.start Pe rfl rfl rfl rfl⟩;unfold bJ kr;rw[if_neg aa];unfold br;rw[if_neg (vZ Pe aa),if_neg aa,if_neg aa,Mt s (aW {s with lc:=k.lc,lp:=k.lp,pb:=k.pb,asked:=false}) aa (by rw[A_ s aa KI];exact Eb _ aa rfl rfl rfl)];exact nD _ hr.out hr.start rfl rfl rfl kd kd kd
  | true=>
   obtain⟨q1,q2,q3⟩:=hr.props Qy;have Mu:s.asked=false:=(by rw[BG,Qy];rfl);cases eQ:z.1 with
   | none=>
    have AD:c=160:=K5;have Me:c.toNat=160:=(by rw[AD];rfl);have KI:pp=[]:=(by rw[←hpp,AD,if_neg ak]);have xG:dr z.1=rF:=(by rw[eQ];rfl);refine⟨c,_,g0,aa,?_,hrel (aW s) hr.start Pe Mu q1 q2 q3⟩;unfold bJ kr;rw[if_neg aa];unfold br;have sf:dV c.toNat B (pre.length+5) s= .go (pre.length+(5+pp.length)) s:=(by unfold dV;rw[if_pos aa,KI];rfl);rw[if_neg (vZ Pe aa),if_neg aa,if_neg (by rw[Mu];intro h;exact Bool.noConfusion h.2),Mt s (aW s) aa (by rw[sf];exact Eb _ aa q1 q2 q3)];exact nD _ hr.out hr.start q1 q2 q3 kd kd kd
   | some q=>
    have AD:c=128:=K5;have Me:c.toNat=128:=(by rw[AD];rfl);have KI:pp=[]:=(by rw[←hpp,AD,if_neg ak]);have xG:dr z.1=q:=(by rw[eQ];rfl);obtain⟨_,_,w1,w2,w3⟩:=hr.VZ q eQ;refine⟨c,_,g0,aa,?_,hrel s hr.start Pe Mu q1 q2 q3⟩;unfold bJ kr;rw[if_neg aa];unfold br;have sf:dV c.toNat B (pre.length+5) s= .go (pre.length+(5+pp.length)) s:=(by unfold dV;rw[if_pos aa,KI];rfl);have hnw:eP c.toNat (pre.length+(5+pp.length)) s= .go (pre.length+(5+pp.length)) s:=(by unfold eP;rw[if_pos aa]);rw[if_neg (vZ Pe aa),if_neg aa,if_neg (by rw[Mu];intro h;exact Bool.noConfusion h.2),Mt s s aa (by rw[sf];exact hnw)];exact nD _ hr.out hr.start q1 q2 q3 (by rw[xG];exact w1) (by rw[xG];exact w2) (by rw[xG];exact w3)
theorem KJ{k:gG}{z:eZ×Bool}{s:gH}(hk:G2 k)(hd:(k.dict:Int)≤dict)(sU:a<b)(hb:b≤k.D.length)(h16:b-a≤65536)(hr:tH k a z s)(pre rest:List UInt8):
  ∃c s',(pre++((aJ k a b z.1 z.2).1++rest)).getD pre.length 0=c∧c.toNat≠0∧bJ (pre++((aJ k a b z.1 z.2).1++rest)) dict c.toNat (pre.length+1) s= .go (pre.length+(aJ k a b z.1 z.2).1.length) s'∧tH k b (aJ k a b z.1 z.2).2 s':=by
 have e:aJ k a b z.1 z.2=if b-a+3≤(cI k a b z.1 z.2 (bx k a b (dr z.1)).1).length∨65536<(bx k a b (dr z.1)).1.length then(dU k.D a b,none,z.2)else(cI k a b z.1 z.2 (bx k a b (dr z.1)).1,some (bx k a b (dr z.1)).2,true):=rfl;rw[e];split;·exact KH sU hb h16 hr pre rest
 ·rename_i h;exact G3 hk hd sU hb h16 aa hr pre rest
theorem Pf{k:gG}(sU:a<b)(hb:b≤k.D.length)(z:eZ×Bool):1≤(aJ k a b z.1 z.2).1.length:=by
 have e:aJ k a b z.1 z.2=if b-a+3≤(cI k a b z.1 z.2 (bx k a b (dr z.1)).1).length∨65536<(bx k a b (dr z.1)).1.length then(dU k.D a b,none,z.2)else(cI k a b z.1 z.2 (bx k a b (dr z.1)).1,some (bx k a b (dr z.1)).2,true):=rfl;rw[e];split;·show 1≤(dU k.D a b).length;rw[po sU hb];omega
 ·show 1≤(cI k a b z.1 z.2 (bx k a b (dr z.1)).1).length;unfold cI;simp only[List.length_append,List.length_cons];omega
theorem zV{k:gG}(hk:G2 k)(hd:(k.dict:Int)≤dict)(hc:1≤c)(aom:c≤65536): ∀(f a:Nat) (z:eZ×Bool) (s:gH) (pre rest:List UInt8) (fuel:Nat),k.D.length-a≤f→a≤k.D.length→tH k a z s→(aU k (bc k.D.length c a) z).1.length≤fuel→
  ∃s' tI,s'.out=k.D∧fuel≤tI+(aU k (bc k.D.length c a) z).1.length∧bV (pre++((aU k (bc k.D.length c a) z).1++rest)) dict fuel pre.length s=bV (pre++((aU k (bc k.D.length c a) z).1++rest)) dict tI (pre.length+(aU k (bc k.D.length c a) z).1.length) s'∧
   (gU (pre++((aU k (bc k.D.length c a) z).1++rest)) dict tI (pre.length+(aU k (bc k.D.length c a) z).1.length) s'→gU (pre++((aU k (bc k.D.length c a) z).1++rest)) dict fuel pre.length s)
 | 0,a,z,s,pre,rest,fuel,hf,ha,hr,B_=>by rw[cJ aa]at B_ ⊢;refine⟨s,fuel,?_,Nat.le_add_right _ _,rfl,fun h=>h⟩;rw[hr.out,List.take_of_length_le aa]
 | f+1,a,z,s,pre,rest,fuel,hf,ha,hr,B_=>by
  by_cases uX:a<k.D.length
  ·rw[iq hc uX]at B_ ⊢;have⟨b,hb⟩:=ex (min (a+c) k.D.length);have sU:a<b:=aa;have gZ:b≤k.D.length:=aa;have ue:(aU k ((a,b)::bc k.D.length c (a+c)) z).1=(aJ k a b z.1 z.2).1++(aU k (bc k.D.length c (a+c)) (aJ k a b z.1 z.2).2).1:=rfl;have oO:bc k.D.length c (a+c)=bc k.D.length c b:=by
    by_cases h:a+c<k.D.length;·rw[show b=a+c by omega]
    ·rw[cJ h,cJ aa]
   rw[hb,ue]at B_ ⊢;rw[oO]at B_ ⊢;have⟨X,hX⟩:=ex (aJ k a b z.1 z.2);obtain⟨c1,s1,g1,g2,g3,g4⟩:=KJ hk hd sU gZ aa hr pre ((aU k (bc k.D.length c b) X.2).1++rest);have AK:=Pf sU gZ z;rw[hX]at g1 g3 g4 AK B_ ⊢;rw[List.length_append]at B_;obtain⟨fu,rfl⟩: ∃fu,fuel=fu+1:=⟨fuel-1,aa⟩
   obtain⟨s',tI,h1,h2,h3,h4⟩:=zV hk hd hc aom f b X.2 s1 (pre++X.1) rest fu aa gZ g4 aa;have eB:pre++X.1++((aU k (bc k.D.length c b) X.2).1++rest)=pre++(X.1++(aU k (bc k.D.length c b) X.2).1++rest):=(by simp only[List.append_assoc]);have eB2:pre++(X.1++((aU k (bc k.D.length c b) X.2).1++rest))=pre++(X.1++(aU k (bc k.D.length c b) X.2).1++rest):=(by simp only[List.append_assoc]);rw[eB]at h3 h4;rw[eB2]at g1 g3;have⟨B,hB⟩:=ex (pre++(X.1++(aU k (bc k.D.length c b) X.2).1++rest));have hBl:pre.length<B.length:=(by rw[←hB];simp only[List.length_append];omega);rw[hB]at h3 h4 g1 g3 ⊢;rw[List.length_append]at h3 h4;rw[List.length_append];refine⟨s',tI,h1,aa,?_,fun h=> ?_⟩
   ·conv=>lhs;unfold bV
    rw[if_neg aa,g1,if_neg g2,g3];show bV B dict fu (pre.length+X.1.length) s1=_;rw[h3,Nat.add_assoc]
   ·unfold gU;refine⟨?_,fun _ _=> ?_⟩;·rw[hr.out,List.length_take];have:=hk.len;omega
    ·rw[g1,g3];exact h4 (by rw[Nat.add_assoc];exact h)
  ·rw[cJ uX]at B_ ⊢;refine⟨s,fuel,?_,Nat.le_add_right _ _,rfl,fun h=>h⟩;rw[hr.out,List.take_of_length_le aa]
theorem KK{k:gG}(hc:1≤k.chunk.toNat):(gu k).length≤4*k.D.length+1:=by have h1:=nt (k:=k) (n:=k.D.length) (c:=k.chunk.toNat) hc rfl k.D.length 0 (none,false) aa;have h2:=np (n:=k.D.length) (c:=k.chunk.toNat) hc k.D.length 0 aa;unfold gu;rw[List.length_append,List.length_singleton];omega
theorem bk0(k:gG):tH k 0 (none,false) Uz:=⟨rfl,rfl,fun _=>rfl,fun h=>absurd rfl h,fun h=>iR,fun c h=>iR⟩
theorem Pg{s:gH}(h:s.out.length≤400000000)(hp:B.length≤pos∨(B.getD pos 0).toNat=0)(f:Nat):gU B dict f pos s:=by
 cases f with
 | zero=>exact h
 | succ f=>
  unfold gU;refine⟨h,fun h1 h2=> ?_⟩;rcases hp with hp | hp;·omega
  ·exact absurd hp h2
theorem Ph{k:gG}(hk:G2 k)(BK:1≤k.chunk∧k.chunk≤65536)(hd:(k.dict:Int)≤dict)(behind:List UInt8)(hf:(gu k++behind).length<fuel):
  bV (gu k++behind) dict fuel 0 Uz=(k.D,(gu k).length,0)∧gU (gu k++behind) dict fuel 0 Uz:=by
 have⟨P,hP⟩:=ex ((aU k (bc k.D.length k.chunk.toNat 0) (none,false)).1);have EM:gu k=P++[0]:=by unfold gu;rw[hP]
 obtain⟨s',tI,h1,h2,h3,h4⟩:=zV (dict:=dict) (c:=k.chunk.toNat) hk hd aa aa k.D.length 0 (none,false) Uz [] (0::behind) fuel aa (Nat.zero_le _) (bk0 k) (by rw[hP];rw[EM]at hf;simp only[List.length_append]at hf;omega);rw[hP]at h2 h3 h4;have eB:([]:List UInt8)++(P++0::behind)=gu k++behind:=by rw[EM];simp
 rw[eB]at h3 h4;have hz:(gu k++behind).getD P.length 0=0:=by rw[EM];simp[List.getD_eq_getElem?_getD]
 have hl:(gu k).length=P.length+1:=by rw[EM];simp
 have hlen:(gu k++behind).length=P.length+1+behind.length:=by rw[List.length_append,hl]
 simp only[List.length_nil,Nat.zero_add]at h3 h4;constructor
 ·rw[h3];obtain⟨fu,rfl⟩: ∃fu,tI=fu+1:=⟨tI-1,aa⟩
  unfold bV;rw[if_neg aa,hz,if_pos (show UInt8.toNat 0=0 from rfl),h1,hl]
 ·exact h4 (Pg (by rw[h1];have:=hk.len;omega) (.inr (by rw[hz];rfl)) tI)
end Go.Proofs.YtfcaoggfnkhfiaaGreatDoor
