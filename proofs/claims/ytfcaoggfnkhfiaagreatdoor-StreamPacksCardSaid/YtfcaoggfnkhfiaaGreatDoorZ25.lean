import Derived.Test.YtfcaoggfnkhfiaaGreatDoorZ24
import Derived.Deep.CutBlock
import Derived.Deep.DeepCutAuto
namespace Go.Proofs.YtfcaoggfnkhfiaaGreatDoor
set_option maxRecDepth 100000
set_option maxHeartbeats 8000000
open Go.RowKit Go.Proofs.Tryz
theorem Qs(D:An)(h:D.length<=300):Sg pO D:=⟨abq,ar,h,amK⟩
theorem Qt(D:An)(m:Nat)(fc:m<=1)(hr:pO.recs D=abr m):abi pO D:=by
 have e4:iX (fg (abr m))=ZC m:=by match m,fc with|0,_|1,_=>rfl
 have e:pO.idx D=ZC m++gh (ZC m):=by show gr (pO.recs D)=_;rw[hr];unfold gr;rw[e4]
 intro E b off c W hB hc hm hl;have h8:(pO.idx D).length=8:=by rw[e,aG,bi];match m,fc with|0,_|1,_=>rfl
 rw[hr,h8];exact abs b off _ E c m W fc (by rw[e,eY]) hB hc hm hl
theorem Hh:(pO.st []).length=32:=m9
theorem Hj(w:Lo)(hT:jx w):Calls prog 6 #[] w (Holds w):=by
 have HP0:=ae (fun(W:Lo) (h:aq w W)=>(uS pO [] none 0 W (Qs [] ar) (acR W) (hT.below h) ar (.inl rfl) (λa e=>eK) ar ar:Calls prog 9 #[.slice none 0 0,pO.v] W (uO W (pO.st []))));have Cg:=ae (fun(W:Lo) (h:aq w W) (g:Nat) (hB:Bytes W (some ⟨g,0,none⟩) bQ) (hg:g<W.heap.size)=>(uS pO bQ (some ⟨g,0,none⟩) 5 W (Qs bQ ar) (acR W) (hT.below h) ar hB (λa e=>by injection e with e;subst e;exact hg) ar ar:Calls prog 9 #[.slice (some ⟨g,0,none⟩) 5 5,pO.v] W (uO W (pO.st bQ))));have HR0:=ae (fun(W:Lo) (h:aq w W) (g c:Nat) (hB:Bytes W (some ⟨g,0,none⟩) (pO.st [])) (hc:32<=c) (hm:c<=9223372036854775807)=>(by
  have h1:=Dh pO [] (Qs [] ar) 0 (λP hP=>by cases hP) (Qt [] 0 ar rfl) (some ⟨g,0,none⟩) c W (hT.below h) hB (by rw[Hh];exact hc) hm;rw[Hh]at h1;exact h1:Calls prog 17 #[.slice (some ⟨g,0,none⟩) 32 c,.int .u64 0] W (YW W [])))
 have⟨n,hn⟩:=ex ((pO.st bQ).length);have HR1:=ae (fun(W:Lo) (h:aq w W) (g c:Nat) (hB:Bytes W (some ⟨g,0,none⟩) (pO.st bQ)) (hc:n<=c) (hm:c<=9223372036854775807)=>(by
  have h1:=Dh pO bQ (Qs bQ ar) 4096 (λP hP=>by rw[show P=bQ by simpa [show eG pO.block.toNat bQ=[bQ]from rfl]using hP];exact λE b off c W hT hB _ hc hm hl=>atS E b off c 4096 W ar hT hB hc hm hl) (Qt bQ 1 ar (by show [nG (pO.rc bQ)]=_;unfold Op.rc;rw[Fu];rfl)) (some ⟨g,0,none⟩) c W (hT.below h) hB (by rw[hn];exact hc) hm;rw[hn]at h1;exact h1:Calls prog 17 #[.slice (some ⟨g,0,none⟩) n c,.int .u64 4096] W (YW W bQ)))
 have HN:=ae hn;obtain⟨S0,hS0⟩: ∃S,pO.st []=S:=⟨_,rfl⟩
 obtain⟨S1,V'⟩: ∃S,pO.st bQ=S:=⟨_,rfl⟩
 have L6:=Hh;rw[hS0]at HP0 HR0 L6;rw[V']at Cg HR1 HN;have H32:=ae L6;clear hT hn hS0 V' L6;go_enter func6,ntmps6;go_wp2_with fail;refine(wZ w).mono ?_;rintro e w1 ⟨rfl,aI⟩;have bF:=ae aI;clear aI;go_wp2_with fail;refine(HP0 w1 bF.out).mono ?_;rintro e w2 ⟨g2,c2,rfl,ei,gB,fq,aK⟩;have dG:=ae (aQ bF.out aK);rw[H32.out]at ei ⊢;have qy:=ae (HR0 w2 dG.out g2 c2 fq ei.1 ei.2);clear ei gB fq aK;go_wp2_with fail;refine qy.mono ?_;rintro e w3 ⟨A3,c3,rfl,ju,iP,bm⟩;have ft:=ae (aQ dG.out bm);clear ju iP bm;have⟨w4,yw⟩:=ex (w3.alloc (.cells #[.int .u8 103,.int .u8 114,.int .u8 97,.int .u8 112,.int .u8 101] 5 (5,6)));have QP:w4.heap[w3.heap.size]? =some (.cells #[.int .u8 103,.int .u8 114,.int .u8 97,.int .u8 112,.int .u8 101] 5 (5,6)):=by rw[<-yw];exact bz w3 _
 have bc:aq w3 w4:=by rw[<-yw];exact az
 have fJ:=ae (aQ ft.out bc);have TY:Bytes w4 (some ⟨w3.heap.size,0,none⟩) bQ:=by
  refine .inr ⟨w3.heap.size,0,rfl,(bU QP),λk hk=> ?_⟩;rw[aC _ _ _ _ _ _ QP];match k,hk with
  | 0,_|1,_|2,_|3,_|4,_=>rfl
 have C':=ae (ap TY (bU QP));have Mj:=ae yw;have kc:=Lib.run_convert_bytes_const (P:=prog) w3 22 5 #[.int .u8 103,.int .u8 114,.int .u8 97,.int .u8 112,.int .u8 101] 5 5 underlying22 underlying5;have esz:(#[Value.int .u8 103,.int .u8 114,.int .u8 97,.int .u8 112,.int .u8 101]:Array Value).size=5:=rfl;rw[esz]at kc;clear esz;clear yw QP bc TY;go_wp2_with fail;rw[Mj.out];refine(wZ w4).mono ?_;rintro e w5 ⟨rfl,eS⟩;have pX:=ae (aQ fJ.out eS);have HP5:=ae (Cg w5 pX.out w3.heap.size (C'.1.below eS) (db C'.2 eS.size));clear eS;go_wp2_with fail;refine HP5.mono ?_;rintro e w6 ⟨g6,c6,rfl,Zx,ot,zG,oq⟩;have ul:=ae (aQ pX.out oq);rw[HN.out]at Zx ⊢;have HR6:=ae (HR1 w6 ul.out g6 c6 zG Zx.1 Zx.2);clear Zx ot zG oq;go_wp2_with fail;refine HR6.mono ?_;rintro e w7 ⟨A7,c7,rfl,hc7,D5,Fd⟩;have Dj:=ae (aQ ul.out Fd);have hs7:=lW D5 c7;have Dk:(⟨(bQ:An).toArray⟩:ByteArray)=⟨#[103,114,97,112,101]⟩:=rfl;have tB:bQ.length=5:=rfl;simp only[Dk,tB]at hs7 ⊢;clear hc7 D5 Fd Dk tB kc;go_wp2;go_ret;exact⟨rfl,Dj.out⟩
theorem Hk(A:As)(D:An)(c:Nat)(o:Op)(A1:As)(Ls:List (An))(c1:Nat)(A2:As)(rs:List (Int×Int))(c2:Nat)(w:Lo)(hB:Bytes w A D/\ ∀a,A=some a->a.block<w.heap.size)(hc:D.length<=c)(hm:c<=9223372036854775807)
  (hF:je w o.A o.l) (Fb: ∀f∈o.l,f.ok) (lj:o.l.length<=o.c) (oT:o.c<=9223372036854775807) (Jt:o.dict<4294967296) (eX:o.block<=9223372036854775807)
  (hL:nE w A1 Ls) (dE:Ls.length<=c1) (fc:c1<=9223372036854775807) (hR:nY w A2 rs/\ ∀r∈rs,CX r) (ei:rs.length<=c2) (fm:c2<=9223372036854775807) (hT:jx w):
  Calls prog 3 #[.slice A D.length c,o.v,.slice A1 Ls.length c1,.slice A2 rs.length c2] w (Holds w):=
 K7 A D c o A1 Ls c1 A2 rs c2 w hB hc hm hF Fb lj oT Jt eX hL dE fc hR ei fm hT λW h=>Hj W (hT.below h)
end Go.Proofs.YtfcaoggfnkhfiaaGreatDoor
