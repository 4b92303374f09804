import Derived.Test.YtfcaoggfnkhfiaaGreatDoorZ18
import Derived.RangeFuncNested
import Derived.RangeFuncBound
import Derived.RangeFuncCalls
import Derived.RangeFuncLeaves
import Derived.RangeFuncKeeps
import Derived.Test.YtfcaoggfnkhfiaaGreatDoorRows
import Derived.Shelf.Abstract
import Derived.Shelf.RegionOpen
import Derived.OwnWalkIn
import Derived.TacticsInMore
import Derived.LoopNIn
import Derived.LoopIn
import Derived.RangeFuncBox
import Derived.Maps.AppendAt
namespace Go.Proofs.YtfcaoggfnkhfiaaGreatDoor
set_option maxRecDepth 100000
set_option maxHeartbeats 8000000
open Go.RowKit Go.Proofs.Tryz
variable{f n:Nat}{A:Option Addr}{w w':World}
namespace Delta
abbrev at_(l:List UInt8)(i:Nat):UInt8:=l.getD i 0
def back(l:List UInt8)(d k:Nat):UInt8:=if d≤k then at_ l (k-d)else 0
def qU(l:List UInt8)(d k:Nat):List UInt8:=(List.range k).map fun i=>at_ l i-back l d i
def eH(l:List UInt8)(d:Nat):Nat→List UInt8
 | 0=>[]
 | k+1=>eH l d k++[at_ l k+back (eH l d k) d k]
def enc(l:List UInt8)(d:Nat):List UInt8:=qU l d l.length
def dec(l:List UInt8)(d:Nat):List UInt8:=eH l d l.length
theorem zh(l:List UInt8)(d k:Nat):eH l d (k+1)=eH l d k++[at_ l k+back (eH l d k) d k]:=rfl
theorem ko(l:List UInt8)(d k:Nat):(qU l d k).length=k:=by simp[qU]
theorem ff(l:List UInt8)(d k:Nat):(eH l d k).length=k:=by
 induction k with
 | zero=>rfl
 | succ k ih=>simp[eH,ih]
theorem ny(l:List UInt8)(d:Nat):(enc l d).length=l.length:=ko _ _ _
theorem rL(l:List UInt8)(d:Nat):(dec l d).length=l.length:=ff _ _ _
theorem J0(l:List UInt8)(d k:Nat):qU l d (k+1)=qU l d k++[at_ l k-back l d k]:=by simp[qU,List.range_succ]
theorem py(a b:List UInt8)(i:Nat)(h:i<a.length):at_ (a++b) i=at_ a i:=by simp[at_,List.getD,List.getElem?_append_left h]
theorem pz(a:List UInt8)(x:UInt8):at_ (a++[x]) a.length=x:=by simp[at_,List.getD]
theorem Gu(l:List UInt8)(d i k:Nat)(h:i<k): ∀n,k≤n→at_ (eH l d n) i=at_ (eH l d k) i:=by
 intro n hn;induction n with
 | zero=>omega
 | succ n ih=>
  rcases Nat.lt_or_ge n k with h2 | h2;·obtain rfl:k=n+1:=(by omega);rfl
  ·rw[←ih h2,eH,py _ _ _ (by rw[ff];omega)]
theorem abF(l:List UInt8)(d i:Nat)(iz:1≤d)(h:i<l.length):at_ (dec l d) i=at_ l i+back (dec l d) d i:=by
 have h1:at_ (dec l d) i=at_ (eH l d (i+1)) i:=Gu l d i (i+1) aa l.length aa;have h2:at_ (eH l d (i+1)) i=at_ l i+back (eH l d i) d i:=by have:=pz (eH l d i) (at_ l i+back (eH l d i) d i);rw[ff]at this;rw[eH];exact this
 have h3:back (eH l d i) d i=back (dec l d) d i:=by
  unfold back;by_cases hd:d≤i;·rw[if_pos hd,if_pos hd];exact(Gu l d (i-d) i aa l.length aa).symm
  ·rw[if_neg hd,if_neg hd]
 rw[h1,h2,h3]
theorem abG(l:List UInt8)(d i:Nat)(h:i<l.length):at_ (enc l d) i=at_ l i-back l d i:=by simp[at_,enc,qU,List.getD,h]
theorem abH(a b:List UInt8)(hl:a.length=b.length)(h: ∀i,i<a.length→at_ a i=at_ b i):a=b:=by apply List.ext_getElem hl;intro i h1 h2;have:=h i h1;simpa [at_,List.getD,h1,h2]using this
theorem Yq(l:List UInt8)(d:Nat)(hd:1≤d):dec (enc l d) d=l:=by
 have hl:(dec (enc l d) d).length=l.length:=by rw[rL,ny]
 have key: ∀i,i<l.length→at_ (dec (enc l d) d) i=at_ l i:=by
  intro i;induction i using Nat.strongRecOn with
  | _ i ih=>
   intro hi;have hb:back (dec (enc l d) d) d i=back l d i:=by
    unfold back;by_cases h:d≤i;·rw[if_pos h,if_pos h,ih (i-d) aa aa]
    ·rw[if_neg h,if_neg h]
   rw[abF _ _ _ hd (by rw[ny];exact hi),abG _ _ _ hi,hb,UInt8.sub_add_cancel]
 exact abH _ _ hl (fun i hi=>key i (by rw[←hl];exact hi))
def Yr(o:List UInt8)(f:Nat→UInt8):Prop:= ∀d,1≤d→d≤256→f ((o.length+256-d)%256)=back o d o.length
theorem Yr.nil:Yr [] (fun _=>0):=by intro d h1 _;unfold back;rw[if_neg av]
theorem Yr.snoc{o:List UInt8}{f:Nat→UInt8}(h:Yr o f)(x:UInt8):Yr (o++[x]) (fun j=>if j=o.length%256 then x else f j):=by
 intro d h1 h2;rw[List.length_append,List.length_singleton];show(if(o.length+1+256-d)%256=o.length%256 then x else f ((o.length+1+256-d)%256))=_;by_cases e:d=1;·subst e;rw[if_pos aa];unfold back;rw[if_pos aa,Nat.add_sub_cancel,pz]
 ·rw[if_neg aa];have:=h (d-1) aa aa;rw[show o.length+256-(d-1)=o.length+1+256-d by omega]at this;rw[this];unfold back;by_cases hd:d≤o.length+1;·rw[if_pos hd,if_pos aa,py _ _ _ aa,show o.length+1-d=o.length-(d-1) by omega]
  ·rw[if_neg hd,if_neg aa]
theorem Oh(l:List UInt8)(d k:Nat)(hd:1≤d):back (l.take k) d k=back l d k:=by
 unfold back;by_cases h:d≤k;·rw[if_pos h,if_pos h];simp[at_,List.getD,show k-d<k by omega]
 ·rw[if_neg h,if_neg h]
end Delta
section
namespace De
open Go.RowKit Go.Proofs.YtfcaoggfnkhfiaaGreatDoor
def kV(w:World)(l:List UInt8)(err:Int)(e:Ending)(w':World):Prop:= ∃v,e= .returned (.tuple #[v,.int .i64 err])∧Own w.heap.size w' v l∧Below w.heap.size w w'
theorem abI(a b:UInt8):IntKind.u8.wrap ((a.toNat:Int)-(b.toNat:Int))=((a-b).toNat:Int):=by have h1:=a.toNat_lt;have h2:=b.toNat_lt;rw[IntKind.wrap_u8',UInt8.toNat_sub];omega
theorem abJ(a b:UInt8):IntKind.u8.wrap ((a.toNat:Int)+(b.toNat:Int))=((a+b).toNat:Int):=by rw[IntKind.wrap_u8',UInt8.toNat_add];omega
theorem anj(v b:UInt8)(w:World):Calls prog 146 #[.int .u8 v.toNat,.int .u8 b.toNat] w fun e w'=>e= .returned (.tuple #[.int .u8 (v-b).toNat,.int .u8 v.toNat])∧w=w':=by have h:=abI v b;rw[IntKind.wrap_u8']at h;go_enter func146,ntmps146;go_wp2_with fail;go_ret2;exact⟨congrArg (fun n:Int=>Ending.returned (.tuple #[.int .u8 n,.int .u8 v.toNat])) h,rfl⟩
theorem ank(v b:UInt8)(w:World):Calls prog 250 #[.int .u8 v.toNat,.int .u8 b.toNat] w fun e w'=>e= .returned (.tuple #[.int .u8 (v+b).toNat,.int .u8 (v+b).toNat])∧w=w':=by have h:=abJ v b;rw[IntKind.wrap_u8']at h;go_enter func250,ntmps250;go_wp2_with fail;go_ret2;exact⟨congrArg (fun n:Int=>Ending.returned (.tuple #[.int .u8 n,.int .u8 n])) h,rfl⟩
def qV:Array Value:=Array.replicate 256 (.int .u8 0)
theorem k_:(prog.info? 249).map (fun i=>(i.zero,i.size))=some (some (.agg qV),256):=ai
theorem Gv(w:World):(w.alloc (.cells qV 249)).rowIs w.heap.size 249 256 (fun _=>B8 0):=by
 have h:=World.rowIs_alloc w qV 249 (fun _=>B8 0) (fun i hi=>by
  unfold qV at hi ⊢;rw[Array.getElem?_replicate,if_pos iZ];rfl)
 have e:qV.size=256:=by simp[qV]
 rwa [e]at h
theorem zi(n:Nat):(madeCells (Value.int .u8 0).cells (n*1)).toList=(List.replicate n (0:UInt8)).map B8:=by rw[Nat.mul_one,show(Value.int .u8 0).cells= #[Value.int .u8 0]from rfl,toList_madeCells_one,List.map_replicate];rfl
theorem zj(k:Nat)(d:Int)(h1:1≤d)(h2:d≤256)(hk:k≤9223372036854775807):IntKind.u8.wrap ((k:Int)-d)=(((k+256-d.toNat)%256:Nat):Int):=by rw[IntKind.wrap_u8'];omega
theorem Tm(l:List UInt8)(k:Nat)(h:k<l.length):Delta.at_ l k=l[k]:=by simp[Delta.at_,List.getD,h]
theorem zk(a:List UInt8)(n k:Nat)(x:UInt8)(ha:a.length=k)(hk:k<n):((a++List.replicate (n-k) 0).map B8).set k (B8 x)=((a++[x])++List.replicate (n-(k+1)) 0).map B8:=by
 rw[←List.map_set];congr 1;obtain⟨m,hm⟩: ∃m,n-k=m+1:=⟨n-k-1,aa⟩
 rw[hm,show n-(k+1)=m by omega,List.replicate_succ,List.set_append_right _ _ aa,ha,Nat.sub_self,List.set_cons_zero,List.append_assoc];rfl
theorem qg{w:World}{base gj e n:Nat}{v:Value}{xs:List Value}(h:w.ownsRow base e 1 v n xs)(hb:gj≤base):w.ownsRow gj e 1 v n xs:=by
 rcases h with⟨h1,h2 | ⟨g,cap,cur,h2,h3,h4⟩⟩
 ·exact⟨h1,.inl h2⟩
 ·exact⟨h1,.inr ⟨g,cap,cur,h2,aa,h4⟩⟩
theorem Tn(A:Option Addr)(l:List UInt8)(c:Nat)(d:Int)(w:World)(hB:Bytes w A l)(hm:l.length≤140737488355328)(iz:1≤d)(jz:d≤256):
  Calls prog 145 #[.slice A l.length c,.int .i64 d,.func (.func 146) #[] #[]] w (kV w (Delta.enc l d.toNat) 0):=by
 have hz:=(zero_of_info k_).1;obtain⟨i,hi,kw,eQ,oC⟩:=info_parts oK;have g1:decide (d<1)=false:=av;have g2:decide (256<d)=false:=av;have Nb:i.bytes*l.length≤281474976710656:=mW;have un:l.length≤maxLen:=fF;have DH:=Gv w;have oo:Below w.heap.size w (w.alloc (.cells qV 249)):=ar;go_enter func145,ntmps145;go_wp2_with (refine wpList_make_full _ rfl _ _ 22 rfl (w.heap.size+1) 5 i (.int .u8 0) 1 underlying22 hi kw eQ _ _ _ _ l.length rfl rfl rfl rfl Nb un ag ?_;intro w1 d7 kz)
 rw[zi]at d7;have mf:w1.rowIs w.heap.size 249 256 (fun _=>B8 0):=DH.of_block (kz.block _ ag ag);have az:Below w.heap.size w w1:=ao oo kz oo.size ag;have dl:(w.alloc (.cells qV 249)).heap.size=w.heap.size+1:=ag;rw[dl]at d7;clear hz DH oo kz hi kw eQ oC Nb dl;generalize hg:w.heap.size+1=g at*;have tT:w.heap.size<g:=aa;have HG:=ae hg;clear hg;generalize Tp:d.toNat=dn at*;have HD:=ae Tp;have Ys:1≤dn:=aa;have abK:dn≤256:=aa;clear Tp g1 g2;go_loopw [23] (fun i wr=> ∃(k:Nat) (f:Nat→UInt8),k≤l.length∧i= .int .i64 k∧wr.rowIs w.heap.size 249 256 (fun j=>B8 (f j))∧Delta.Yr (l.take k) f∧wr.ownsRow g 5 1 (.slice (some ⟨g,0,none⟩) l.length l.length) l.length ((Delta.qU l dn k++List.replicate (l.length-k) 0).map B8)∧Below w.heap.size w wr) (fun i _=>l.length-(intOf i).toNat);case atStart=>exact⟨0,fun _=>0,aa,rfl,mf,Delta.Yr.nil,by simpa [Delta.qU]using d7,az⟩
 case round=>
  clear mf d7 az;obtain⟨k,f,hk,rfl,hr,hw,aK,hb⟩:=hrel;by_cases aH:k<l.length
  ·obtain⟨b,off,rfl,gZ,hcell⟩:=(hB.below hb).addr aa;have tR:=hcell k aH;have hlen:(l.take k).length=k:=mV;have Oi:=hw dn Ys abK;rw[hlen]at Oi;have XG:=zj k d iz jz aa;rw[HD.out]at XG;have agz:=hr.cell (i:=(k+256-dn)%256) aa;have abL:=hr.cell (i:=k%256) aa;have hrf:=hr.frozen (k%256);have bQ:=ae (aK.stored k);have f_:=aK.cellAt k aa;have hof:=aK.frozenAt k;rw[List.getElem?_map,List.getElem?_append_right (by rw[Delta.ko];exact Nat.le_refl _),Delta.ko,Nat.sub_self,List.getElem?_replicate,if_pos aa]at f_;simp only[Option.map]at f_;have Js:IntKind.u8.wrap (k:Int)=((k%256:Nat):Int):=Db;have qx:=ae (zk (Delta.qU l dn k) l.length k (Delta.at_ l k-Delta.back l dn k) (Delta.ko _ _ _) aH);have oO:=ae (Delta.J0 l dn k);have ci:=ae (List.take_succ_eq_append_getElem aH);have hwn:=ae (hw.snoc (Delta.at_ l k));have az:(((k+256-dn)%256:Nat):Int)<256:=aa;have aD:((k%256:Nat):Int)<256:=aa;generalize jS:f ((k+256-dn)%256)=bb at*;generalize i9:(k+256-dn)%256=m1 at*;generalize fJ:k%256=m2 at*;have qq:=ae i9;have Av:=ae fJ;have DK:=ae jS;have HWD:=ae Oi;have HW:=ae hw;have dm:=Tm l k aH;generalize hv:l[k]=v at*;have HV:=ae hv;have L9:=ae dm;clear i9 fJ jS Oi hw hv dm hcell;go_wp2_with fail;refine(anj v bb _).mono ?_;rintro e w' ⟨rfl,rfl⟩;generalize hsv:v-bb=sv at*;have HSV:=ae hsv;clear hsv;go_wp2_with fail;go_roundw;case rel=>
    have lV:bb=Delta.back (l.take k) dn k:=HWD.out;have hx:sv=Delta.at_ l k-Delta.back l dn k:=(by rw[←HSV.out,lV,L9.out];rw[Delta.Oh _ _ _ Ys]);obtain⟨js,Dk⟩:=bQ.out (B8 sv);have h3:=qx.out;have h4:=oO.out;rw[←hx]at h3 h4;rw[h3,←h4]at js;refine⟨k+1,fun j=>if j=m2 then v else f j,aa,aE,?_,?_,?_,?_⟩;·refine((hr.setOther av _).set m2 _).congr fun j _=> ?_;by_cases e:j=m2<;>simp[e]
    ·have h2:=hwn.out;rw[hlen,Av.out]at h2;rw[L9.out]at h2;rw[ci.out];exact h2
    ·exact(World.ownsRow.kept (row:=some w.heap.size) js ⟨rfl,rfl,rfl,ag,fun j _ hj=>heap_setCell_other _ _ j _ (fun e=>hj (by simp[e]))⟩ (.inr (by simp[Value.ownBlock];omega)))
    ·exact(hb.setCell av _).setCell ag _
   case measure=>simp[intOf];omega
  ·obtain rfl:k=l.length:=(by omega);go_wp2_with fail;go_ret2;refine⟨_,rfl,?_,hb⟩;rw[Nat.sub_self,List.replicate_zero,List.append_nil]at aK;have hl:(Delta.enc l dn).length=l.length:=Delta.ny _ _;unfold Own;rw[hl];exact qg aK aa
theorem Tq(A:Option Addr)(l:List UInt8)(c:Nat)(d:Int)(w:World)(hB:Bytes w A l)(hm:l.length≤140737488355328)(iz:1≤d)(jz:d≤256):
  Calls prog 145 #[.slice A l.length c,.int .i64 d,.func (.func 250) #[] #[]] w (kV w (Delta.dec l d.toNat) 0):=by
 have hz:=(zero_of_info k_).1;obtain⟨i,hi,kw,eQ,oC⟩:=info_parts oK;have g1:decide (d<1)=false:=av;have g2:decide (256<d)=false:=av;have Nb:i.bytes*l.length≤281474976710656:=mW;have un:l.length≤maxLen:=fF;have DH:=Gv w;have oo:Below w.heap.size w (w.alloc (.cells qV 249)):=ar;go_enter func145,ntmps145;go_wp2_with (refine wpList_make_full _ rfl _ _ 22 rfl (w.heap.size+1) 5 i (.int .u8 0) 1 underlying22 hi kw eQ _ _ _ _ l.length rfl rfl rfl rfl Nb un ag ?_;intro w1 d7 kz)
 rw[zi]at d7;have mf:w1.rowIs w.heap.size 249 256 (fun _=>B8 0):=DH.of_block (kz.block _ ag ag);have az:Below w.heap.size w w1:=ao oo kz oo.size ag;have dl:(w.alloc (.cells qV 249)).heap.size=w.heap.size+1:=ag;rw[dl]at d7;clear hz DH oo kz hi kw eQ oC Nb dl;generalize hg:w.heap.size+1=g at*;have tT:w.heap.size<g:=aa;have HG:=ae hg;clear hg;generalize Tp:d.toNat=dn at*;have HD:=ae Tp;have Ys:1≤dn:=aa;have abK:dn≤256:=aa;clear Tp g1 g2;go_loopw [23] (fun i wr=> ∃(k:Nat) (f:Nat→UInt8),k≤l.length∧i= .int .i64 k∧wr.rowIs w.heap.size 249 256 (fun j=>B8 (f j))∧Delta.Yr (Delta.eH l dn k) f∧wr.ownsRow g 5 1 (.slice (some ⟨g,0,none⟩) l.length l.length) l.length ((Delta.eH l dn k++List.replicate (l.length-k) 0).map B8)∧Below w.heap.size w wr) (fun i _=>l.length-(intOf i).toNat);case atStart=>exact⟨0,fun _=>0,aa,rfl,mf,Delta.Yr.nil,by simpa [Delta.eH]using d7,az⟩
 case round=>
  clear mf d7 az;obtain⟨k,f,hk,rfl,hr,hw,aK,hb⟩:=hrel;by_cases aH:k<l.length
  ·obtain⟨b,off,rfl,gZ,hcell⟩:=(hB.below hb).addr aa;have tR:=hcell k aH;have hlen:(Delta.eH l dn k).length=k:=(by exact Delta.ff _ _ _);have Oi:=hw dn Ys abK;rw[hlen]at Oi;have XG:=zj k d iz jz aa;rw[HD.out]at XG;have agz:=hr.cell (i:=(k+256-dn)%256) aa;have abL:=hr.cell (i:=k%256) aa;have hrf:=hr.frozen (k%256);have bQ:=ae (aK.stored k);have f_:=aK.cellAt k aa;have hof:=aK.frozenAt k;rw[List.getElem?_map,List.getElem?_append_right (by rw[Delta.ff];exact Nat.le_refl _),Delta.ff,Nat.sub_self,List.getElem?_replicate,if_pos aa]at f_;simp only[Option.map]at f_;have Js:IntKind.u8.wrap (k:Int)=((k%256:Nat):Int):=Db;have qx:=ae (zk (Delta.eH l dn k) l.length k (Delta.at_ l k+Delta.back (Delta.eH l dn k) dn k) (Delta.ff _ _ _) aH);have oO:=ae (Delta.zh l dn k);have ci:=ae (Delta.zh l dn k);have hwn:=ae (hw.snoc (Delta.at_ l k+Delta.back (Delta.eH l dn k) dn k));have az:(((k+256-dn)%256:Nat):Int)<256:=aa;have aD:((k%256:Nat):Int)<256:=aa;generalize jS:f ((k+256-dn)%256)=bb at*;generalize i9:(k+256-dn)%256=m1 at*;generalize fJ:k%256=m2 at*;have qq:=ae i9;have Av:=ae fJ;have DK:=ae jS;have HWD:=ae Oi;have HW:=ae hw;have dm:=Tm l k aH;generalize hv:l[k]=v at*;have HV:=ae hv;have L9:=ae dm;clear i9 fJ jS Oi hw hv dm hcell;go_wp2_with fail;refine(ank v bb _).mono ?_;rintro e w' ⟨rfl,rfl⟩;generalize hsv:v+bb=sv at*;have HSV:=ae hsv;clear hsv;go_wp2_with fail;go_roundw;case rel=>
    have lV:bb=Delta.back (Delta.eH l dn k) dn k:=HWD.out;have hx:sv=Delta.at_ l k+Delta.back (Delta.eH l dn k) dn k:=(by rw[←HSV.out,lV,L9.out]);obtain⟨js,Dk⟩:=bQ.out (B8 sv);have h3:=qx.out;have h4:=oO.out;rw[←hx]at h3 h4;rw[h3,←h4]at js;refine⟨k+1,fun j=>if j=m2 then sv else f j,aa,aE,?_,?_,?_,?_⟩;·refine((hr.setOther av _).set m2 _).congr fun j _=> ?_;by_cases e:j=m2<;>simp[e]
    ·have h2:=hwn.out;rw[hlen,Av.out]at h2;rw[←hx]at h2;rw[h4];exact h2
    ·exact(World.ownsRow.kept (row:=some w.heap.size) js ⟨rfl,rfl,rfl,ag,fun j _ hj=>heap_setCell_other _ _ j _ (fun e=>hj (by simp[e]))⟩ (.inr (by simp[Value.ownBlock];omega)))
    ·exact(hb.setCell av _).setCell ag _
   case measure=>simp[intOf];omega
  ·obtain rfl:k=l.length:=(by omega);go_wp2_with fail;go_ret2;refine⟨_,rfl,?_,hb⟩;rw[Nat.sub_self,List.replicate_zero,List.append_nil]at aK;have hl:(Delta.dec l dn).length=l.length:=Delta.rL _ _;unfold Own;rw[hl];exact qg aK aa
theorem rK(A:Option Addr)(l:List UInt8)(c:Nat)(d:Int)(w:World)(hB:Bytes w A l)(hm:l.length≤140737488355328)(iz:1≤d)(jz:d≤256):
  Calls prog 100 #[.slice A l.length c,.int .i64 d] w (kV w (Delta.enc l d.toNat) 0):=by
 go_enter func100,ntmps100;go_wp2_with fail;refine(Tn A l c d _ hB hm iz jz).mono ?_;rintro e w' ⟨v,rfl,ho,hb⟩;go_wp2_with fail;go_ret2;exact⟨v,rfl,ho,hb⟩
theorem J1(A:Option Addr)(l:List UInt8)(c:Nat)(d:Int)(w:World)(hB:Bytes w A l)(hm:l.length≤140737488355328)(iz:1≤d)(jz:d≤256):
  Calls prog 218 #[.slice A l.length c,.int .i64 d] w (kV w (Delta.dec l d.toNat) 0):=by
 go_enter func218,ntmps218;go_wp2_with fail;refine(Tq A l c d _ hB hm iz jz).mono ?_;rintro e w' ⟨v,rfl,ho,hb⟩;go_wp2_with fail;go_ret2;exact⟨v,rfl,ho,hb⟩
end De
end
section
namespace De
open Go.RowKit Go.Proofs.YtfcaoggfnkhfiaaGreatDoor
end De
end
structure bS where
 id:Int
 n:Nat
def bS.ok(f:bS):Prop:= -9223372036854775808≤f.id∧f.id≤9223372036854775807∧f.n<4294967296
abbrev bS.agg(f:bS):Value:= .agg #[.int .i64 f.id,.int .u32 (f.n:Nat)]
structure Cy(w:World)(b o:Nat)(f:bS):Prop where
 c0:w.cell? ⟨b,o,none⟩=some (.int .i64 f.id)
 c1:w.cell? ⟨b,o+1,none⟩=some (.int .u32 (f.n:Nat))
 ok:f.ok
def fN(w:World)(A:Option Addr)(l:List bS):Prop:=
 l=[]∨ ∃b off,A=some ⟨b,off,none⟩∧b<w.heap.size∧ ∀i (h:i<l.length),Cy w b (off+i*2) l[i]
theorem Cy.below{b o B:Nat}{f:bS}(h:Cy w b o f)(hb:Below B w w')(aH:b<B):Cy w' b o f:=
 ⟨(hb.cell (p:=⟨b,o,none⟩) aH).trans h.c0,(hb.cell (p:=⟨b,o+1,none⟩) aH).trans h.c1,h.ok⟩
theorem fN.below{l:List bS}(h:fN w A l)(hb:Below w.heap.size w w'):fN w' A l:=by
 rcases h with h | ⟨b,off,rfl,aH,h⟩
 ·exact .inl h
 ·exact .inr ⟨b,off,rfl,Nat.lt_of_lt_of_le aH hb.size,fun i hi=>(h i hi).below hb aH⟩
theorem fN.addr{l:List bS}(h:fN w A l)(hl:0<l.length): ∃b off,A=some ⟨b,off,none⟩∧b<w.heap.size∧ ∀i (h:i<l.length),Cy w b (off+i*2) l[i]:=by
 rcases h with rfl | h;·simp at hl
 ·exact h
def dF(f:bS):Bool:=if f.id=3 then decide (1≤f.n)&&decide (f.n≤256)else Eh f.id f.n
def jE(l:List bS):Bool:=decide (l.length≤3)&&l.all dF
def jF(id:Int):Bool:=id==5||id==7||id==9||id==10
theorem dg(w:World)(o:Obj):Below w.heap.size w (w.alloc o):=ar
theorem dG(id:Int)(w:World):Calls prog 121 #[.int .i64 id] w fun e w'=>e= .returned (.bool (jF id))∧w=w':=by
 have hm:jF id=(id==5||id==7||id==9||id==10):=rfl;generalize jF id=M at*;by_cases h5:id=5;·subst h5;simp only[show((5:Int)==5)=true from rfl,Bool.true_or]at hm;subst hm;go_enter func121,ntmps121;go_wp2_with fail;go_ret;exact⟨rfl,rfl⟩
 ·have b5:(id==5)=false:=by simp[h5]
  by_cases h7:id=7;·subst h7;simp only[show((7:Int)==7)=true from rfl,Bool.or_true,Bool.true_or]at hm;subst hm;clear h5 b5;go_enter func121,ntmps121;go_wp2_with fail;go_ret;exact⟨rfl,rfl⟩
  ·have b7:(id==7)=false:=(by simp[h7]);by_cases h9:id=9;·subst h9;simp only[show((9:Int)==9)=true from rfl,Bool.or_true,Bool.true_or]at hm;subst hm;clear h5 b5 h7 b7;go_enter func121,ntmps121;go_wp2_with fail;go_ret;exact⟨rfl,rfl⟩
   ·have b9:(id==9)=false:=(by simp[h9]);rw[b5,b7,b9]at hm;simp only[Bool.false_or]at hm;clear h5 h7 h9;generalize hT:(id==10)=T at*;subst hm;have HT:=ae hT;cases M
    all_goals
     go_enter func121,ntmps121;go_wp2_with fail;go_ret;exact⟨rfl,rfl⟩
theorem Tr(f:bS)(hf:f.ok)(w:World):Calls prog 79 #[f.agg] w fun e w'=>e= .returned (.bool (dF f))∧Below w.heap.size w w':=by
 obtain⟨id,n⟩:=f;obtain⟨h1,h2,h3⟩:=hf;simp only at h1 h2 h3;have hb:=dg w;have HM:=ae (Og id n);by_cases hid:id=3
 ·subst hid;have qK:dF ⟨3,n⟩=(decide (1≤n)&&decide (n≤256)):=rfl;generalize dF ⟨3,n⟩=R at*;by_cases hn:1≤n
  ·have d1:decide ((1:Int)≤(n:Int))=true:=(by simp;omega);have uN:R=decide (n≤256):=(by rw[qK];simp[hn]);clear qK;by_cases qt:n≤256;·have d2:decide ((n:Int)≤256)=true:=(by simp;omega);rw[decide_eq_true qt]at uN;subst uN;go_enter func79,ntmps79;go_wp2_with fail;go_ret;exact⟨rfl,hb _⟩
   ·have d2:decide ((n:Int)≤256)=false:=(by simp;omega);rw[decide_eq_false qt]at uN;subst uN;go_enter func79,ntmps79;go_wp2_with fail;go_ret;exact⟨rfl,hb _⟩
  ·have d1:decide ((1:Int)≤(n:Int))=false:=(by simp;omega);have uN:R=false:=(by rw[qK];simp[hn]);subst uN;clear qK;go_enter func79,ntmps79;go_wp2_with fail;go_ret;exact⟨rfl,hb _⟩
 ·have qK:dF ⟨id,n⟩=Eh id n:=by unfold dF;rw[if_neg hid]
  rw[qK];generalize Eh id n=R at*;clear qK;go_enter func79,ntmps79;go_wp2_with fail;refine(HM.out _).mono ?_;rintro e w' ⟨rfl,rfl⟩;go_wp2_with fail;go_ret;exact⟨rfl,hb _⟩
theorem mJ(f:bS)(hf:f.ok)(w:World):Calls prog 82 #[f.agg] w fun e w'=>e= .returned (.bool (dF f))∧Below w.heap.size w w':=by
 obtain⟨id,n⟩:=f;obtain⟨h1,h2,h3⟩:=hf;simp only at h1 h2 h3;have hb:=dg w;have HM:=ae (dG id);by_cases hid:id=3
 ·subst hid;have qK:dF ⟨3,n⟩=(decide (1≤n)&&decide (n≤256)):=rfl;generalize dF ⟨3,n⟩=R at*;by_cases hn:1≤n
  ·have d1:decide ((1:Int)≤(n:Int))=true:=(by simp;omega);have uN:R=decide (n≤256):=(by rw[qK];simp[hn]);clear qK;by_cases qt:n≤256;·have d2:decide ((n:Int)≤256)=true:=(by simp;omega);rw[decide_eq_true qt]at uN;subst uN;go_enter func82,ntmps82;go_wp2_with fail;go_ret;exact⟨rfl,hb _⟩
   ·have d2:decide ((n:Int)≤256)=false:=(by simp;omega);rw[decide_eq_false qt]at uN;subst uN;go_enter func82,ntmps82;go_wp2_with fail;go_ret;exact⟨rfl,hb _⟩
  ·have d1:decide ((1:Int)≤(n:Int))=false:=(by simp;omega);have uN:R=false:=(by rw[qK];simp[hn]);subst uN;clear qK;go_enter func82,ntmps82;go_wp2_with fail;go_ret;exact⟨rfl,hb _⟩
 ·have qK:dF ⟨id,n⟩=(jF id&&n%4==0):=by unfold dF;rw[if_neg hid];rfl
  rw[qK];generalize jF id=R at*;clear qK;have hT:((n:Int)%4==0)=(n%4==0):=by rw[Bool.eq_iff_iff];simp;omega
  generalize(n%4==0)=T at*;cases R
  all_goals
   go_enter func82,ntmps82;go_wp2_with fail;refine(HM.out _).mono ?_;rintro e w' ⟨rfl,rfl⟩;go_wp2_with fail;go_ret;exact⟨rfl,hb _⟩
theorem Gw(l:List bS)(k:Nat)(h:k<l.length)(ha:(l.take k).all dF=true):(l.take (k+1)).all dF=dF l[k]:=by rw[List.take_succ_eq_append_getElem h,List.all_append,ha];simp
theorem Ts(l:List bS)(k:Nat)(h:k<l.length)(hf:dF l[k]=false):l.all dF=false:=by rw[List.all_eq_false];exact⟨_,List.getElem_mem h,by simp[hf]⟩
theorem Oj(A:Option Addr)(l:List bS)(c:Nat)(w:World)(hF:fN w A l)(hl:l.length≤20):
  Calls prog 51 #[.slice A l.length c] w fun e w'=>e= .returned (.bool (jE l))∧Below w.heap.size w w':=by
 have hm:jE l=(decide (l.length≤3)&&l.all dF):=rfl;have HM:=ae hm;clear hm;generalize jE l=M at*;go_enter func51,ntmps51;go_wp2_with fail;go_loopw [3] (fun i wr=> ∃k:Nat,k≤l.length∧i= .int .i64 k∧(l.take k).all dF=true∧Below w.heap.size w wr) (fun i _=>l.length-(intOf i).toNat);case atStart=>exact⟨0,aa,rfl,ag,Below.refl _ _⟩
 case round=>
  obtain⟨k,hk,rfl,dp,hb⟩:=hrel;by_cases aH:k<l.length
  ·obtain⟨b,off,rfl,gZ,dm⟩:=(hF.below hb).addr aa;have iy:=dm k aH;have S8:=ae (Gw l k aH dp);have ya:=ae (Ts l k aH);have Cz:=ae (Tr l[k] iy.ok wr);have h0:=iy.c0;have h1:=iy.c1;have bL:=iy.ok;generalize l[k]=f at*;obtain⟨id,n⟩:=f;clear dm dp iy;simp only[bS.ok]at bL;simp only at h0 h1;cases qK:dF ⟨id,n⟩with
   | true=>
    rw[qK]at Cz S8;clear qK ya;go_wp2_with fail;refine Cz.out.mono ?_;rintro e w1 ⟨rfl,az⟩;go_wp2_with fail;go_roundw;case rel=>exact⟨k+1,aa,aE,S8.out,aM hb az⟩
    case measure=>simp[intOf];omega
   | false=>
    have hx:=ya.out qK;have hm:=HM.out;rw[hx,Bool.and_false]at hm;subst hm;rw[qK]at Cz;clear qK S8 hx;go_wp2_with fail;refine Cz.out.mono ?_;rintro e w1 ⟨rfl,az⟩;go_wp2_with fail;go_ret;exact⟨rfl,aM hb az⟩
  ·obtain rfl:k=l.length:=(by omega);have hx:l.all dF=true:=(by rw[List.take_length]at dp;exact dp);have hm:=HM.out;rw[hx,Bool.and_true]at hm;have hd:decide ((l.length:Int)≤3)=decide (l.length≤3):=(by rw[decide_eq_decide];omega);generalize decide (l.length≤3)=D at*;clear hx dp;subst hm;go_wp2_with fail;go_ret;exact⟨rfl,hb⟩
theorem th(A:Option Addr)(l:List bS)(c:Nat)(w:World)(hF:fN w A l)(hl:l.length≤20):
  Calls prog 54 #[.slice A l.length c] w fun e w'=>e= .returned (.bool (jE l))∧Below w.heap.size w w':=by
 have hm:jE l=(decide (l.length≤3)&&l.all dF):=rfl;by_cases h3:l.length≤3
 ·rw[decide_eq_true h3,Bool.true_and]at hm;have HM:=ae hm;clear hm;generalize jE l=M at*;have hd:decide ((3:Int)<(l.length:Int))=false:=av;go_enter func54,ntmps54;go_wp2_with fail;clear hd;go_loopw [10] (fun i wr=> ∃k:Nat,k≤l.length∧i= .int .i64 k∧(l.take k).all dF=true∧Below w.heap.size w wr) (fun i _=>l.length-(intOf i).toNat);case atStart=>exact⟨0,aa,rfl,ag,Below.refl _ _⟩
  case round=>
   obtain⟨k,hk,rfl,dp,hb⟩:=hrel;by_cases aH:k<l.length
   ·obtain⟨b,off,rfl,gZ,dm⟩:=(hF.below hb).addr aa;have iy:=dm k aH;have S8:=ae (Gw l k aH dp);have ya:=ae (Ts l k aH);have Cz:=ae (mJ l[k] iy.ok);have h0:=iy.c0;have h1:=iy.c1;have bL:=iy.ok;generalize l[k]=f at*;obtain⟨id,n⟩:=f;clear dm dp iy;simp only[bS.ok]at bL;simp only at h0 h1;have xc:=fun o=>hb.alloc hb.size o;cases qK:dF ⟨id,n⟩with
    | true=>
     rw[qK]at Cz S8;clear qK ya;go_wp2_with fail;refine(Cz.out _).mono ?_;rintro e w1 ⟨rfl,az⟩;go_wp2_with fail;go_roundw;case rel=>exact⟨k+1,aa,aE,S8.out,(xc _).trans (az.mono (xc _).size)⟩
     case measure=>simp[intOf];omega
    | false=>
     have hx:=ya.out qK;have hm:=HM.out;rw[hx]at hm;subst hm;rw[qK]at Cz;clear qK S8 hx;go_wp2_with fail;refine(Cz.out _).mono ?_;rintro e w1 ⟨rfl,az⟩;go_wp2_with fail;go_ret;exact⟨rfl,(xc _).trans (az.mono (xc _).size)⟩
   ·obtain rfl:k=l.length:=(by omega);have hx:l.all dF=true:=(by rw[List.take_length]at dp;exact dp);have hm:=HM.out;rw[hx]at hm;clear hx dp;subst hm;go_wp2_with fail;go_ret;exact⟨rfl,hb⟩
 ·rw[decide_eq_false h3,Bool.false_and]at hm;generalize jE l=M at*;subst hm;have hd:decide ((3:Int)<(l.length:Int))=true:=av;go_enter func54,ntmps54;go_wp2_with fail;go_ret;exact⟨rfl,Below.refl _ _⟩
def wD(f:bS)(b:List UInt8):List UInt8:=if f.id=3 then Delta.enc b f.n else dO (mI f.id) (jD f.id false) f.n b
def zl(f:bS)(b:List UInt8):List UInt8:=if f.id=3 then Delta.dec b f.n else dO (mI f.id) (jD f.id true) f.n b
def dY(l:List bS)(b:List UInt8):List UInt8:=l.foldl (fun b f=>wD f b) b
def lL(l:List bS)(b:List UInt8):List UInt8:=l.foldr zl b
theorem Gx(f:bS)(b:List UInt8):(wD f b).length=b.length:=by
 unfold wD;split;·exact Delta.ny _ _
 ·exact nw _ _ _ _
theorem Gy(f:bS)(b:List UInt8):(zl f b).length=b.length:=by
 unfold zl;split;·exact Delta.rL _ _
 ·exact nw _ _ _ _
theorem dk(l:List bS)(b:List UInt8):(dY l b).length=b.length:=by
 induction l generalizing b with
 | nil=>rfl
 | cons f l ih=>exact(ih (wD f b)).trans (Gx f b)
theorem ti(l:List bS)(b:List UInt8):(lL l b).length=b.length:=by
 induction l with
 | nil=>rfl
 | cons f l ih=>exact(Gy f _).trans ih
theorem Ol(f:bS)(b:List UInt8)(h:dF f=true):zl f (wD f b)=b:=by
 unfold zl wD;by_cases h3:f.id=3;·rw[if_pos h3,if_pos h3];unfold dF at h;rw[if_pos h3]at h;simp at h;exact Delta.Yq _ _ h.1
 ·rw[if_neg h3,if_neg h3];exact Yp f.id false f.n b
theorem Gz(l:List bS)(b:List UInt8)(h:l.all dF=true):lL l (dY l b)=b:=by
 induction l generalizing b with
 | nil=>rfl
 | cons f l ih=>
  rw[List.all_cons,Bool.and_eq_true]at h;show zl f (lL l (dY l (wD f b)))=b;rw[ih _ h.2,Ol f b h.1]
def Yt(l:List bS)(b:List UInt8)(k:Nat):List UInt8:=dY (l.take k) b
def Yu(l:List bS)(b:List UInt8)(k:Nat):List UInt8:=lL (l.drop (l.length-k)) b
theorem J2(l:List bS)(b:List UInt8)(k:Nat):(Yt l b k).length=b.length:=dk _ _
theorem J3(l:List bS)(b:List UInt8)(k:Nat):(Yu l b k).length=b.length:=ti _ _
theorem Tt(l:List bS)(b:List UInt8):Yt l b 0=b:=by simp[Yt,dY]
theorem Tu(l:List bS)(b:List UInt8):Yu l b 0=b:=by simp[Yu,lL]
theorem Yv(l:List bS)(b:List UInt8):Yt l b l.length=dY l b:=by simp[Yt]
theorem Yw(l:List bS)(b:List UInt8):Yu l b l.length=lL l b:=by simp[Yu]
theorem Tv(l:List bS)(b:List UInt8)(k:Nat)(h:k<l.length):Yt l b (k+1)=wD (l[k]'h) (Yt l b k):=by unfold Yt dY;rw[List.take_succ_eq_append_getElem h,List.foldl_append];rfl
theorem Tw(l:List bS)(b:List UInt8)(k:Nat)(h:k<l.length):Yu l b (k+1)=zl (l[l.length-1-k]'aa) (Yu l b k):=by unfold Yu lL;rw[show l.length-(k+1)=l.length-1-k by omega,List.drop_eq_getElem_cons aa,show l.length-1-k+1=l.length-k by omega];rfl
theorem zm(f:bS)(h:dF f=true):(f.id=3∧1≤f.n∧f.n≤256)∨(f.id≠3∧JX f.id∧f.n%4=0):=by
 unfold dF at h;by_cases h3:f.id=3;·rw[if_pos h3]at h;simp at h;exact .inl ⟨h3,h⟩
 ·rw[if_neg h3]at h;exact .inr ⟨h3,(Tk _ _).1 h⟩
theorem kW{base gj:Nat}{v:Value}{l:List UInt8}(h:Own base w v l)(hb:gj≤base):Own gj w v l:=De.qg h hb
theorem Tx(l:List bS)(i:Nat)(h:i<l.length)(ha:l.all dF=true):dF l[i]=true:=List.all_eq_true.1 ha _ (List.getElem_mem h)
theorem Yx(n k:Nat)(h:k<n):(n:Int)-1-(k:Int)=((n-1-k:Nat):Int):=aa
theorem Ty(f:bS)(bL:f.ok)(dw:dF f=true)(A:Option Addr)(l:List UInt8)(c:Nat)(w:World)(hB:Bytes w A l)(hm:l.length≤140737488355328):
  Calls prog 69 #[f.agg,.slice A l.length c] w (kV w (wD f l) 0):=by
 obtain⟨id,n⟩:=f;have hb:=dg w;obtain⟨h1,h2,h3⟩:=bL;simp only at h1 h2 h3;rcases zm _ dw with⟨e,g1,g2⟩ | ⟨e,g1,g2⟩
 ·simp only at e g1 g2;subst e;have hx:wD ⟨3,n⟩ l=Delta.enc l ((n:Int).toNat):=rfl;rw[hx];have HC:=ae (fun(w':World) (h:Bytes w' A l)=>De.rK A l c (n:Int) w' h hm aa aa);generalize Delta.enc l ((n:Int).toNat)=X at*;clear hx dw;go_enter func69,ntmps69;go_wp2_with fail;refine(HC.out _ (hB.below (hb _))).mono ?_;rintro e w1 ⟨v,rfl,ho,az⟩;go_wp2_with fail;go_ret2;exact⟨v,rfl,kW ho (hb _).size,(hb _).trans (az.mono (hb _).size)⟩
 ·simp only at e g1 g2;have hx:wD ⟨id,n⟩ l=dO (mI id) (jD id false) n l:=by unfold wD;rw[if_neg e]
  rw[hx];have HC:=ae (fun(w':World) (h:Bytes w' A l)=>rK id g1 n h3 g2 A l c w' h hm);generalize dO (mI id) (jD id false) n l=X at*;clear hx dw g1;go_enter func69,ntmps69;go_wp2_with fail;refine(HC.out _ (hB.below (hb _))).mono ?_;rintro e w1 ⟨v,rfl,ho,az⟩;go_wp2_with fail;go_ret2;exact⟨v,rfl,kW ho (hb _).size,(hb _).trans (az.mono (hb _).size)⟩
theorem Tz(f:bS)(bL:f.ok)(dw:dF f=true)(A:Option Addr)(l:List UInt8)(c:Nat)(w:World)(hB:Bytes w A l)(hm:l.length≤140737488355328):
  Calls prog 185 #[f.agg,.slice A l.length c] w (kV w (zl f l) 0):=by
 obtain⟨id,n⟩:=f;have hb:=dg w;obtain⟨h1,h2,h3⟩:=bL;simp only at h1 h2 h3;rcases zm _ dw with⟨e,g1,g2⟩ | ⟨e,g1,g2⟩
 ·simp only at e g1 g2;subst e;have hx:zl ⟨3,n⟩ l=Delta.dec l ((n:Int).toNat):=rfl;rw[hx];have HC:=ae (fun(w':World) (h:Bytes w' A l)=>De.J1 A l c (n:Int) w' h hm aa aa);generalize Delta.dec l ((n:Int).toNat)=X at*;clear hx dw;go_enter func185,ntmps185;go_wp2_with fail;refine(HC.out _ (hB.below (hb _))).mono ?_;rintro e w1 ⟨v,rfl,ho,az⟩;go_wp2_with fail;go_ret2;exact⟨v,rfl,kW ho (hb _).size,(hb _).trans (az.mono (hb _).size)⟩
 ·simp only at e g1 g2;have hx:zl ⟨id,n⟩ l=dO (mI id) (jD id true) n l:=by unfold zl;rw[if_neg e]
  rw[hx];have HC:=ae (fun(w':World) (h:Bytes w' A l)=>Eg id g1 n h3 g2 A l c w' h hm);generalize dO (mI id) (jD id true) n l=X at*;clear hx dw g1;go_enter func185,ntmps185;go_wp2_with fail;refine(HC.out _ (hB.below (hb _))).mono ?_;rintro e w1 ⟨v,rfl,ho,az⟩;go_wp2_with fail;go_ret2;exact⟨v,rfl,kW ho (hb _).size,(hb _).trans (az.mono (hb _).size)⟩
theorem Om(k:Nat)(l:List bS)(w:World)(_hl:l.length≤20)(_hk:k<l.length):
  Calls prog 68 #[.int .i64 (k:Nat)] w fun e w'=>e= .returned (.int .i64 (k:Nat))∧w=w':=by
 go_enter func68,ntmps68;go_wp2_with fail;go_ret;exact⟨rfl,rfl⟩
theorem TA(w:World)(A0:Option Addr)(l:List bS)(c0:Nat)(hF:fN w A0 l)(hl:l.length≤20)(dp:l.all dF=true)(rM:jE l=true)(A:Option Addr)(b:List UInt8)(c:Nat)(hB:Bytes w A b)(hm:b.length≤1000000):
  Calls prog 67 #[.slice A0 l.length c0,.slice A b.length c,.func (.func 68) #[] #[],.func (.func 69) #[] #[]] w (kV w (dY l b) 0):=by
 have HM:=ae (th A0 l c0 w hF hl);rw[rM]at HM;have HE:=ae (Yv l b);have HZ:=ae (Tt l b);have HL:=ae (J2 l b);have HN:=ae (Tv l b);have HFA:=ae (fun i h=>Tx l i h dp);generalize dY l b=X at*;generalize hS:Yt l b=S at*;have hZ:=HZ.out;clear hS rM dp;go_enter func67,ntmps67;go_wp2_with fail;refine HM.out.mono ?_;rintro e w1 ⟨rfl,hb⟩;have ci:Own w.heap.size w1 (.slice none 0 0) []:=Own.nil _ _;have dw:([]:List UInt8).length+b.length≤140737488355328:=av;have Th:=hb.size;go_wp2_with (at_builtin;refine ap rfl (.const (.slice none 0 0)) (.tmp 17) rfl w.heap.size _ (.slice none 0 0) [] rfl ci A b c rfl (hB.below hb) dw Th ?_;intro v1 w2 xa kz)
 have aD:Below w.heap.size w w2:=ao hb kz Th C4;rw[List.nil_append]at xa;clear ci dw Th hb kz;go_loopw [10,21] (fun v i wr=> ∃k:Nat,k≤l.length∧i= .int .i64 k∧Own w.heap.size wr v (S k)∧Below w.heap.size w wr) (fun _ i _=>l.length-(intOf i).toNat);case atStart=>exact⟨0,aa,rfl,by rw[hZ];exact xa,aD⟩
 case round=>
  clear xa aD hZ;obtain⟨k,hk,rfl,aK,hb⟩:=hrel;by_cases aH:k<l.length
  ·obtain⟨g0,off,rfl,gZ,dm⟩:=(hF.below hb).addr aa;have qJ:k<l.length:=aa;have iy:=dm (k) qJ;have hfi:=HFA.out (k) qJ;have mv:=HN.out k aH;have hlen:=HL.out k;obtain⟨A1,c1,rfl,cC,i9,eW⟩:=aK.read;have V7:=ae (Ty (l[k]'qJ) iy.ok hfi A1 (S k) c1 wr eW aa);have HT:=ae (Om k l wr hl aH);have h0:=iy.c0;have h1:=iy.c1;generalize l[k]'qJ=f at*;obtain⟨id,n⟩:=f;rw[←mv]at V7;have sP:=HL.out (k+1);clear dm iy hfi aK mv;simp only[bS.agg]at V7;simp only at h0 h1;clear qJ hlen sP;generalize Xi:S (k+1)=S1 at*;have sk:=ae Xi;clear Xi;generalize hSK:S k=S0 at*;have Sf:=ae hSK;clear hSK;go_wp2_with fail;refine HT.out.mono ?_;rintro e w' ⟨rfl,rfl⟩;go_wp2_with fail;refine V7.out.mono ?_;rintro e w3 ⟨v3,rfl,fE,bA⟩;go_wp2_with fail;go_roundw;case rel=>exact⟨k+1,aa,aE,by rw[sk.out];exact kW fE hb.size,aM hb bA⟩
   case measure=>simp[intOf];omega
  ·obtain rfl:k=l.length:=(by omega);rw[HE.out]at aK;go_wp2_with fail;go_ret2;exact⟨_,rfl,aK,hb⟩
theorem On(g c0:Nat)(A0:Option Addr)(k:Nat)(l:List bS)(w:World)(hl:l.length≤20)(hk:k<l.length)(Du:w.cell? ⟨g,0,none⟩=some (.slice A0 l.length c0))(_hgl:g<w.heap.size):
  Calls prog 184 #[.int .i64 (k:Nat),.pointer (some ⟨g,0,none⟩)] w fun e w'=>e= .returned (.int .i64 (l.length-1-k:Nat))∧w=w':=by
 have xc:=Yx l.length k hk;go_enter func184,ntmps184;go_wp2_with fail;go_ret;exact⟨rfl,rfl⟩
theorem TB(w:World)(g c0:Nat)(A0:Option Addr)(l:List bS)(hF:fN w A0 l)(hl:l.length≤20)(dp:l.all dF=true)(rM:jE l=true)(A:Option Addr)(b:List UInt8)(c:Nat)(hB:Bytes w A b)(hm:b.length≤1000000)(Du:w.cell? ⟨g,0,none⟩=some (.slice A0 l.length c0))(tT:g<w.heap.size):
  Calls prog 67 #[.slice A0 l.length c0,.slice A b.length c,.func (.func 184) #[] #[.pointer (some ⟨g,0,none⟩)],.func (.func 185) #[] #[]] w (kV w (lL l b) 0):=by
 have HM:=ae (th A0 l c0 w hF hl);rw[rM]at HM;have HE:=ae (Yw l b);have HZ:=ae (Tu l b);have HL:=ae (J3 l b);have HN:=ae (Tw l b);have HFA:=ae (fun i h=>Tx l i h dp);generalize lL l b=X at*;generalize hS:Yu l b=S at*;have hZ:=HZ.out;clear hS rM dp;go_enter func67,ntmps67;go_wp2_with fail;refine HM.out.mono ?_;rintro e w1 ⟨rfl,hb⟩;have ci:Own w.heap.size w1 (.slice none 0 0) []:=Own.nil _ _;have dw:([]:List UInt8).length+b.length≤140737488355328:=av;have Th:=hb.size;go_wp2_with (at_builtin;refine ap rfl (.const (.slice none 0 0)) (.tmp 17) rfl w.heap.size _ (.slice none 0 0) [] rfl ci A b c rfl (hB.below hb) dw Th ?_;intro v1 w2 xa kz)
 have aD:Below w.heap.size w w2:=ao hb kz Th C4;rw[List.nil_append]at xa;clear ci dw Th hb kz;go_loopw [10,21] (fun v i wr=> ∃k:Nat,k≤l.length∧i= .int .i64 k∧Own w.heap.size wr v (S k)∧Below w.heap.size w wr) (fun _ i _=>l.length-(intOf i).toNat);case atStart=>exact⟨0,aa,rfl,by rw[hZ];exact xa,aD⟩
 case round=>
  clear xa aD hZ;obtain⟨k,hk,rfl,aK,hb⟩:=hrel;by_cases aH:k<l.length
  ·have agE:=(hb.cell (p:=⟨g,0,none⟩) tT).trans Du;have Qm:g<wr.heap.size:=Nat.lt_of_lt_of_le tT hb.size;obtain⟨g0,off,rfl,gZ,dm⟩:=(hF.below hb).addr aa;have qJ:l.length-1-k<l.length:=aa;have iy:=dm (l.length-1-k) qJ;have hfi:=HFA.out (l.length-1-k) qJ;have mv:=HN.out k aH;have hlen:=HL.out k;obtain⟨A1,c1,rfl,cC,i9,eW⟩:=aK.read;have V7:=ae (Tz (l[l.length-1-k]'qJ) iy.ok hfi A1 (S k) c1 wr eW aa);have HT:=ae (On g c0 _ k l wr hl aH agE Qm);have h0:=iy.c0;have h1:=iy.c1;generalize l[l.length-1-k]'qJ=f at*;obtain⟨id,n⟩:=f;rw[←mv]at V7;have sP:=HL.out (k+1);clear dm iy hfi aK mv;simp only[bS.agg]at V7;simp only at h0 h1;have hsi:((l.length-1-k:Nat):Int)<(l.length:Int):=aa;generalize hsg:l.length-1-k=sg at*;have HSG:=ae hsg;clear hsg;clear qJ hlen sP;generalize Xi:S (k+1)=S1 at*;have sk:=ae Xi;clear Xi;generalize hSK:S k=S0 at*;have Sf:=ae hSK;clear hSK;go_wp2_with fail;refine HT.out.mono ?_;rintro e w' ⟨rfl,rfl⟩;go_wp2_with fail;refine V7.out.mono ?_;rintro e w3 ⟨v3,rfl,fE,bA⟩;go_wp2_with fail;go_roundw;case rel=>exact⟨k+1,aa,aE,by rw[sk.out];exact kW fE hb.size,aM hb bA⟩
   case measure=>simp[intOf];omega
  ·obtain rfl:k=l.length:=(by omega);rw[HE.out]at aK;go_wp2_with fail;go_ret2;exact⟨_,rfl,aK,hb⟩
theorem J4(A0:Option Addr)(l:List bS)(c0:Nat)(w:World)(hF:fN w A0 l)(hl:l.length≤20)(dp:l.all dF=true)(rM:jE l=true)(A:Option Addr)(b:List UInt8)(c:Nat)(hB:Bytes w A b)(hm:b.length≤1000000):
  Calls prog 34 #[.slice A0 l.length c0,.slice A b.length c] w (kV w (dY l b) 0):=by
 have HT:=ae (TA w A0 l c0 hF hl dp rM A b c hB hm);clear dp rM;generalize dY l b=X at*;go_enter func34,ntmps34;go_wp2_with fail;refine HT.out.mono ?_;rintro e w1 ⟨v,rfl,ho,hb⟩;go_wp2_with fail;go_ret2;exact⟨v,rfl,ho,hb⟩
theorem J5(A0:Option Addr)(l:List bS)(c0:Nat)(w:World)(hF:fN w A0 l)(hl:l.length≤20)(dp:l.all dF=true)(rM:jE l=true)(A:Option Addr)(b:List UInt8)(c:Nat)(hB:Bytes w A b)(hm:b.length≤1000000):
  Calls prog 139 #[.slice A0 l.length c0,.slice A b.length c] w (kV w (lL l b) 0):=by
 have oo:=dg w (.cells #[.slice A0 l.length c0] 23);have HT:=ae (TB (w.alloc (.cells #[.slice A0 l.length c0] 23)) w.heap.size c0 A0 l (hF.below oo) hl dp rM A b c (hB.below oo) hm (by rw[cell_of_row _ _ _ _ _ _ (heap_alloc_last _ _)];rfl) ag);clear dp rM;generalize lL l b=X at*;go_enter func139,ntmps139;go_wp2_with fail;refine HT.out.mono ?_;rintro e w1 ⟨v,rfl,ho,hb⟩;go_wp2_with fail;go_ret2;exact⟨v,rfl,kW ho oo.size,aM oo hb⟩
section
open Go Go.RowKit
def jm{β:Type}(bn:Nat)(J:β→World→Prop):Prop:= ∀s W v,J s W→J s (W.setCell ⟨bn,0,none⟩ v)
def fp(bn:Nat)(W W':World):Prop:=W'.cell? ⟨bn,0,none⟩=W.cell? ⟨bn,0,none⟩∧W'.frozen? ⟨bn,0,none⟩=W.frozen? ⟨bn,0,none⟩
theorem fp.trans{bn:Nat}{A B C:World}(h:fp bn A B)(k:fp bn B C):fp bn A C:=⟨k.1.trans h.1,k.2.trans h.2⟩
theorem gR{bn l:Nat}(W:World)(o:Obj)(h:bn≠l):fp bn W (W.putObj l o):=by have e:=World.putObj_heap_other (w:=W) (o:=o) h;exact⟨World.cell?_of_block (a:=⟨bn,0,none⟩) e,World.frozen?_of_block (a:=⟨bn,0,none⟩) e⟩
def TT{α:Type}(F:Fence)(n:Nat)(P:Program)(g:Nat)(lb:Array Value)(uS:α→Array Value)(bn:Nat)(S:List α→Prop)(N:Nat)(w:World):Prop:=
 ∀(l:Nat) (J:List α→World→Prop) (W:World),Below w.heap.size w W→jm bn J→
  (∀pre x W1,J pre W1→pre.length<N→YieldAt F (n-1) P l (uS x) W1 fun e W'=>e= .returned (.bool true)∧J (pre++[x]) W'∧fp bn W1 W')→
  J [] W→
  CallsIn F n P g (#[.func (.yield l) #[] #[]]++lb) W fun e W'=>(∃v,e= .returned v)∧ ∃xs,S xs∧J xs W'
def Mf{α:Type}(bn:Nat)(I:List α→World→Prop)(xs:List α)(W:World):Exit→Act→World→Prop
 | .normal,_,W'=>KeepsOthers W W'∧fp bn W W'∧I xs W'
 | _,_,_=>False
variable{F:Fence}{n:Nat}{P:Program}
theorem zw{α:Type}{g:Operand}{ps:Array Tmp}{assign body:Code}{Q:Exit→Act→World→Prop}{a:Act}{w:World}
  (kv:F.round=none) (h1:1≤n) {gf:Nat} {lb:Array Value} (hg:a.eval g= .func (.func gf) #[] lb) (hFg:F.fn gf) (eg: ∀args w,(callFunc gf args).run P w= .ok (.enter gf args) w)
  {uS:α→Array Value} {bn:Nat} {S:List α→Prop} {N:Nat} (Bj:TT F (n-1) P gf lb uS bn S N w) (P8:bn<w.heap.size) (VO: ∀x,(uS x).size=ps.size)
  (I:List α→World→Prop) (hIa: ∀s W o,I s W→I s (W.alloc o)) (DM: ∀s W l o o',I s W→w.heap.size≤l→W.heap[l]? =some o→o.isCells=false→I s (W.putObj l o')) (hIc:jm bn I) (h0:I [] w) (a₁:α→Act)
  (nh: ∀(l:Nat) (x:α) (W:World) (K:Act→World→Prop),K (a₁ x) W→
   assign.wpIn (F.inRound l) (n-1-1) P (Exit.then K (fun _ _ _=>False)) {tmps:=(ps.zip (uS x)).foldl (fun t (p,v)=>t.setIfInBounds p v) a.tmps,defers:=[]} W)
  (yl: ∀(l:Nat) (pre:List α) (x:α) (W:World),I pre W→pre.length<N→body.wpIn (F.inRound l) (n-1-1) P (Mf bn I (pre++[x]) W) (a₁ x) W)
  (qG: ∀(D:Nat) (xs:List α) (W:World),w.heap.size≤D→S xs→I xs W→W.heap[D]? =some (.deferred (some []))→Q .normal {a with defers:={target:= .collected D,args:= #[]}::a.defers} W):
  (Code.rangeFunc g ps assign body).wpIn F n P Q a w:=by
 refine wpIn_rangeFunc fun fn ot=> ?_;rw[kv];let ji:LoopState→Loop:=fun st=>{state:=st,pending:=none,fn,tmps:=a.tmps,params:=ps,assign,body,defers:=w.heap.size}
 have⟨W1,fv⟩:=ex ((w.alloc (.deferred (some []))).alloc (.loop (ji .ready)));have az:Below w.heap.size w W1:=by rw[←fv];exact((Below.refl _ w).alloc (Nat.le_refl _) _).alloc ag _
 have LQ:W1.heap[w.heap.size+1]? =some (.loop (ji .ready)):=by rw[←fv];have:=World.alloc_heap_new (w.alloc (.deferred (some []))) (.loop (ji .ready));rwa [World.size_alloc]at this
 have VP:W1.heap[w.heap.size]? =some (.deferred (some [])):=by rw[←fv];exact(Below.heap_alloc _ _ _ ag).trans (World.alloc_heap_new w _)
 have Xx:I [] W1:=CZ
 refine⟨w.heap.size+1,[{target:= .collected w.heap.size,args:= #[]}],W1,{target:= .fn (.func gf) lb,args:= #[.func (.yield (w.heap.size+1)) #[] #[]]},W1,gf,
  #[.func (.yield (w.heap.size + 1)) #[] #[]] ++ lb, W1, ?_, ?_, ?_, ?_, fun _ => h1, ?_⟩
 ·rw[←fv];exact run_enterLoop_outer _ _ _ _ _
 ·simp only[resolve,hg];simp[go_sem]
 ·intro f' R2;simp[Target.leads]at R2;subst R2;exact hFg
 ·simp[invoke,go_sem,eg]
 ·refine(Bj (w.heap.size+1) (fun pre W=>I pre W∧W.heap[w.heap.size+1]? =some (.loop (ji .ready))∧W.heap[w.heap.size]? =some (.deferred (some []))) W1 az ?_ ?_ ⟨Xx,LQ,VP⟩).mono ?_;·intro s W v hs;exact⟨hIc s W v hs.1,(heap_setCell_other _ _ _ _ (by show w.heap.size+1≠bn;omega)).trans hs.2.1,(heap_setCell_other _ _ _ _ (by show w.heap.size≠bn;omega)).trans hs.2.2⟩
  ·rintro pre x W ⟨hi,hl,hk⟩ hlen;have aH:w.heap.size+1<W.heap.size:=(cr hl)
   have hy:=run_yield (P:=P) (args:=uS x) hl (VO x);refine⟨fn,_,assign,body,hy,roundIn_of_wpIn ot (nh _ x W _ ⟨_,run_beginRound hl rfl,?_⟩)⟩;have wY:(W.putObj (w.heap.size+1) (.loop (ji .busy))).heap[w.heap.size+1]? =some (.loop (ji .busy)):=World.putObj_heap_same aH;have l6:(W.putObj (w.heap.size+1) (.loop (ji .busy))).heap[w.heap.size]? =some (.deferred (some [])):=(World.putObj_heap_other aa).trans hk;have cU:fp bn W (W.putObj (w.heap.size+1) (.loop (ji .busy))):=gR _ _ aa;refine wpIn_mono (yl _ pre x _ (DM _ _ _ _ _ hi aa hl rfl) hlen) ?_;rintro e a3 W3 hp;cases e with
   | normal=>
    obtain⟨mi,hkc,VN⟩:=hp;have qu:=mi.same _ _ wY rfl;have yV:=run_endRound (P:=P) none qu;exact⟨_,_,yV,rfl,⟨DM _ _ _ _ _ VN aa qu rfl,World.putObj_heap_same (cr qu),(World.putObj_heap_other aa).trans (mi.same _ _ l6 rfl)⟩,(cU.trans hkc).trans (gR _ _ aa)⟩
   | ret=>exact hp.elim
   | exit id=>exact hp.elim
   | goto t=>exact hp.elim
   | panic ch=>exact hp.elim
   | outgrown=>exact hp.elim
  ·rintro e W2 ⟨⟨v,rfl⟩,xs,hS,hi,hl,hk⟩;exact⟨none,_,run_endLoop (P:=P) hl (by simp[ji]),qG _ xs _ (Nat.le_refl _) hS (DM _ _ _ _ _ hi aa hl rfl) ((World.putObj_heap_other aa).trans hk)⟩
end
namespace Vl
def put:Nat→Nat→List UInt8
 | 0,n=>[UInt8.ofNat n]
 | f+1,n=>if n<128 then [UInt8.ofNat n]else UInt8.ofNat (n%128+128)::put f (n/128)
theorem du(h:n<128):put f n=[UInt8.ofNat n]:=by
 cases f with
 | zero=>rfl
 | succ f=>rw[put,if_pos h]
theorem lM(h: ¬n<128):put (f+1) n=UInt8.ofNat (n%128+128)::put f (n/128):=by rw[put,if_neg h]
theorem cN(f n:Nat):1≤(put f n).length∧(put f n).length≤f+1:=by
 induction f generalizing n with
 | zero=>exact⟨Nat.le_refl _,Nat.le_refl _⟩
 | succ f ih=>
  by_cases h:n<128;·rw[du h];simp
  ·rw[lM h];have:=ih (n/128);simp;omega
theorem Mg: ∀k:Fin 256,k.val ||| 128=k.val%128+128:=rm
end Vl
section
open Go.RowKit Go.Shelf
attribute [local go_sem] Oper.semAt_some
def Kd(bn:Nat)(wr:World):Nat:=(intOf ((wr.cell? ⟨bn,0,none⟩).getD undef)).toNat
theorem CC{bn m:Nat}{wr:World}(h:wr.cell? ⟨bn,0,none⟩=some (.int .u64 (m:Nat))):Kd bn wr=m:=by unfold Kd;rw[h];simp[intOf]
theorem YD(m:Nat):bits .or .u8 ((m:Int)%256) 128=(((UInt8.ofNat (m%128+128)).toNat:Nat):Int):=by have h:m%256 ||| 128=m%256%128+128:=Vl.Mg ⟨m%256,Nat.mod_lt _ aa⟩;rw[show(m:Int)%256=((m%256:Nat):Int) by omega,show(128:Int)=((128:Nat):Int)from rfl,u8_or_nat _ _ aa aa,h,UInt8.toNat_ofNat'];omega
theorem TU(m:Nat)(h:m<128):B8 (UInt8.ofNat m)= .int .u8 (m:Nat):=by have e:(UInt8.ofNat m).toNat=m:=Dc;show Value.int .u8 _=_;rw[e]
theorem YE(F:Fence)(n:Nat)(h11:F.fn 118)(kv:F.round=none)(hn:1≤n)(bn nv:Nat)(w:World)(hb:bn<w.heap.size)(hc:w.cell? ⟨bn,0,none⟩=some (.int .u64 (nv:Nat)))(hf:w.frozen? ⟨bn,0,none⟩=false)(hv:nv<128^10)(abY:nv<18446744073709551616):
  TT F n prog 118 #[.pointer (some ⟨bn,0,none⟩)] (fun x:UInt8=> #[B8 x]) bn (fun xs=>xs=Vl.put 9 nv) 10 w:=by
 intro l J W hW hJ hY h0;have hcW:=(hW.cell (p:=⟨bn,0,none⟩) hb).trans hc;have hfW:=(hW.frozen (p:=⟨bn,0,none⟩) hb).trans hf;have HY:=ae hY;have HJ:=ae hJ;clear hY hJ hc hf;refine callsIn_of_wp func118 rfl h11 ?_ kv;simp only[ntmps118,List.size_toArray,List.length_cons,List.length_nil,Nat.reduceAdd,Nat.reduceSub,Array.replicate_succ,Array.replicate_zero,List.push_toArray,List.append_toArray,List.nil_append,List.cons_append]
 gi_wp2
 gi_loopw [4] (fun _ wr=> ∃(pre:List UInt8) (m f:Nat),Hid (Vl.put 9 nv=pre++Vl.put f m)∧Hid (m<128^(f+1))∧m<18446744073709551616∧pre.length+f=9∧wr.cell? ⟨bn,0,none⟩=some (.int .u64 (m:Nat))∧wr.frozen? ⟨bn,0,none⟩=false∧J pre wr) (fun _ wr=>Kd bn wr)
 case atStart=>exact⟨[],nv,9,rfl,hv,abY,rfl,hcW,hfW,h0⟩
 case round=>
  obtain⟨pre,m,f,qx,hm,av0,hlen,qn,hfm,wB⟩:=hrel;clear hcW hfW;have agL:=ae (CC qn);by_cases aH:m<128
  ·have MJ: ¬(128:Int)≤(m:Int):=(by omega);obtain⟨fn,tmps,assign,body,hy,hR⟩:=HY.out pre (UInt8.ofNat m) wr wB aa;rw[TU m aH]at hy;have JR:=ae (Vl.du (f:=f) aH);generalize UInt8.ofNat m=X at*
   gi_wp2
   refine hR.mono ?_;rintro e W3 ⟨rfl,EW,mi⟩
   gi_wp2
   go_end0;exact⟨⟨_,rfl⟩,pre++[X],by rw[qx.out,JR.out],EW⟩
  ·have MJ:(128:Int)≤(m:Int):=(by omega);cases f with
   | zero=>have:=hm.out;simp at this;omega
   | succ f=>
    obtain⟨fn,tmps,assign,body,hy,hR⟩:=HY.out pre (UInt8.ofNat (m%128+128)) wr wB aa;have hor:=YD m;have JR:=ae (Vl.lM (f:=f) aH);have hq:(m:Int)/128=((m/128:Nat):Int):=aa;have fJ:m/128<128^(f+1):=(by have:=hm.out;rw[Nat.pow_succ]at this;rw[Nat.div_lt_iff_lt_mul aa];exact this);have EX:m/128<m:=aa;have mS:m/128<18446744073709551616:=aa;change Sem.run _ (Instr.yield l #[Value.int .u8 (((UInt8.ofNat (m%128+128)).toNat:Nat):Int)]) wr=_ at hy;generalize(UInt8.ofNat (m%128+128)).toNat=xn at hy hor;generalize UInt8.ofNat (m%128+128)=X at*;generalize m/128=m2 at*;have Av:=ae fJ;clear fJ hm
    gi_wp2
    refine hR.mono ?_;rintro e W3 ⟨rfl,EW,mi⟩;have oj:W3.cell? ⟨bn,0,none⟩=some (.int .u64 (m:Nat)):=mi.1.trans qn;have Qp:W3.frozen? ⟨bn,0,none⟩=false:=mi.2.trans hfm;have qE:(W3.setCell ⟨bn,0,none⟩ (.int .u64 (m2:Nat))).cell? ⟨bn,0,none⟩=some (.int .u64 (m2:Nat)):=World.cell?_setCell_same' _ _ _ (by rw[oj];rfl);have TV:(W3.setCell ⟨bn,0,none⟩ (.int .u64 (m2:Nat))).frozen? ⟨bn,0,none⟩=false:=(by rw[World.frozen?_setCell];exact Qp);have hJ4:=HJ.out (pre++[X]) W3 (.int .u64 (m2:Nat)) EW;have xF:=ae (CC qE)
    gi_wp2
    go_roundw;case rel=>exact⟨pre++[X],m2,f,by show Vl.put 9 nv=_;rw[qx.out,JR.out];simp,Av.out,mS,av,qE,TV,hJ4⟩
    case measure=>rw[xF.out,agL.out];exact EX
end
section
open Go.RowKit Go.Shelf
attribute [local go_sem] Oper.semAt_some
def CD(w:World)(B bn:Nat)(pre:List UInt8)(W:World):Prop:=
 ∃v x,W.heap[B]? =some (.cells #[v] 22 (0,0))∧W.heap[bn]? =some (.cells #[x] 48 (0,0))∧Own w.heap.size W v pre∧Below w.heap.size w W
theorem Own.put{base:Nat}{W:World}{v:Value}{l:List UInt8}(h:Own base W v l){j:Nat}{o:Obj}(o':Obj)(hj:W.heap[j]? =some o)(ho:o.isCells=false):Own base (W.putObj j o') v l:=by
 rcases h with⟨h1,h2 | ⟨g,cap,cur,h2,h3,h4,h5⟩⟩
 ·exact⟨h1,.inl h2⟩
 ·refine⟨h1,.inr ⟨g,cap,cur,h2,h3,(World.putObj_heap_other ?_).trans h4,h5⟩⟩;intro e;subst e;rw[hj]at h4;injection h4 with h4;subst h4;cases ho
theorem Own.set{base:Nat}{W:World}{v:Value}{l:List UInt8}(h:Own base W v l){p:Addr}(hp:v.ownBlock≠some p.block)(u:Value):Own base (W.setCell p u) v l:=by
 rcases h with⟨h1,h2 | ⟨g,cap,cur,h2,h3,h4,h5⟩⟩
 ·exact⟨h1,.inl h2⟩
 ·exact⟨h1,.inr ⟨g,cap,cur,h2,h3,(heap_setCell_other _ _ _ _ (fun e=>hp (by rw[h2,←e];rfl))).trans h4,h5⟩⟩
theorem Own.apart{base:Nat}{W:World}{v:Value}{l:List UInt8}(h:Own base W v l){k:Nat}{cs:Array Value}{t:TypeId}{fr:Nat×Nat}(hk:W.heap[k]? =some (.cells cs t fr))(ht:t≠5):v.ownBlock≠some k:=by
 intro he;rcases h with⟨_,⟨rfl,_⟩ | ⟨g',dX,cur,rfl,_,h4,_⟩⟩
 ·cases he
 ·have e:g'=k:=by simpa [Value.ownBlock]using he
  subst e;rw[h4]at hk;injection hk with hk;injection hk with _ l6 _;exact ht l6.symm
theorem Own.cells{base:Nat}{W:World}{v:Value}{l:List UInt8}(h:Own base W v l){j:Nat}{o:Obj}(hj:v.ownBlock=some j)(ho:W.heap[j]? =some o):o.isCells=true:=by
 rcases h with⟨_,⟨rfl,_⟩ | ⟨g',dX,cur,rfl,_,h4,_⟩⟩
 ·cases hj
 ·have e:g'=j:=by simpa [Value.ownBlock]using hj
  subst e;rw[ho]at h4;injection h4 with h4;subst h4;rfl
theorem Bv{bn:Nat}{W W':World}(h:W'.heap[bn]? =W.heap[bn]?):fp bn W W':=
 ⟨World.cell?_of_block (a:=⟨bn,0,none⟩) h,World.frozen?_of_block (a:=⟨bn,0,none⟩) h⟩
theorem GD{w:World}{B bn:Nat}(s:List UInt8)(W:World)(o:Obj)(h:CD w B bn s W):CD w B bn s (W.alloc o):=by
 obtain⟨v,x,h1,h2,h3,h4⟩:=h;have l1:B<W.heap.size:=(cr h1)
 have l2:bn<W.heap.size:=(cr h2)
 exact⟨v,x,(Below.heap_alloc _ _ _ l1).trans h1,(Below.heap_alloc _ _ _ l2).trans h2,h3.alloc _,h4.alloc h4.size _⟩
theorem Oy{w w0:World}{B bn:Nat}(hw:w.heap.size≤w0.heap.size)(s:List UInt8)(W:World)(j:Nat)(o o':Obj)(h:CD w B bn s W)(hl:w0.heap.size≤j)(hj:W.heap[j]? =some o)(ho:o.isCells=false):CD w B bn s (W.putObj j o'):=by
 obtain⟨v,x,h1,h2,h3,h4⟩:=h;have n1:B≠j:=by intro e;subst e;rw[hj]at h1;injection h1 with h1;subst h1;cases ho
 have n2:bn≠j:=by intro e;subst e;rw[hj]at h2;injection h2 with h2;subst h2;cases ho
 refine⟨v,x,(World.putObj_heap_other n1).trans h1,(World.putObj_heap_other n2).trans h2,h3.put _ hj ho,?_⟩;exact h4.grown (grownBy_putObj' W j o') h4.size (fun k e=>tZ)
theorem Ke{w:World}{B bn:Nat}(dH:B≠bn)(hb:w.heap.size≤bn):jm bn (CD w B bn):=by intro s W u h;obtain⟨v,x,h1,h2,h3,h4⟩:=h;refine⟨v,u,(heap_setCell_other _ _ _ _ dH).trans h1,?_,h3.set (h3.apart h2 ak) _,h4.setCell hb _⟩;rw[heap_setCell_same W bn 0 _ _ u h2];rfl
def YF(w:World)(nv:Nat)(e:Ending)(w':World):Prop:=e= .returned (.func (.func 118) #[] #[.pointer (some ⟨w.heap.size,0,none⟩)])∧w.alloc (.cells #[.int .u64 (nv:Nat)] 48)=w'
theorem abZ(F:Fence)(n:Nat)(Cw:F.fn 77)(kv:F.round=none)(nv:Nat)(w:World):
  CallsIn F n prog 77 #[.int .u64 (nv:Nat)] w (YF w nv):=by
 refine callsIn_of_wp func77 rfl Cw ?_ kv;simp only[ntmps77,List.size_toArray,List.length_cons,List.length_nil,Nat.reduceAdd,Nat.reduceSub,Array.replicate_succ,Array.replicate_zero,List.push_toArray,List.append_toArray,List.nil_append,List.cons_append]
 gi_wp2
 go_ret;exact⟨rfl,rfl⟩
def Mh(w:World)(l:List UInt8)(e:Ending)(w':World):Prop:= ∃v,e= .returned (.tuple #[v,.int .i64 0])∧Own w.heap.size w' v l∧Below w.heap.size w w'
theorem ab0(F:Fence)(n:Nat)(h6:F.fn 42)(Cw:F.fn 77)(h11:F.fn 118)(kv:F.round=none)(hn:3≤n)(nv:Nat)(w:World)(hv:nv≤9223372036854775807):
  CallsIn F n prog 42 #[.int .u64 (nv:Nat)] w (Mh w (Vl.put 9 nv)):=by
 have h1:1≤n:=aa;have Qh: ¬(9223372036854775807:Int)<(nv:Int):=aa;have abY:nv<18446744073709551616:=aa;refine callsIn_of_wp_marks func42 rfl h6 ?_ kv;simp only[ntmps42,List.size_toArray,List.length_cons,List.length_nil,Nat.reduceAdd,Nat.reduceSub,Array.replicate_succ,Array.replicate_zero,List.push_toArray,List.append_toArray,List.nil_append,List.cons_append]
 gi_wp2_with (gi_at_call 77;refine(abZ F (n-1) Cw kv nv _).mono ?_;rintro e w' ⟨rfl,rfl⟩)
 have Mi:((w.alloc (.cells #[.slice none 0 0] 22)).alloc (.cells #[.int .u64 (nv:Nat)] 48)).heap[w.heap.size+1]? =some (.cells #[.int .u64 (nv:Nat)] 48 (0,0)):=by have:=heap_alloc_new (w.alloc (.cells #[.slice none 0 0] 22)) (.cells #[.int .u64 (nv:Nat)] 48);rwa [World.size_alloc]at this
 have n_:((w.alloc (.cells #[.slice none 0 0] 22)).alloc (.cells #[.int .u64 (nv:Nat)] 48)).heap[w.heap.size]? =some (.cells #[.slice none 0 0] 22 (0,0)):=
  (Below.heap_alloc _ _ _ ag).trans (heap_alloc_new w _)
 have agM:Below w.heap.size w ((w.alloc (.cells #[.slice none 0 0] 22)).alloc (.cells #[.int .u64 (nv:Nat)] 48)):=(ar).alloc ag _;have dl:((w.alloc (.cells #[.slice none 0 0] 22)).alloc (.cells #[.int .u64 (nv:Nat)] 48)).heap.size=w.heap.size+2:=ag;generalize(w.alloc (.cells #[.slice none 0 0] 22)).alloc (.cells #[.int .u64 (nv:Nat)] 48)=W0 at*;have G':W0.cell? ⟨w.heap.size+1,0,none⟩=some (.int .u64 (nv:Nat)):=by rw[cell_of_row _ _ _ _ _ _ Mi];rfl
 have ot:=frozen_of_row W0 (w.heap.size+1) 0 _ _ Mi;have anq:nv<128^10:=by have:(128:Nat)^10=1180591620717411303424:=ak;omega
 obtain⟨i0,hi,kw,eQ,oC⟩:=info_parts oK
 refine zw kv h1 (gf:=118) (lb:= #[.pointer (some ⟨w.heap.size+1,0,none⟩)]) rfl h11 (enters_of func118 ai rfl)
  (YE F (n-1) h11 kv aa (w.heap.size+1) nv W0 aa G' ot anq abY) aa (fun _=>rfl)
  (CD w w.heap.size (w.heap.size+1)) GD (Oy (w0:=W0) aa) (Ke aa aa) ⟨_,_,n_,Mi,Own.nil _ _,agM⟩
  (fun x=>{tmps:= #[.int .u64 (nv:Nat),undef,.slice none 0 0,.int .i64 0,.pointer (some ⟨w.heap.size,0,none⟩),B8 x,.int .u64 (nv:Nat),.bool false,.int .u64 (nv:Nat),.func (.func 118) #[] #[.pointer (some ⟨w.heap.size+1,0,none⟩)],B8 x,undef,undef,undef,undef,undef],defers:=[]}) ?assign ?body ?done
 case assign=>
  intro l x W K hK
  gi_wp2
  exact hK
 case body=>
  rintro l pre x W ⟨v,y,hB,hN,hO,hb⟩ hlen;have cB:W.cell? ⟨w.heap.size,0,none⟩=some v:=by rw[cell_of_row _ _ _ _ _ _ hB];rfl
  have oq:=hb.size;have hlB:w.heap.size<W.heap.size:=(cr hB)
  have hlN:w.heap.size+1<W.heap.size:=(cr hN)
  have aB:=hO.apart hB ak;have aN:=hO.apart hN ak;have hOa:=hO.alloc (.cells #[B8 x] 5);clear G' ot n_ Mi agM
  gi_wp2_with (gi_at_builtin;refine wpListIn_append_own _ rfl _ _ 22 rfl w.heap.size 5 i0 (.int .u8 0) 1 1 underlying22 hi kw eQ oC rfl ak _ _ _ rfl hOa ⟨W.heap.size,0,none⟩ 1 1 [B8 x] rfl rfl (cell_one_new _ _ _) Iu fF aa av ?_;intro v' w1 o_ GF _;obtain⟨g',dX,rfl,kz,gI⟩:=World.ownsRow.form o_ aa;have eW:w1.heap[w.heap.size]? =some (.cells #[v] 22 (0,0)):=(GF.block _ av (fun e=>aB e.symm)).trans ((Below.heap_alloc _ _ _ hlB).trans hB);have hN1:w1.heap[w.heap.size+1]? =W.heap[w.heap.size+1]? :=(GF.block _ av (fun e=>aN e.symm)).trans (Below.heap_alloc _ _ _ hlN);have cB1:w1.cell? ⟨w.heap.size,0,none⟩=some v:=(by rw[cell_of_row _ _ _ _ _ _ eW];rfl);have fB1:=frozen_of_row w1 w.heap.size 0 _ _ eW)
  have Qm:(W.alloc (.cells #[B8 x] 5)).grownBy w1 v.ownBlock:=GF;have lC:Own w.heap.size w1 (.slice (some ⟨g',0,none⟩) (pre.length+1) dX) (pre++[x]):=by unfold Own;simpa using o_
  have aB1:=lC.apart eW ak;refine⟨((KeepsOthers.alloc W _).trans (KeepsOthers.of_grownBy Qm (fun j o hj ho=>hOa.cells hj ho))).trans (KeepsOthers.setCell _ _ _),Bv ((heap_setCell_other _ _ _ _ (by show w.heap.size+1≠w.heap.size;omega)).trans hN1),_,y,?_,?_,lC.set aB1 _,?_⟩;·rw[heap_setCell_same w1 w.heap.size 0 _ _ _ eW];rfl
  ·exact(heap_setCell_other _ _ _ _ (by show w.heap.size+1≠w.heap.size;omega)).trans (hN1.trans hN)
  ·exact(ao (hb.alloc hb.size _) Qm av (fun k hk=>(hO.ax k hk).1)).setCell (Nat.le_refl _) _
 case done=>
  rintro D xs W hD rfl ⟨v,y,hB,hN,hO,hb⟩ hK;have cB:W.cell? ⟨w.heap.size,0,none⟩=some v:=by rw[cell_of_row _ _ _ _ _ _ hB];rfl
  gi_wp2
  refine⟨ag,.inl ⟨_,_,rfl,run_takeDeferred hK,?_⟩⟩;exact⟨_,results_tmp2 rfl _ _ _,v,rfl,hO.put _ hK rfl,hb.grown (grownBy_putObj' W D (.deferred none)) hb.size (fun k e=>tZ)⟩
theorem Mj(nv:Nat)(w:World)(hv:nv≤9223372036854775807):Calls prog 42 #[.int .u64 (nv:Nat)] w (Mh w (Vl.put 9 nv)):=
 callsIn_wide.1 (ab0 Fence.wide 3 trivial trivial trivial rfl aa nv w hv)
end
end Go.Proofs.YtfcaoggfnkhfiaaGreatDoor
