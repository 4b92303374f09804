import Derived.Test.YtfcaoggfnkhfiaaGreatDoorZ08
import Derived.MapKept
namespace Go.Proofs.YtfcaoggfnkhfiaaGreatDoor
set_option maxRecDepth 100000
set_option maxHeartbeats 8000000
open Go.RowKit Go.Proofs.Tryz
variable{l:List UInt8}{c g:Nat}{fr:Nat×Nat}{t:TypeId}{w:World}
namespace C3
def zp(b0 b1 b2 b3:UInt8):BitVec 32:=((cK.ext 32 b0 ||| cK.ext 32 b1 <<< 8) ||| cK.ext 32 b2 <<< 16) ||| cK.ext 32 b3 <<< 24
theorem J9(b:UInt8)(j i:Nat):(cK.ext 32 b <<< j).getLsbD i=(decide (i<32)&&decide (j≤i)&&b.toBitVec.getLsbD (i-j)):=by
 rw[BitVec.getLsbD_shiftLeft];unfold cK.ext;rw[BitVec.getLsbD_setWidth];by_cases h1:i<32
 ·by_cases h2:i<j;·simp[h1,h2,show ¬j≤i by omega]
  ·simp[h1,h2,show i-j<32 by omega,show j≤i by omega]
 ·simp[h1]
theorem Ka(b:UInt8)(i:Nat)(h:8≤i):b.toBitVec.getLsbD i=false:=BitVec.getLsbD_of_ge _ _ h
theorem Ot(b0 b1 b2 b3:UInt8):zp b0 b1 b2 b3=((cK.ext 32 b0 <<< 0 ^^^ cK.ext 32 b1 <<< 8) ^^^ cK.ext 32 b2 <<< 16) ^^^ cK.ext 32 b3 <<< 24:=by
 have e0:cK.ext 32 b0=cK.ext 32 b0 <<< 0:=ag;unfold zp;conv=>lhs;rw[e0]
 apply BitVec.eq_of_getLsbD_eq;intro i hi;simp only[BitVec.getLsbD_or,BitVec.getLsbD_xor,J9];by_cases h1:i<8;·simp[show ¬8≤i by omega,show ¬16≤i by omega,show ¬24≤i by omega]
 ·by_cases h2:i<16;·simp[show ¬16≤i by omega,show ¬24≤i by omega,Ka b0 i aa]
  ·by_cases h3:i<24;·simp[show ¬24≤i by omega,Ka b0 i aa,Ka b1 (i-8) aa]
   ·simp[Ka b0 i aa,Ka b1 (i-8) aa,Ka b2 (i-16) aa]
theorem qi(z:BitVec 32)(j:Nat)(b:UInt8)(hj:j+8≤32):cK.V8 l9 (cK.sn l9 j z) b=cK.sn l9 (j+8) (z ^^^ cK.ext 32 b <<< j):=by
 have h:cK.sn l9 j (cK.ext 32 b <<< j)=cK.ext 32 b:=by
  rw[cK.Ma l9 j _ (by intro i hi;rw[J9];simp[show ¬j≤i by omega])];apply BitVec.eq_of_getLsbD_eq;intro i hi;rw[BitVec.getLsbD_ushiftRight,J9];by_cases h8:i<8;·unfold cK.ext;rw[BitVec.getLsbD_setWidth];simp[show j+i<32 by omega,hi]
  ·rw[cK.Ek 32 b i aa];simp[Ka b i aa]
 unfold cK.V8;rw[cK.zo,cK.J6 l9 j,h]
theorem agG(r:BitVec 32)(b0 b1 b2 b3:UInt8):cK.iQ l9 r [b0,b1,b2,b3]=cK.sn l9 32 (r ^^^ zp b0 b1 b2 b3):=by have h0:=qi r 0 b0 aa;have h1:=fun z=>qi z 8 b1 aa;have h2:=fun z=>qi z 16 b2 aa;have h3:=fun z=>qi z 24 b3 aa;simp only[cK.iQ,List.foldl];rw[show cK.V8 l9 r b0=cK.sn l9 8 (r ^^^ cK.ext 32 b0 <<< 0)from h0,h1,h2,h3,Ot];simp only[BitVec.xor_assoc]
theorem YA(x:BitVec 32)(j:Nat):cK.low (x >>> j)=BitVec.ofNat 32 (x.toNat/2^j%256):=by unfold cK.low;apply BitVec.eq_of_toNat_eq;simp only[BitVec.toNat_setWidth,BitVec.toNat_ofNat,BitVec.toNat_ushiftRight,Nat.shiftRight_eq_div_pow]
theorem YB(k m:Nat)(hm:m<256):T (256*k+m)=cK.sn l9 (8*(k+1)) (BitVec.ofNat 32 m):=by unfold T;rw[show(256*k+m)/256=k by omega,show(256*k+m)%256=m by omega]
theorem Mc(x:BitVec 32)(j k:Nat):cK.sn l9 (8+k) (x >>> j)=cK.sn l9 k (x >>> (j+8)) ^^^ cK.sn l9 (8+k) (BitVec.ofNat 32 (x.toNat/2^j%256)):=by rw[cK.zo,cK.xg,cK.J6,YA,←cK.zo,BitVec.shiftRight_add]
theorem four(x:BitVec 32):((T (768+x.toNat%256) ^^^ T (512+x.toNat/256%256)) ^^^ T (256+x.toNat/65536%256)) ^^^ T (x.toNat/16777216%256)=cK.sn l9 32 x:=by
 have t3:=YB 3 (x.toNat%256) aa;have t2:=YB 2 (x.toNat/256%256) aa;have t1:=YB 1 (x.toNat/65536%256) aa;have t0:=YB 0 (x.toNat/16777216%256) aa;have s0:=Mc x 0 24;have s1:=Mc x 8 16;have s2:=Mc x 16 8;have s3:=Mc x 24 0;simp only[Nat.mul_one,Nat.reduceMul,Nat.reduceAdd,Nat.zero_add,Nat.reducePow,Nat.div_one]at t3 t2 t1 t0 s0 s1 s2 s3;rw[t3,t2,t1,t0];rw[show x >>> 0=x from ag]at s0;have hz:x >>> 32=0#32:=by apply BitVec.eq_of_getLsbD_eq;intro i _;rw[BitVec.getLsbD_ushiftRight,BitVec.getLsbD_of_ge _ _ aa];simp
 rw[s0,s1,s2,s3,hz,cK.Yy,BitVec.zero_xor]
 ac_rfl
theorem abQ(a b:BitVec 32):bits .or .u32 (a.toNat:Int) (b.toNat:Int)=((a ||| b).toNat:Int):=by rw[u32_or_nat _ _ a.isLt b.isLt,BitVec.toNat_or]
theorem tl(b:UInt8):(cK.ext 32 b).toNat=b.toNat:=by have:=b.toNat_lt;unfold cK.ext;simp only[BitVec.toNat_setWidth,UInt8.toNat_toBitVec];omega
theorem wK(b:UInt8)(j:Nat)(h:j≤24):(cK.ext 32 b <<< j).toNat=b.toNat*2^j:=by have hb:=b.toNat_lt;have hj:2^j≤2^24:=Nat.pow_le_pow_right aa h;have hm:b.toNat*2^j≤255*2^24:=Nat.mul_le_mul aa hj;rw[BitVec.toNat_shiftLeft,tl,Nat.shiftLeft_eq,Nat.mod_eq_of_lt aa]
theorem Ou(r:BitVec 32)(b0 b1 b2 b3:UInt8):bits .xor .u32 (r.toNat:Int) (bits .or .u32 (bits .or .u32 (bits .or .u32 (b0.toNat:Int) ((b1.toNat:Int)*256)) ((b2.toNat:Int)*65536)) ((b3.toNat:Int)*16777216))
  =((r ^^^ zp b0 b1 b2 b3).toNat:Int):=by
 have e0:(b0.toNat:Int)=((cK.ext 32 b0).toNat:Int):=by rw[tl]
 have e1:(b1.toNat:Int)*(256:Int)=((cK.ext 32 b1 <<< 8).toNat:Int):=by rw[wK _ _ aa];omega
 have e2:(b2.toNat:Int)*(65536:Int)=((cK.ext 32 b2 <<< 16).toNat:Int):=by rw[wK _ _ aa];omega
 have e3:(b3.toNat:Int)*(16777216:Int)=((cK.ext 32 b3 <<< 24).toNat:Int):=by rw[wK _ _ aa];omega
 rw[e0,e1,e2,e3,abQ,abQ,abQ,GB];rfl
theorem El(x:BitVec 32)(d:Nat): ∃m:Nat,m<256∧m=x.toNat/d%256∧IntKind.u8.wrap ((x.toNat:Int)/(d:Int))=(m:Int):=
 ⟨x.toNat/d%256,Nat.mod_lt _ aa,rfl,Db⟩
theorem qW(g:Nat)(r:BitVec 32)(b off n c:Nat)(b0 b1 b2 b3:UInt8)(w:World)(hn:4≤n)(avZ:n≤9223372036854775807)
  (c0:w.cell? ⟨b,off,none⟩=some (.int .u8 (b0.toNat:Nat))) (c1:w.cell? ⟨b,off+1,none⟩=some (.int .u8 (b1.toNat:Nat)))
  (c2:w.cell? ⟨b,off+2,none⟩=some (.int .u8 (b2.toNat:Nat))) (c3:w.cell? ⟨b,off+3,none⟩=some (.int .u8 (b3.toNat:Nat)))
  (hT: ∀i,i<1024→w.cell? ⟨g,i,none⟩=some (.int .u32 (T i).toNat)):
  Calls prog 197 #[.pointer (some ⟨g,0,none⟩),.int .u32 r.toNat,.slice (some ⟨b,off,none⟩) n c] w fun e w'=>
   e= .returned (.int .u32 (cK.iQ l9 r [b0,b1,b2,b3]).toNat)∧ ∃k,w'=w.drewN k:=by
 have Bc:(0:Int)<n:=aa;have FC:(1:Int)<n:=aa;have qt:(2:Int)<n:=aa;have hn3:(3:Int)<n:=aa;have l0:=b0.toNat_lt;have l1:=b1.toNat_lt;have l2:=b2.toNat_lt;have l3:=b3.toNat_lt;have HT:=ae hT;clear hT;rw[agG];have hw:=ae (Ou r b0 b1 b2 b3);go_enter func197,ntmps197;go_wp2_with fail;go_quiet (fail);go_wp2_with fail;rw[hw.out];clear hw;have hf:=ae (four (r ^^^ zp b0 b1 b2 b3));generalize hx:r ^^^ zp b0 b1 b2 b3=x at*;have HX:=ae hx;clear hx;obtain⟨m0,F',em0,w0⟩:=El x 1;obtain⟨m1,i9,em1,w1⟩:=El x 256;obtain⟨m2,fJ,em2,w2⟩:=El x 65536;obtain⟨m3,EX,em3,w3⟩:=El x 16777216;have d3:=HT.out (768+m0) aa;have d2:=HT.out (512+m1) aa;have d1:=HT.out (256+m2) aa;have d0:=HT.out m3 aa;have E0:=ae em0;have E1:=ae em1;have E2:=ae em2;have E3:=ae em3;clear em0 em1 em2 em3;rw[show((1:Nat):Int)=1 from rfl,Int.ediv_one]at w0;rw[show((256:Nat):Int)=256 from rfl]at w1;rw[show((65536:Nat):Int)=65536 from rfl]at w2;rw[show((16777216:Nat):Int)=16777216 from rfl]at w3;have i0:(m0:Int)<256:=aa;have i1:(m1:Int)<256:=aa;have i2:(m2:Int)<256:=aa;have i3:(m3:Int)<256:=aa;go_quiet (fail);go_wp2_with fail;have h0:=E0.out;rw[Nat.div_one]at h0;have GC:bits .xor .u32 (bits .xor .u32 (bits .xor .u32 ((T (768+m0)).toNat:Int) ((T (512+m1)).toNat:Int)) ((T (256+m2)).toNat:Int)) ((T m3).toNat:Int)=((cK.sn l9 32 (r ^^^ zp b0 b1 b2 b3)).toNat:Int):=by rw[GB,GB,GB,HX.out,←hf.out,←h0,←E1.out,←E2.out,←E3.out]
 go_ret;exact⟨congrArg (fun n:Int=>Ending.returned (Value.int .u32 n)) GC,_,World.drewN_drewN _ _ _⟩
end C3
namespace C3
theorem DC(a:BitVec 32):bits .xor .u32 IntKind.u32.max (a.toNat:Int)=((~~~a).toNat:Int):=by rw[show IntKind.u32.max=(((BitVec.allOnes 32).toNat:Nat):Int)from rfl,GB,BitVec.allOnes_xor]
theorem uO(h:w.heap[g]? =some (.cells tabs t fr))(i:Nat)(hi:i<1024):w.cell? ⟨g,i,none⟩=some (.int .u32 (T i).toNat):=by rw[cell_of_row w g i tabs t fr h];unfold tabs;rw[List.getElem?_toArray,List.getElem?_map,List.getElem?_range hi];rfl
theorem mK:tabs.size=1024:=by simp[tabs]
theorem tm:tabs.all (·.oneCell')=true:=by unfold tabs;rw[List.all_toArray,List.all_map,List.all_eq_true];intro x _;rfl
structure rN(w0:World)(g:Nat)(w:World):Prop where
 tab: ∀i,i<1024→w.cell? ⟨g,i,none⟩=some (.int .u32 (T i).toNat)
 below:Below w0.heap.size w0 w
theorem rN.drewN{w0:World}(h:rN w0 g w)(n:Nat):rN w0 g (w.drewN n):=⟨fun i hi=>h.tab i hi,below_drewN h.below n⟩
theorem zq(x:BitVec 32)(v:UInt8)(m:Nat)(hm:m=(x.toNat%256) ^^^ v.toNat):bits .xor .u32 ((x.toNat:Int)/256) ((T m).toNat:Int)=((cK.V8 l9 x v).toNat:Int):=by
 have BV:m<256:=by have:=v.toNat_lt;rw[hm];exact Nat.xor_lt_two_pow (n:=8) aa aa
 have e:(x.toNat:Int)/(256:Int)=((x >>> 8).toNat:Int):=by rw[BitVec.toNat_ushiftRight,Nat.shiftRight_eq_div_pow];simp
 have hl:cK.low (x ^^^ cK.ext 32 v)=BitVec.ofNat 32 m:=by unfold cK.low;apply BitVec.eq_of_toNat_eq;have hv:=v.toNat_lt;simp only[BitVec.toNat_setWidth,BitVec.toNat_ofNat,BitVec.toNat_xor,tl];rw[Nat.xor_mod_two_pow (n:=8),hm,Nat.mod_eq_of_lt (show v.toNat<2^8 by omega)]
 have hs:(x ^^^ cK.ext 32 v) >>> 8=x >>> 8:=by apply BitVec.eq_of_getLsbD_eq;intro i _;rw[BitVec.getLsbD_ushiftRight,BitVec.getLsbD_ushiftRight,BitVec.getLsbD_xor,cK.Ek 32 v _ aa];simp
 rw[e,GB];unfold cK.V8;rw[cK.xg,hs,hl,TK m BV]
theorem zt(x:BitVec 32)(v:UInt8): ∃m:Nat,m<256∧m=(x.toNat%256) ^^^ v.toNat∧bits .xor .u8 ((x.toNat:Int)%256) (v.toNat:Int)=(m:Int):=by have hv:=v.toNat_lt;refine⟨_,Nat.xor_lt_two_pow (n:=8) (show x.toNat%256<2^8 by omega) (show v.toNat<2^8 by omega),rfl,?_⟩;rw[show(x.toNat:Int)%256=((x.toNat%256:Nat):Int)from aa,u8_xor_nat _ _ aa aa]
theorem Ov(x:BitVec 32)(l:List UInt8)(h:4≤l.length):cK.iQ l9 x l=cK.iQ l9 (cK.iQ l9 x [l[0],l[1],l[2],l[3]]) (l.drop 4):=by
 match l,h with
 | b0::b1::b2::b3::r,_=>rfl
theorem uP(x:BitVec 32)(l:List UInt8)(k:Nat)(h:k<l.length):cK.iQ l9 x (l.take (k+1))=cK.V8 l9 (cK.iQ l9 x (l.take k)) l[k]:=by rw[List.take_succ_eq_append_getElem h,cK.vU];rfl
def gL(s:BitVec 32)(l:List UInt8):BitVec 32:= ~~~ cK.iQ l9 (~~~ s) l
def lenOf:Value→Nat | .slice _ n _=>n | _=>0
def agH(w:World)(g:Nat)(x0:BitVec 32)(l:List UInt8)(sl reg:Value)(wr:World):Prop:=
 ∃(A:Option Addr) (c:Nat) (rest:List UInt8) (x:BitVec 32),sl= .slice A rest.length c∧rest.length≤c∧c≤9223372036854775807∧Bytes wr A rest∧rN w g wr∧reg= .int .u32 x.toNat∧cK.iQ l9 x0 l=cK.iQ l9 x rest
theorem za(s:BitVec 32)(A:Option Addr)(l:List UInt8)(c:Nat)(w:World)(hB:Bytes w A l)(hc:l.length≤c)(hm:c≤9223372036854775807):
  Calls prog 154 #[.int .u32 s.toNat,.slice A l.length c] w fun e w'=>
   e= .returned (.int .u32 (gL s l).toNat)∧Below w.heap.size w w':=by
 have hz:=(zero_of_info TJ).1;go_enter func154,ntmps154;go_wp2_with fail;refine(J8 w).mono ?_;rintro e w1 ⟨rfl,az⟩;go_wp2_with (refine wpList_store_row rfl 270 _ _ rfl w1.heap.size tabs rfl rfl 270 fP (heap_alloc_last _ _) ?c2 ?c3 ?c4 ?_)
 case c2=>rw[xh,mK]
 case c3=>rw[mK];simp[fP]
 case c4=>exact tm
 rw[World.setRow_alloc_new,DC];have hT:rN w w1.heap.size (w1.alloc (.cells tabs 270)):=⟨uO (heap_alloc_last _ _),az.alloc az.size _⟩
 have eW:=hB.below hT.below;generalize w1.alloc (.cells tabs 270)=w2 at*;generalize w1.heap.size=g at*;clear az hz hB;generalize nV: ~~~s=x0;have Na:=ae nV;clear nV;go_loopw [1,6] (fun sl reg wr=>agH w g x0 l sl reg wr) (fun sl _ _=>lenOf sl);case atStart=>exact⟨A,c,l,_,rfl,hc,hm,eW,hT,rfl,rfl⟩
 case round=>
  clear eW hT hc hm;obtain⟨A',c',rest,x,rfl,hc,hm,hB,hT,rfl,hx⟩:=hrel;have HX:=ae hx;clear hx;by_cases h4:4≤rest.length
  ·obtain⟨b,off,rfl,aH,hcell⟩:=hB.addr aa;have d0:=hcell 0 aa;have d1:=hcell 1 aa;have d2:=hcell 2 aa;have d3:=hcell 3 aa;have HC:=ae hcell;clear hcell;have HT:=ae hT.tab;have He:=ae (Ov x rest h4);have Bc:(4:Int)≤rest.length:=aa;generalize rest[0]=b0 at*;generalize rest[1]=b1 at*;generalize rest[2]=b2 at*;generalize rest[3]=b3 at*;by_cases qE:c'=4
   ·subst qE;go_wp2_with fail;refine(qW g x b off _ _ b0 b1 b2 b3 _ h4 aa (by simpa using d0) d1 d2 d3 HT.out).mono ?_;rintro e w' ⟨rfl,nq,rfl⟩;go_wp2_with fail;go_roundw;case rel=>have hl:rest.drop 4=[]:=(by rw[List.drop_eq_nil_iff];omega);exact⟨_,0,rest.drop 4,_,by rw[hl];rfl,by rw[hl];simp,aa,.inl hl,hT.drewN nq,rfl,by rw[HX.out,He.out]⟩
    case measure=>simp[lenOf];omega
   ·go_wp2_with fail;refine(qW g x b off _ _ b0 b1 b2 b3 _ h4 aa (by simpa using d0) d1 d2 d3 HT.out).mono ?_;rintro e w' ⟨rfl,nq,rfl⟩;go_wp2_with fail;go_roundw;case rel=>exact⟨_,_,rest.drop 4,_,by rw[List.length_drop],jL,aa,(hB.drop 4).drewN nq,hT.drewN nq,rfl,by rw[HX.out,He.out]⟩
    case measure=>simp[lenOf];omega
  ·go_wp2_with fail;obtain⟨wo,rfl⟩: ∃wo:World,wo=wr:=⟨_,rfl⟩
   go_loop [6,22] (fun reg i=> ∃k:Nat,k≤rest.length∧i= .int .i64 k∧reg= .int .u32 (cK.iQ l9 x (rest.take k)).toNat) (fun _ i=>rest.length-(intOf i).toNat);case atStart=>exact⟨0,aa,rfl,by simp[cK.iQ]⟩
   case round=>
    obtain⟨k,hk,rfl,rfl⟩:=hrel;by_cases aH:k<rest.length
    ·obtain⟨b,off,rfl,_,hcell⟩:=hB.addr aa;have tR:=hcell k aH;have hs:=ae (uP x rest k aH);generalize cK.iQ l9 x (rest.take k)=y at*;obtain⟨m,BV,wT,hmw⟩:=zt y rest[k];have Me:=hT.tab m aa;have Hmv:=ae wT;clear wT;have i0:(m:Int)<256:=aa;generalize rest[k]=v at*;clear hcell;go_wp2_with fail;go_round;case rel=>exact⟨k+1,aa,aE,by rw[hs.out,←zq y v m Hmv.out]⟩
     case measure=>simp[intOf];omega
    ·obtain rfl:k=rest.length:=(by omega);go_wp2_with fail;go_ret;have Bn:cK.iQ l9 x rest=cK.iQ l9 (~~~ s) l:=(by rw[Na.out,HX.out]);have GC:bits .xor .u32 IntKind.u32.max ((cK.iQ l9 x rest).toNat:Int)=((gL s l).toNat:Int):=(by rw[DC,Bn];rfl);exact⟨congrArg (fun n:Int=>Ending.returned (Value.int .u32 n)) GC,hT.below⟩
end C3
namespace C3
end C3
namespace C3
theorem Em(A:Option Addr)(l:List UInt8)(c:Nat)(w:World)(hB:Bytes w A l)(hc:l.length≤c)(hm:c≤9223372036854775807):
  Calls prog 154 #[.int .u32 0,.slice A l.length c] w fun e w'=>
   e= .returned (.int .u32 (gL 0#32 l).toNat)∧Below w.heap.size w w':=za 0#32 A l c w hB hc hm
theorem sL(A:Option Addr)(l:List UInt8)(c:Nat)(w:World)(hB:Bytes w A l)(hc:l.length≤c)(hm:c≤9223372036854775807):
  Calls prog 113 #[.slice A l.length c] w fun e w'=>
   e= .returned (.int .u32 (gL 0#32 l).toNat)∧Below w.heap.size w w':=by
 go_enter func113,ntmps113;go_wp2_with fail;refine(Em A l c _ hB hc hm).mono ?_;rintro e w' ⟨rfl,hb⟩;go_wp2_with fail;go_ret;exact⟨rfl,hb⟩
end C3
namespace TM
def Kb:BitVec 64:=14514072000185962306#64
theorem abS(a b:BitVec 64):bits .xor .u64 (a.toNat:Int) (b.toNat:Int)=((a ^^^ b).toNat:Int):=by rw[u64_xor_nat _ _ a.isLt b.isLt,BitVec.toNat_xor]
theorem TF(a:BitVec 64):bits .and .u64 (a.toNat:Int) 1=((a.toNat%2:Nat):Int):=by rw[show(1:Int)=((1:Nat):Int)from rfl,u64_and_nat _ _ a.isLt aa,nat_mask1]
theorem TG(a:BitVec 64):a.getLsbD 0=decide (a.toNat%2=1):=by rw[BitVec.getLsbD,Nat.testBit_zero]
theorem TH(a:BitVec 64):(a.toNat:Int)/(2:Int)=((a >>> 1).toNat:Int):=by rw[BitVec.toNat_ushiftRight,Nat.shiftRight_eq_div_pow];simp
theorem J7(x:BitVec 64)(h:(bits .and .u64 (x.toNat:Int) 1==1)=true):bits .xor .u64 ((x.toNat:Int)/2) 14514072000185962306=((cK.s1 Kb x).toNat:Int):=by
 have h1:x.getLsbD 0=true:=by rw[TF]at h;rw[TG];simp at h ⊢;omega
 rw[TH,show(14514072000185962306:Int)=((Kb.toNat:Nat):Int)from rfl,abS];unfold cK.s1;rw[h1];simp
theorem TI(x:BitVec 64)(h:(bits .and .u64 (x.toNat:Int) 1==1)=false):(x.toNat:Int)/2=((cK.s1 Kb x).toNat:Int):=by
 have h1:x.getLsbD 0=false:=by rw[TF]at h;rw[TG];simp at h ⊢;omega
 rw[TH];unfold cK.s1;rw[h1];simp
def jG:Array Value:=Array.replicate 256 (.int .u64 0)
theorem m_:(prog.info? 274).map (fun i=>(i.zero,i.size))=some (some (.agg jG),256):=ai
theorem En:(prog.info? 274).map (·.size)=some 256:=ai
def T(j:Nat):BitVec 64:=cK.sn Kb 8 (BitVec.ofNat 64 j)
def ga(k j:Nat):Value:=if j<k then .int .u64 (T j).toNat else .int .u64 0
def tabs:Array Value:=((List.range 256).map fun i=>Value.int .u64 (T i).toNat).toArray
theorem pA{k j:Nat}(h:j<k):ga k j= .int .u64 (T j).toNat:=by unfold ga;rw[if_pos h]
theorem tj(k:Nat): ∀i,(if i=k then Value.int .u64 (T k).toNat else ga k i)=ga (k+1) i:=by
 intro i;unfold ga;by_cases h:i=k;·subst h;simp
 ·by_cases h2:i<k;·simp[h,h2,show i<k+1 by omega]
  ·simp[h,h2,show ¬i<k+1 by omega]
theorem tk(w:World):(w.alloc (.cells jG 274)).rowIs w.heap.size 274 256 (ga 0):=by
 have h:=World.rowIs_alloc w jG 274 (ga 0) (fun i hi=>by
  unfold jG at hi ⊢;rw[Array.getElem?_replicate,if_pos iZ];simp[ga])
 have e:jG.size=256:=by simp[jG]
 rwa [e]at h
theorem xj{cs:Array Value}(hn:cs.size=256)(hv: ∀i,i<256→cs[i]? =some (ga 256 i)):cs=tabs:=by
 apply Array.ext_getElem?;intro i;by_cases hi:i<256;·rw[hv i hi,pA aa];unfold tabs;rw[List.getElem?_toArray,List.getElem?_map,List.getElem?_range hi];rfl
 ·rw[Array.getElem?_eq_none aa,Array.getElem?_eq_none (by simp[tabs];omega)]
theorem tm:tabs.all (·.oneCell')=true:=by unfold tabs;rw[List.all_toArray,List.all_map,List.all_eq_true];intro x _;rfl
theorem mK:tabs.size=256:=by simp[tabs]
theorem uO(h:w.heap[g]? =some (.cells tabs t fr))(i:Nat)(hi:i<256):w.cell? ⟨g,i,none⟩=some (.int .u64 (T i).toNat):=by rw[cell_of_row w g i tabs t fr h];unfold tabs;rw[List.getElem?_toArray,List.getElem?_map,List.getElem?_range hi];rfl
theorem Ow(k:Nat)(h:k<256):(k:Int)=((BitVec.ofNat 64 k).toNat:Int):=by rw[BitVec.toNat_ofNat];omega
theorem J8(w:World):
  Calls prog 198 #[] w fun e w'=>e= .returned (.agg tabs)∧Below w.heap.size w w':=by
 have hz:=(zero_of_info m_).1;go_enter func198,ntmps198;go_wp2_with fail;have h0:((w.alloc (.cells jG 274)).alloc (.cells jG 274)).rowIs w.heap.size 274 256 (ga 0):=(tk w).alloc _;have h1:((w.alloc (.cells jG 274)).alloc (.cells jG 274)).rowIs (w.heap.size+1) 274 256 (ga 0):=by have:=tk (w.alloc (.cells jG 274));simpa using this
 have hb:Below w.heap.size w ((w.alloc (.cells jG 274)).alloc (.cells jG 274)):=(ar).alloc ag _;generalize(w.alloc (.cells jG 274)).alloc (.cells jG 274)=w1 at*;generalize hg:w.heap.size+1=g at*;have kz:w.heap.size<g:=aa;have HG:=ae hg;clear hg;go_loopw [5] (fun i wr=> ∃k:Nat,k≤256∧i= .int .i64 k∧wr.rowIs w.heap.size 274 256 (ga 0)∧wr.rowIs g 274 256 (ga k)∧Below w.heap.size w wr) (fun i _=>256-(intOf i).toNat);case atStart=>exact⟨0,aa,rfl,h0,h1,hb⟩
 case round=>
  obtain⟨k,hk,rfl,r0,r1,rb⟩:=hrel;by_cases h:k<256
  ·have hc:=r1.cell (i:=k) aa;have hf:=r1.frozen k;go_wp2_with fail;obtain⟨wo,rfl⟩: ∃wo:World,wo=wr:=⟨_,rfl⟩
   go_loop [3,10] (fun a i=> ∃j:Nat,j≤8∧i= .int .i64 j∧a= .int .u64 (cK.sn Kb j (BitVec.ofNat 64 k)).toNat) (fun _ i=>8-(intOf i).toNat);case atStart=>exact⟨0,aa,rfl,by rw[Ow k h];rfl⟩
   case round=>
    obtain⟨j,hj,rfl,rfl⟩:=hrel;by_cases h8:j<8
    ·have hs:=ae (cK.GA Kb j (BitVec.ofNat 64 k));generalize cK.sn Kb j (BitVec.ofNat 64 k)=x at*;go_wp2_with fail
     ·go_round;case rel=>exact⟨j+1,aa,aE,by rw[hs.out,←J7 x rk]⟩
      case measure=>simp[intOf];omega
     ·go_round;case rel=>exact⟨j+1,aa,aE,by rw[hs.out,←TI x rk]⟩
      case measure=>simp[intOf];omega
    ·obtain rfl:j=8:=(by omega);go_wp2_with fail;go_roundw;case rel=>refine⟨k+1,aa,aE,r0.setOther av _,?_,rb.setCell av _⟩;exact(r1.set k _).congr fun i _=>tj k i
     case measure=>simp[intOf];omega
  ·obtain rfl:k=256:=(by omega);obtain⟨cs,hcs,hn,hv⟩:=r1;obtain⟨os,B6,ya,hvo⟩:=r0;obtain rfl:=xj hn hv;go_wp2_with (first | (refine wpList_load_row rfl 274 _ rfl g rfl 274 tabs _ _ hcs underlying274 rfl ?c1 ?_) | (refine wpList_store_row rfl 274 _ _ rfl w.heap.size tabs rfl rfl 274 os B6 ?c2 ?c3 ?c4 ?_))
   case c1=>rw[En,hn]
   case c2=>rw[En,hn]
   case c3=>rw[ya,hn]
   case c4=>exact tm
   refine bodyPost_ret (results_cell_row rfl _ _ w.heap.size 274 tabs _ _ rfl (setRow_heap _ _ _ _ _ _ B6) underlying274 rfl (by rw[En,hn])) rfl ?_;exact⟨rfl,below_setRow rb (Nat.le_refl _) _⟩
theorem TN(a:BitVec 64):bits .xor .u64 IntKind.u64.max (a.toNat:Int)=((~~~a).toNat:Int):=by rw[show IntKind.u64.max=(((BitVec.allOnes 64).toNat:Nat):Int)from rfl,abS,BitVec.allOnes_xor]
structure rN(w0:World)(g:Nat)(w:World):Prop where
 tab: ∀i,i<256→w.cell? ⟨g,i,none⟩=some (.int .u64 (T i).toNat)
 below:Below w0.heap.size w0 w
theorem tl(b:UInt8):(cK.ext 64 b).toNat=b.toNat:=by have:=b.toNat_lt;unfold cK.ext;simp only[BitVec.toNat_setWidth,UInt8.toNat_toBitVec];omega
theorem zq(x:BitVec 64)(v:UInt8)(m:Nat)(hm:m=(x.toNat%256) ^^^ v.toNat):bits .xor .u64 ((x.toNat:Int)/256) ((T m).toNat:Int)=((cK.V8 Kb x v).toNat:Int):=by
 have e:(x.toNat:Int)/(256:Int)=((x >>> 8).toNat:Int):=by rw[BitVec.toNat_ushiftRight,Nat.shiftRight_eq_div_pow];simp
 have hl:cK.low (x ^^^ cK.ext 64 v)=BitVec.ofNat 64 m:=by unfold cK.low;apply BitVec.eq_of_toNat_eq;have hv:=v.toNat_lt;simp only[BitVec.toNat_setWidth,BitVec.toNat_ofNat,BitVec.toNat_xor,tl];rw[Nat.xor_mod_two_pow (n:=8),hm,Nat.mod_eq_of_lt (show v.toNat<2^8 by omega)]
 have hs:(x ^^^ cK.ext 64 v) >>> 8=x >>> 8:=by apply BitVec.eq_of_getLsbD_eq;intro i _;rw[BitVec.getLsbD_ushiftRight,BitVec.getLsbD_ushiftRight,BitVec.getLsbD_xor,cK.Ek 64 v _ aa];simp
 rw[e,abS];unfold cK.V8;rw[cK.xg,hs,hl];rfl
theorem zt(x:BitVec 64)(v:UInt8): ∃m:Nat,m<256∧m=(x.toNat%256) ^^^ v.toNat∧bits .xor .u8 ((x.toNat:Int)%256) (v.toNat:Int)=(m:Int):=by have hv:=v.toNat_lt;refine⟨_,Nat.xor_lt_two_pow (n:=8) (show x.toNat%256<2^8 by omega) (show v.toNat<2^8 by omega),rfl,?_⟩;rw[show(x.toNat:Int)%256=((x.toNat%256:Nat):Int)from aa,u8_xor_nat _ _ aa aa]
theorem uP(x:BitVec 64)(l:List UInt8)(k:Nat)(h:k<l.length):cK.iQ Kb x (l.take (k+1))=cK.V8 Kb (cK.iQ Kb x (l.take k)) l[k]:=by rw[List.take_succ_eq_append_getElem h,cK.vU];rfl
def gL(s:BitVec 64)(l:List UInt8):BitVec 64:= ~~~ cK.iQ Kb (~~~ s) l
theorem za(s:BitVec 64)(A:Option Addr)(l:List UInt8)(c:Nat)(w:World)(hB:Bytes w A l)(hc:l.length≤c)(hm:c≤9223372036854775807):
  Calls prog 155 #[.int .u64 s.toNat,.slice A l.length c] w fun e w'=>
   e= .returned (.int .u64 (gL s l).toNat)∧Below w.heap.size w w':=by
 have hz:=(zero_of_info m_).1;go_enter func155,ntmps155;go_wp2_with fail;refine(J8 w).mono ?_;rintro e w1 ⟨rfl,az⟩;go_wp2_with (refine wpList_store_row rfl 274 _ _ rfl w1.heap.size tabs rfl rfl 274 jG (heap_alloc_last _ _) ?c2 ?c3 ?c4 ?_)
 case c2=>rw[En,mK]
 case c3=>rw[mK];simp[jG]
 case c4=>exact tm
 rw[World.setRow_alloc_new,TN];have hT:rN w w1.heap.size (w1.alloc (.cells tabs 274)):=⟨uO (heap_alloc_last _ _),az.alloc az.size _⟩
 have eW:=hB.below hT.below;generalize w1.alloc (.cells tabs 274)=w2 at*;generalize w1.heap.size=g at*;clear az hz hB;generalize nV: ~~~s=x0;have Na:=ae nV;clear nV;go_loop [6,14] (fun reg i=> ∃k:Nat,k≤l.length∧i= .int .i64 k∧reg= .int .u64 (cK.iQ Kb x0 (l.take k)).toNat) (fun _ i=>l.length-(intOf i).toNat);case atStart=>exact⟨0,aa,rfl,by simp[cK.iQ]⟩
 case round=>
  obtain⟨k,hk,rfl,rfl⟩:=hrel;by_cases aH:k<l.length
  ·obtain⟨b,off,rfl,_,hcell⟩:=eW.addr aa;have tR:=hcell k aH;have hs:=ae (uP x0 l k aH);generalize cK.iQ Kb x0 (l.take k)=y at*;obtain⟨m,BV,wT,hmw⟩:=zt y l[k];have Me:=hT.tab m aa;have Hmv:=ae wT;clear wT;have i0:(m:Int)<256:=aa;generalize l[k]=v at*;clear hcell;go_wp2_with fail;go_round;case rel=>exact⟨k+1,aa,aE,by rw[hs.out,←zq y v m Hmv.out]⟩
   case measure=>simp[intOf];omega
  ·obtain rfl:k=l.length:=(by omega);go_wp2_with fail;go_ret;have GC:bits .xor .u64 IntKind.u64.max ((cK.iQ Kb x0 l).toNat:Int)=((gL s l).toNat:Int):=(by rw[TN,←Na.out];rfl);exact⟨congrArg (fun n:Int=>Ending.returned (Value.int .u64 n)) GC,hT.below⟩
end TM
namespace TM
end TM
namespace TM
theorem Em(A:Option Addr)(l:List UInt8)(c:Nat)(w:World)(hB:Bytes w A l)(hc:l.length≤c)(hm:c≤9223372036854775807):
  Calls prog 155 #[.int .u64 0,.slice A l.length c] w fun e w'=>
   e= .returned (.int .u64 (gL 0#64 l).toNat)∧Below w.heap.size w w':=za 0#64 A l c w hB hc hm
theorem sL(A:Option Addr)(l:List UInt8)(c:Nat)(w:World)(hB:Bytes w A l)(hc:l.length≤c)(hm:c≤9223372036854775807):
  Calls prog 115 #[.slice A l.length c] w fun e w'=>
   e= .returned (.int .u64 (gL 0#64 l).toNat)∧Below w.heap.size w w':=by
 go_enter func115,ntmps115;go_wp2_with fail;refine(Em A l c _ hB hc hm).mono ?_;rintro e w' ⟨rfl,hb⟩;go_wp2_with fail;go_ret;exact⟨rfl,hb⟩
end TM
theorem abT(w:World)(r clock:Nat)(k:Int)(es:Array MapEntry)(v:Value)(hb:w.heap[r]? =some (.map es clock))(hf:Instr.findNow (.int .i64) (.int .i64 k) es.toList 0=some none):
  (Instr.mapUpdate 113 (.map (some r)) (.int .i64 k) v).run prog w= .ok () {w with heap:=w.heap.setIfInBounds r (.map (es.push {key:= .int .i64 k,val:=v,born:=clock}) (clock+1))}:=by
 have hc:(Instr.checkKey false 10000 3 (.int .i64 k)).run prog w= .ok () w:=MapKept.run_checkKey (k:= .int .i64 k) underlying3 (by simp[MapKept.IsKey]) false 9999;simp[Instr.mapUpdate,run_underlying underlying113,MapKept.run_getObj_map hb,hc,MapKept.run_findKey underlying3 hf,MapKept.run_setObj_map _ hb,Result.andThen]
def ma:Array MapEntry:= #[⟨.int .i64 0,.func (.func 111) #[] #[],0⟩,⟨.int .i64 1,.func (.func 112) #[] #[],1⟩,⟨.int .i64 4,.func (.func 114) #[] #[],2⟩,⟨.int .i64 10,.func (.func 116) #[] #[],3⟩]
theorem xk{W:World}{r:Nat}{es:Array MapEntry}(k:Int)(v:Value)(hb:W.heap[r]? =some (.map es c))(hf:Instr.findNow (.int .i64) (.int .i64 k) es.toList 0=some none)(hB:Below w.heap.size w W)(hr:w.heap.size≤r):
  ∃W',(Instr.mapUpdate 113 (.map (some r)) (.int .i64 k) v).run prog W= .ok () W'∧W'.heap[r]? =some (.map (es.push {key:= .int .i64 k,val:=v,born:=c}) (c+1))∧Below w.heap.size w W':=by
 refine⟨_,abT W r c k es v hb hf,(MapKept.heap_set hb).1,?_⟩;exact⟨hB.os,hB.tape,hB.output,by simpa using hB.size,fun i hi=>((MapKept.heap_set hb).2 i aa).trans (hB.block i hi)⟩
def TQ(w:World)(e:Ending)(w':World):Prop:= ∃r,e= .returned (.map (some r))∧w'.heap[r]? =some (.map ma 4)∧w.heap.size≤r∧Below w.heap.size w w'
theorem kY(w:World):Calls prog 76 #[] w (TQ w):=by have IH:=run_makeMap (P:=prog) 113 w;have b0:=(MapKept.heap_alloc w (.map #[] 0)).1;have B0:Below w.heap.size w (w.alloc (.map #[] 0)):=ar;generalize w.alloc (.map #[] 0)=W0 at*;obtain⟨W1,i1,b1,B1⟩:=xk 0 (.func (.func 111) #[] #[]) b0 rfl B0 (Nat.le_refl _);obtain⟨W2,i2,b2,B2⟩:=xk 1 (.func (.func 112) #[] #[]) b1 rfl B1 (Nat.le_refl _);obtain⟨W3,i3,b3,B3⟩:=xk 4 (.func (.func 114) #[] #[]) b2 rfl B2 (Nat.le_refl _);obtain⟨W4,i4,b4,B4⟩:=xk 10 (.func (.func 116) #[] #[]) b3 rfl B3 (Nat.le_refl _);have iV:=ae b4;clear b0 b1 b2 b3 b4;go_enter func76,ntmps76;go_wp2_with fail;go_ret;exact⟨w.heap.size,rfl,iV.out,Nat.le_refl _,B4⟩
theorem nz(w:World)(r:Nat)(id:Int)(hb:w.heap[r]? =some (.map ma 4))(a:Option (Nat×Value))(hf:Instr.findNow (.int .i64) (.int .i64 id) ma.toList 0=some a):
  (Instr.lookup 113 (.map (some r)) (.int .i64 id) true).run prog w= .ok (.tuple #[(a.map (·.2)).getD .nilFunc,.bool a.isSome]) w:=by
 have hz:(zeroValue 111).run prog w= .ok .nilFunc w:=ai;have hc: ∀e,(Instr.checkKey e 10000 3 (.int .i64 id)).run prog w= .ok () w:=fun e=>MapKept.run_checkKey (k:= .int .i64 id) underlying3 (by simp[MapKept.IsKey]) e 9999;cases a<;>simp[Instr.lookup,run_underlying underlying113,MapKept.run_getObj_map hb,hc,MapKept.run_findKey underlying3 hf,hz,Result.andThen]
def bG(c:Int):Bool:=c==0||c==1||c==4||c==10
theorem CA:Instr.findNow (.int .i64) (.int .i64 0) ma.toList 0=some (some (0,.func (.func 111) #[] #[])):=rfl
theorem uQ:Instr.findNow (.int .i64) (.int .i64 1) ma.toList 0=some (some (1,.func (.func 112) #[] #[])):=rfl
theorem CB:Instr.findNow (.int .i64) (.int .i64 4) ma.toList 0=some (some (2,.func (.func 114) #[] #[])):=rfl
theorem zu:Instr.findNow (.int .i64) (.int .i64 10) ma.toList 0=some (some (3,.func (.func 116) #[] #[])):=rfl
theorem nA(c k:Int)(h:c≠k):Instr.sameNow (.int .i64) (.int .i64 c) (.int .i64 k)=some false:=by simp[Instr.sameNow,h]
theorem zv(c:Int)(h:bG c=false):Instr.findNow (.int .i64) (.int .i64 c) ma.toList 0=some none:=by simp[bG]at h;obtain⟨⟨⟨h0,h1⟩,h4⟩,Cw⟩:=h;simp[ma,Instr.findNow,nA _ _ h0,nA _ _ h1,nA _ _ h4,nA _ _ Cw]
def iJ(c:Int)(l:List UInt8):List UInt8:=if c=1 then iP (C3.gL 0#32 l).toNat 4 else if c=4 then iP (TM.gL 0#64 l).toNat 8 else if c=10 then(St.new.fK l).jf else []
def cM(c:Int):Nat:=if c=1 then 4 else if c=4 then 8 else if c=10 then 32 else 0
theorem eN(c:Int)(l:List UInt8):(iJ c l).length=cM c:=by
 unfold iJ cM;split;·exact fO _ _
 ·split;·exact fO _ _
  ·split;·exact l5 _
   ·rfl
theorem abU(g:Nat)(w:World):(Instr.sliceAt 148 (.pointer (some ⟨g,0,none⟩)) none none none).run prog w= .ok (.slice (some ⟨g,0,none⟩) 32 32) w:=by have ha:prog.arrayLen 148=32:=ai;have hu:prog.underlying 148=some (.array (prog.arrayLen 148) (prog.elem 148)):=ai;have hs:(sizeOf (prog.elem 148)).run prog w= .ok 1 w:=ai;rw[run_sliceAt_array_all w 148 ⟨g,0,none⟩ hu,hs,ha];simp[Result.andThen,slicedAt];unfold Addr.add;split<;>simp_all
theorem bg(w:World):Below w.heap.size w w.drew:=(Below.refl _ _).drew
theorem abV(v:Value)(w:World):Calls prog 111 #[v] w (bF w []):=by go_enter func111,ntmps111;go_wp2_with fail;go_ret;exact⟨none,0,rfl,ag,aa,.nil,Below.refl _ _⟩
theorem TR(A:Option Addr)(l:List UInt8)(c:Nat)(w:World)(hB:Bytes w A l)(hc:l.length≤c)(hm:c≤9223372036854775807):Calls prog 112 #[.slice A l.length c] w (bF w (iP (C3.gL 0#32 l).toNat 4)):=by have HS:=ae (C3.sL A l c w hB hc hm);have hx:=(C3.gL 0#32 l).isLt;generalize(C3.gL 0#32 l).toNat=x at*;have HL:=ae (fun w=>kX x 4 aa aa w);have nV:(0:Int)≤(x:Int):=aa;have jA:(x:Int)<4294967296:=aa;go_enter func112,ntmps112;go_wp2_with fail;refine HS.out.mono ?_;rintro e w1 ⟨rfl,az⟩;go_wp2_with fail;refine(HL.out w1).mono ?_;rintro e w2 hd;obtain⟨A2,c2,rfl,cU,fJ,fC,aD⟩:=hd.bytes;go_wp2_with fail;go_ret;exact⟨A2,c2,rfl,cU,fJ,fC,aM az aD⟩
theorem abW(A:Option Addr)(l:List UInt8)(c:Nat)(w:World)(hB:Bytes w A l)(hc:l.length≤c)(hm:c≤9223372036854775807):Calls prog 114 #[.slice A l.length c] w (bF w (iP (TM.gL 0#64 l).toNat 8)):=by have HS:=ae (TM.sL A l c w hB hc hm);have hx:=(TM.gL 0#64 l).isLt;generalize(TM.gL 0#64 l).toNat=x at*;have HL:=ae (fun w=>kX x 8 aa aa w);go_enter func114,ntmps114;go_wp2_with fail;refine HS.out.mono ?_;rintro e w1 ⟨rfl,az⟩;go_wp2_with fail;refine(HL.out w1).mono ?_;rintro e w2 hd;obtain⟨A2,c2,rfl,cU,fJ,fC,aD⟩:=hd.bytes;go_wp2_with fail;go_ret;exact⟨A2,c2,rfl,cU,fJ,fC,aM az aD⟩
theorem abX(A:Option Addr)(l:List UInt8)(c:Nat)(w:World)(hT:jg w)(hB:Bytes w A l)(hc:l.length≤c)(hm:c≤9223372036854775807)(hn:l.length≤100000000):Calls prog 116 #[.slice A l.length c] w (bF w (St.new.fK l).jf):=by
 have HS:=ae (Nf A l c w hT hB hc hm hn);have YC:(St.new.fK l).jf.length=32:=l5 _;have ae7:=(zero_of_info yg).1;generalize(St.new.fK l).jf=D at*;go_enter func116,ntmps116;go_wp2_with fail;refine HS.out.mono ?_;rintro e w2 ⟨rfl,aD⟩;have ij:=heap_alloc_last w2 (.cells aZ 148);have nd:=World.setRow_alloc_new w2 aZ (D.map B8).toArray 148;have dl:((prog.info? 148).map (·.size))=some (D.map B8).toArray.size:=by rw[p9];simp[YC]
 have hzz:aZ.size=(D.map B8).toArray.size:=by simp[YC,aZ]
 have oR:(D.map B8).toArray.all (·.oneCell')=true:=all_oneCell_toArray (lU _);have ln:Bytes (w2.alloc (.cells (D.map B8).toArray 148)) (some ⟨w2.heap.size,0,none⟩) D:= .inr ⟨_,_,rfl,ag,fun k hk=>by
  rw[cell_of_row _ _ _ _ _ _ (heap_alloc_last _ _),Nat.zero_add,List.getElem?_toArray,List.getElem?_map,List.getElem?_eq_getElem hk];rfl⟩
 have bA:=aD.trans ((bt w2 (.cells (D.map B8).toArray 148)).mono aD.size);have gF:=ae ln;have yh:=ae nd;have Se:=ae YC;have k:=fun w=>abU w2.heap.size w;generalize(D.map B8).toArray=DV at*;clear nd ln YC aD;go_wp2_with (refine wpList_store_row rfl 148 _ _ rfl w2.heap.size DV rfl rfl 148 aZ ij dl hzz oR ?_;rw[yh.out])
 go_ret;exact⟨some ⟨w2.heap.size,0,none⟩,32,by rw[Se.out];rfl,by rw[Se.out];omega,aa,gF.out,bA⟩
theorem nB(c:Int):c=0∨c=1∨c=4∨c=10∨bG c=false:=by
 unfold bG;by_cases h0:c=0;·exact .inl h0
 by_cases h1:c=1;·exact .inr (.inl h1)
 by_cases h4:c=4;·exact .inr (.inr (.inl h4))
 by_cases Cw:c=10;·exact .inr (.inr (.inr (.inl Cw)))
 ·simp[h0,h1,h4,Cw]
theorem kZ(c:Int)(w:World):Calls prog 45 #[.int .i64 c] w fun e w'=>e= .returned (.bool (bG c))∧Below w.heap.size w w':=by
 have key: ∀(a:Option (Nat×Value)) (v:Value) (b:Bool),Instr.findNow (.int .i64) (.int .i64 c) ma.toList 0=some a→(a.map (·.2)).getD .nilFunc=v→a.isSome=b→bG c=b→
   Calls prog 45 #[.int .i64 c] w fun e w'=>e= .returned (.bool b)∧Below w.heap.size w w':=by
  intro a v b hf hv hb _;go_enter func45,ntmps45;go_wp2_with fail;refine(kY w).mono ?_;rintro e w1 ⟨r,rfl,hm,hr,az⟩;have k:=nz w1 r c hm a hf;rw[hv,hb]at k;clear hf hv hb hm;go_wp2_with fail;go_ret;exact⟨rfl,az⟩
 rcases nB c with rfl | rfl | rfl | rfl | h;·exact key _ _ _ CA rfl rfl rfl
 ·exact key _ _ _ uQ rfl rfl rfl
 ·exact key _ _ _ CB rfl rfl rfl
 ·exact key _ _ _ zu rfl rfl rfl
 ·rw[h];exact key _ _ _ (zv c h) rfl rfl h
theorem nC(c:Int)(A:Option Addr)(l:List UInt8)(cap:Nat)(w:World)(hT:jg w)(hB:Bytes w A l)(hc:l.length≤cap)(hm:cap≤9223372036854775807)(hn:l.length≤100000000):
  Calls prog 39 #[.int .i64 c,.slice A l.length cap] w (bF w (iJ c l)):=by
 rcases nB c with rfl | rfl | rfl | rfl | h;·have HT:=ae hT;clear hT;show Calls _ _ _ _ (bF w []);go_enter func39,ntmps39;go_wp2_with fail;refine(kY w).mono ?_;rintro e w1 ⟨r,rfl,i9,hr,az⟩;have k:(Instr.lookup 113 (.map (some r)) (.int .i64 0) true).run prog w1= .ok (.tuple #[.func (.func 111) #[] #[],.bool true]) w1:=nz w1 r 0 i9 _ CA;have eW:=hB.below az;have sh:=HT.out.below az;have M6:=ae (abV (.slice A l.length cap) w1);clear i9 sh eW hB;go_wp2_with fail;refine M6.out.mono ?_;rintro e w2 ⟨A2,c2,rfl,cU,fJ,fC,aD⟩;go_wp2_with fail;go_ret;exact⟨A2,c2,rfl,cU,fJ,fC,aM az aD⟩
 ·have HT:=ae hT;clear hT;show Calls _ _ _ _ (bF w (iP (C3.gL 0#32 l).toNat 4));go_enter func39,ntmps39;go_wp2_with fail;refine(kY w).mono ?_;rintro e w1 ⟨r,rfl,i9,hr,az⟩;have k:(Instr.lookup 113 (.map (some r)) (.int .i64 1) true).run prog w1= .ok (.tuple #[.func (.func 112) #[] #[],.bool true]) w1:=nz w1 r 1 i9 _ uQ;have eW:=hB.below az;have sh:=HT.out.below az;have M6:=ae (TR A l cap w1 eW hc hm);clear i9 sh eW hB;go_wp2_with fail;refine M6.out.mono ?_;rintro e w2 ⟨A2,c2,rfl,cU,fJ,fC,aD⟩;go_wp2_with fail;go_ret;exact⟨A2,c2,rfl,cU,fJ,fC,aM az aD⟩
 ·have HT:=ae hT;clear hT;show Calls _ _ _ _ (bF w (iP (TM.gL 0#64 l).toNat 8));go_enter func39,ntmps39;go_wp2_with fail;refine(kY w).mono ?_;rintro e w1 ⟨r,rfl,i9,hr,az⟩;have k:(Instr.lookup 113 (.map (some r)) (.int .i64 4) true).run prog w1= .ok (.tuple #[.func (.func 114) #[] #[],.bool true]) w1:=nz w1 r 4 i9 _ CB;have eW:=hB.below az;have sh:=HT.out.below az;have M6:=ae (abW A l cap w1 eW hc hm);clear i9 sh eW hB;go_wp2_with fail;refine M6.out.mono ?_;rintro e w2 ⟨A2,c2,rfl,cU,fJ,fC,aD⟩;go_wp2_with fail;go_ret;exact⟨A2,c2,rfl,cU,fJ,fC,aM az aD⟩
 ·have HT:=ae hT;clear hT;show Calls _ _ _ _ (bF w (St.new.fK l).jf);go_enter func39,ntmps39;go_wp2_with fail;refine(kY w).mono ?_;rintro e w1 ⟨r,rfl,i9,hr,az⟩;have k:(Instr.lookup 113 (.map (some r)) (.int .i64 10) true).run prog w1= .ok (.tuple #[.func (.func 116) #[] #[],.bool true]) w1:=nz w1 r 10 i9 _ zu;have eW:=hB.below az;have sh:=HT.out.below az;have M6:=ae (abX A l cap w1 sh eW hc hm hn);clear i9 sh eW hB;go_wp2_with fail;refine M6.out.mono ?_;rintro e w2 ⟨A2,c2,rfl,cU,fJ,fC,aD⟩;go_wp2_with fail;go_ret;exact⟨A2,c2,rfl,cU,fJ,fC,aM az aD⟩
 ·have hs:iJ c l=[]:=by simp[bG]at h;unfold iJ;rw[if_neg aa,if_neg aa,if_neg aa]
  rw[hs];have HF:=ae (zv c h);go_enter func39,ntmps39;go_wp2_with fail;refine(kY w).mono ?_;rintro e w1 ⟨r,rfl,i9,hr,az⟩;have k:(Instr.lookup 113 (.map (some r)) (.int .i64 c) true).run prog w1= .ok (.tuple #[.nilFunc,.bool false]) w1:=nz w1 r c i9 _ HF.out;clear i9;go_wp2_with fail;go_ret;exact⟨none,0,rfl,ag,aa,.nil,az⟩
theorem TS(c:Int)(w:World)(hT:jg w):Calls prog 96 #[.int .i64 c] w fun e w'=>e= .returned (.int .i64 (cM c:Nat))∧Below w.heap.size w w':=by have HS:=ae (nC c none [] 0 w hT .nil ag aa ag);have HL:=ae (eN c []);generalize iJ c []=L at*;go_enter func96,ntmps96;go_wp2_with fail;refine HS.out.mono ?_;rintro e w1 ⟨A,c1,rfl,cC,i9,eW,az⟩;go_wp2_with fail;go_ret;exact⟨by rw[HL.out];rfl,az⟩
def uR(c:Int):Int:=if bG c then(cM c:Int)else -1
theorem Ox(c:Int)(w:World):Calls prog 52 #[.int .i64 c] w fun e w'=>e= .returned (.int .i64 (uR c))∧w=w':=by
 rcases nB c with rfl | rfl | rfl | rfl | h;·go_enter func52,ntmps52;go_wp2_with fail;go_ret;exact⟨rfl,rfl⟩
 ·go_enter func52,ntmps52;go_wp2_with fail;go_ret;exact⟨rfl,rfl⟩
 ·go_enter func52,ntmps52;go_wp2_with fail;go_ret;exact⟨rfl,rfl⟩
 ·go_enter func52,ntmps52;go_wp2_with fail;go_ret;exact⟨rfl,rfl⟩
 ·have hr:uR c= -1:=by unfold uR;rw[h];rfl
  rw[hr];simp[bG]at h;obtain⟨⟨⟨h0,h1⟩,h4⟩,Cw⟩:=h;have e0:(c==0)=false:=by simpa using h0
  have e1:(c==1)=false:=by simpa using h1
  have e4:(c==4)=false:=by simpa using h4
  have e10:(c==10)=false:=by simpa using Cw
  clear h0 h1 h4 Cw hr;go_enter func52,ntmps52;go_wp2_with fail;go_ret;exact⟨rfl,rfl⟩
def eL(l:List UInt8):List UInt8:=iP (C3.gL 0#32 l).toNat 4
theorem bX(l:List UInt8):(eL l).length=4:=fO _ _
theorem mL(A:Option Addr)(l:List UInt8)(cap:Nat)(w:World)(hB:Bytes w A l)(hc:l.length≤cap)(hm:cap≤9223372036854775807):
  Calls prog 39 #[.int .i64 1,.slice A l.length cap] w (bF w (eL l)):=by
 show Calls _ _ _ _ (bF w (iP (C3.gL 0#32 l).toNat 4));go_enter func39,ntmps39;go_wp2_with fail;refine(kY w).mono ?_;rintro e w1 ⟨r,rfl,i9,hr,az⟩;have k:(Instr.lookup 113 (.map (some r)) (.int .i64 1) true).run prog w1= .ok (.tuple #[.func (.func 112) #[] #[],.bool true]) w1:=nz w1 r 1 i9 _ uQ;have eW:=hB.below az;have M6:=ae (TR A l cap w1 eW hc hm);clear i9 eW hB;go_wp2_with fail;refine M6.out.mono ?_;rintro e w2 ⟨A2,c2,rfl,cU,fJ,fC,aD⟩;go_wp2_with fail;go_ret;exact⟨A2,c2,rfl,cU,fJ,fC,aM az aD⟩
def kp(w:World)(g:Nat)(L:List UInt8):Prop:= ∀i (h:i<L.length),w.cell? ⟨g,i,none⟩=some (B8 L[i])∧w.frozen? ⟨g,i,none⟩=false
def uW(w:World)(L:List UInt8)(e:Ending)(w':World):Prop:= ∃g cap,e= .returned (.slice (some ⟨g,0,none⟩) L.length cap)∧L.length≤cap∧cap≤9223372036854775807∧w.heap.size≤g∧g<w'.heap.size∧kp w' g L∧Below w.heap.size w w'
theorem kp.bytes{L:List UInt8}(h:kp w g L)(hg:g<w.heap.size):Bytes w (some ⟨g,0,none⟩) L:= .inr ⟨g,0,rfl,hg,fun k hk=>by rw[Nat.zero_add];exact(h k hk).1⟩
theorem dq{A:Option Addr}(h:Bytes w A l):Lib.HoldsBytes w (.slice A l.length c) l:=by
 refine⟨A,c,rfl,fun e=> ?_,fun a e i x hx=> ?_⟩
 ·rcases h with h | ⟨b,off,h,_⟩
  ·exact h
  ·rw[e]at h;cases h
 ·rcases h with h | ⟨b,off,h,_,hc⟩
  ·subst h;simp at hx
  ·rw[e]at h;injection h with h;subst h
   have hi:i<l.length:=by
    rcases Nat.lt_or_ge i l.length with h | h;·exact h
    ·rw[List.getElem?_eq_none h]at hx;cases hx
   rw[List.getElem?_eq_getElem hi]at hx;injection hx with hx;rw[←hx,show(⟨b,off,none⟩:Addr).add i=⟨b,off+i,none⟩from ml];exact hc i hi
theorem kq{B:Nat}{w':World}{v:Value}(h:Lib.FreshBytes B w' v l)(hl:0<l.length):
  ∃g cap,v= .slice (some ⟨g,0,none⟩) l.length cap∧l.length≤cap∧cap≤9223372036854775807∧B≤g∧g<w'.heap.size∧kp w' g l:=by
 obtain⟨g,cap,zs,rfl,hg,si,qn,hz,Wd,hb,hc,hf⟩:=h;refine⟨g,cap,rfl,si,by unfold maxLen at qn;exact qn,hg,?_,fun i hi=>⟨?_,hf i aa⟩⟩;·have:=World.block_lt_of_cell? _ _ (hc 0 aa);simpa using this
 ·rw[hc i aa];have hiz:i<zs.length:=aa;have e:zs.getD i 0=zs[i]:=by simp[List.getD,hiz]
  have VT:=Wd zs[i] (List.getElem_mem _);have qw:l[i]=UInt8.ofNat zs[i].toNat:=by have h2:(Lib.bytesOf (zs.take l.length))[i]? =l[i]? :=(by rw[hb]);rw[List.getElem?_eq_getElem hi]at h2;unfold Lib.bytesOf at h2;rw[List.getElem?_map,List.getElem?_take,if_pos hi,List.getElem?_eq_getElem hiz]at h2;simpa using h2.symm
  rw[e,qw];show some (Value.int .u8 zs[i])=some (Value.int .u8 ((UInt8.ofNat zs[i].toNat).toNat:Nat));rw[UInt8.toNat_ofNat'];congr 2;omega
theorem Ui{A0 A1 A2:Option Addr}{l0 l1 l2:List UInt8}{c0 c1 c2:Nat}(w:World)(h0:Bytes w A0 l0)(h1:Bytes w A1 l1)(h2:Bytes w A2 l2)
  (k0:w.cell? ⟨g,0,none⟩=some (.slice A0 l0.length c0)) (k1:w.cell? ⟨g,1,none⟩=some (.slice A1 l1.length c1)) (k2:w.cell? ⟨g,2,none⟩=some (.slice A2 l2.length c2))
  (L:List UInt8) (hL:l0++l1++l2=L) (hl:L.length≤1000000) (hp:0<L.length):
  Calls prog 24 #[.slice (some ⟨g,0,none⟩) 3 3,.slice none 0 0] w (uW w L):=by
 have hlen:l0.length+l1.length+l2.length=L.length:=by rw[←hL];simp;omega
 have hP:Lib.PartsAt w ⟨g,0,none⟩ [.slice A0 l0.length c0,.slice A1 l1.length c1,.slice A2 l2.length c2] [l0,l1,l2]:=by
  refine⟨rfl,fun i v hv=> ?_,fun i v l hv hl=> ?_⟩
  ·rw[show(⟨g,0,none⟩:Addr).add i=⟨g,i,none⟩from ml];match i with
   | 0=>simp at hv;subst hv;exact k0
   | 1=>simp at hv;subst hv;exact k1
   | 2=>simp at hv;subst hv;exact k2
   | i+3=>simp at hv
  ·match i with
   | 0=>simp at hv hl;subst hv;subst hl;exact dq h0
   | 1=>simp at hv hl;subst hv;subst hl;exact dq h1
   | 2=>simp at hv hl;subst hv;subst hl;exact dq h2
   | i+3=>simp at hv
 refine(fz g 0 3 3 _ [l0,l1,l2] (.slice none 0 0) [] w rfl aa hP aa ⟨none,0,rfl,fun _=>rfl,fun a e=>gw⟩ aa (by simp[Lib.lens];omega)).mono ?_;rintro e w' ⟨v,rfl,hv,hb⟩;have ej:Lib.join [l0,l1,l2] []=L:=by rw[Lib.join_cons,←hL];simp[Lib.joinTail]
 rw[ej]at hv;obtain⟨g',cap,rfl,q1,q2,q3,q4,q5⟩:=kq hv hp;exact⟨g',cap,rfl,q1,q2,q3,q4,q5,hb⟩
def iL:List UInt8:=[253,55,122,88,90,0]
def lO(b:UInt8):List UInt8:=iL++[0,b]++iJ 1 [0,b]
theorem fg(b:UInt8):(lO b).length=12:=by unfold lO iL;simp[eN,cM]
theorem jx(w:World):Calls prog 46 #[] w (qh w iL):=by have ho:Own w.heap.size (w.alloc (.cells #[.int .u8 253,.int .u8 55,.int .u8 122,.int .u8 88,.int .u8 90,.int .u8 0] 5)) (.slice (some ⟨w.heap.size,0,none⟩) 6 6) iL:=Own.lit (base:=w.heap.size) w iL (Nat.le_refl _) (by simp[iL]);go_enter func46,ntmps46;go_wp2_with fail;go_ret;exact⟨_,rfl,ho,bt _ _⟩
theorem gM(w:World):Calls prog 48 #[] w (qh w [89,90]):=by have ho:Own w.heap.size (w.alloc (.cells #[.int .u8 89,.int .u8 90] 5)) (.slice (some ⟨w.heap.size,0,none⟩) 2 2) [89,90]:=Own.lit (base:=w.heap.size) w [89,90] (Nat.le_refl _) ag;go_enter func48,ntmps48;go_wp2_with fail;go_ret;exact⟨_,rfl,ho,bt _ _⟩
def zD(w:World)(L:List UInt8)(e:Ending)(w':World):Prop:= ∃g cap,e= .returned (.tuple #[.slice (some ⟨g,0,none⟩) L.length cap,.int .i64 0])∧L.length≤cap∧cap≤9223372036854775807∧w.heap.size≤g∧g<w'.heap.size∧kp w' g L∧Below w.heap.size w w'
theorem Uj(b:UInt8)(w:World)(hT:jg w)(hf:bG (b.toNat:Nat)=true):Calls prog 22 #[.int .i64 (b.toNat:Nat)] w (zD w (lO b)):=by have HF:=ae (kZ (b.toNat:Nat) w);rw[hf]at HF;have hbt:=b.toNat_lt;have oo:(0:Int)≤(b.toNat:Int):=aa;have az:(b.toNat:Int)<256:=aa;have HT:=ae hT;have Ck:Hid (iL++[0,b]++iJ 1 [0,b]=lO b):=ae rfl;have HLN:=ae (fg b);have We:Hid ((iJ 1 [0,b]).length=4):=ae (eN 1 [0,b]);have vq:IntKind.u8.wrap (b.toNat:Int)=(b.toNat:Int):=wL;generalize lO b=HL at*;clear hT hf;go_enter func22,ntmps22;go_wp2_with fail;refine HF.out.mono ?_;rintro e w1 ⟨rfl,az⟩;have Q6:Own w.heap.size (w1.alloc (.cells #[.int .u8 0,B8 b] 5)) (.slice (some ⟨w1.heap.size,0,none⟩) 2 2) [0,b]:=Own.lit (base:=w.heap.size) w1 [0,b] az.size ag;have aD:=az.trans ((bt w1 (.cells #[.int .u8 0,B8 b] 5)).mono az.size);have HHM:=ae (jx (w1.alloc (.cells #[.int .u8 0,B8 b] 5)));go_wp2_with fail;generalize w1.alloc (.cells #[.int .u8 0,B8 b] 5)=w2 at*;refine HHM.out.mono ?_;rintro e w3 ⟨vm,rfl,hom,bA⟩;have ag9:=aM aD bA;obtain⟨Am,cm,rfl,_,_,hBm⟩:=hom.read;have xT:=Q6.below bA;obtain⟨Af,cf,ef,hcf,hmf,hBf⟩:=xT.read;injection ef with e1 e2 e3;subst e1;have M1:=ae (nC 1 (some ⟨w1.heap.size,0,none⟩) [0,b] 2 w3 (HT.out.below ag9) hBf ag aa ag);have HBM:=ae hBm;have OV:=ae hBf;clear Q6 xT hom hcf hmf e2 e3 hBm hBf aD az;go_wp2_with fail;refine M1.out.mono ?_;rintro e w4 ⟨A4,c4,rfl,qE,mS,uw,bm⟩;have aha:=aM ag9 bm;rw[We.out];have uX:=bt w4 (.cells #[.slice Am iL.length cm,.slice (some ⟨w1.heap.size,0,none⟩) 2 2,.slice A4 4 c4] 22);have ahb:=(HBM.out.below bm).below uX;have ahc:=(OV.out.below bm).below uX;have ahd:=uw.below uX;have hc: ∀i,(w4.alloc (.cells #[.slice Am iL.length cm,.slice (some ⟨w1.heap.size,0,none⟩) 2 2,.slice A4 4 c4] 22)).cell? ⟨w4.heap.size,i,none⟩=(#[.slice Am iL.length cm,.slice (some ⟨w1.heap.size,0,none⟩) 2 2,.slice A4 4 c4]:Array Value)[i]? :=fun i=>cell_of_row _ _ _ _ _ _ (heap_alloc_last _ _);have hJ:=ae (Ui (c0:=cm) (c1:=2) (c2:=c4) (g:=w4.heap.size) _ ahb ahc ahd (hc 0) (hc 1) ((hc 2).trans (by rw[We.out];rfl)) HL Ck.out (by rw[HLN.out];omega) (by rw[HLN.out];omega));have eu:=aM aha uX;clear hc ahb ahc ahd uX aha uw;go_wp2_with fail;generalize w4.alloc (.cells #[.slice Am iL.length cm,.slice (some ⟨w1.heap.size,0,none⟩) 2 2,.slice A4 4 c4] 22)=w5 at*;refine hJ.out.mono ?_;rintro e w6 ⟨g,cap,rfl,q1,q2,q3,q4,q5,q6⟩;go_wp2_with fail;go_ret2;exact⟨g,cap,rfl,q1,q2,Nat.le_trans eu.size q3,q4,q5,aM eu q6⟩
def lR(b:UInt8)(n:Nat):List UInt8:=iP n 4++[0,b]
def jJ(b:UInt8)(n:Nat):List UInt8:=iJ 1 (lR b n)++lR b n++[89,90]
theorem nL(b:UInt8)(n:Nat):(lR b n).length=6:=by unfold lR;simp[fO]
theorem ep(l:List UInt8):(iJ 1 l).length=4:=eN 1 l
theorem eh(b:UInt8)(n:Nat):(jJ b n).length=12:=by unfold jJ;simp[ep,nL]
theorem Vm(b:UInt8)(n:Nat)(s:Int)(hs:s=4*((n:Int)+1))(hn:n<4294967296)(w:World)(hT:jg w)(hf:bG (b.toNat:Nat)=true):Calls prog 23 #[.int .i64 (b.toNat:Nat),.int .i64 s] w (zD w (jJ b n)):=by
 have HF:=ae (kZ (b.toNat:Nat) w);rw[hf]at HF;have hbt:=b.toNat_lt;have oo:(0:Int)≤(b.toNat:Int):=aa;have az:(b.toNat:Int)<256:=aa;have HT:=ae hT;have Ck:Hid (iJ 1 (lR b n)++lR b n++[89,90]=jJ b n):=ae rfl;have HLN:=ae (eh b n);have HBD:Hid (iP n 4++[0,b]=lR b n):=ae rfl;have HBN:=ae (nL b n);have We:=ae (ep (lR b n));have hq:s/4-1=(n:Int):=aa;have HLF:Hid (∀w,Calls prog 47 #[.int .u64 (s/4-1),.int .i64 4] w (qh w (iP n 4))):=ae (fun w=>by rw[hq];exact kX n 4 aa aa w);have W_:=ae (fO 4 n);have vq:IntKind.u8.wrap (b.toNat:Int)=(b.toNat:Int):=wL;have sI:4≤s:=aa;have LZ:s≤17179869184:=aa;have VS:0≤s:=aa;have hmb:(s%4==0)=true:=av;have ax6:(s%4 !=0)=false:=av;generalize jJ b n=FL at*;generalize lR b n=BD at*;generalize iP n 4=LW at*;clear hT hf hs hn hq;go_enter func23,ntmps23;go_wp2_with fail;refine HF.out.mono ?_;rintro e w1 ⟨rfl,az⟩;go_wp2_with fail;refine(HLF.out w1).mono ?_;rintro e w2 ⟨v2,rfl,el,aD⟩;have Pr:=aM az aD;have uX:=bt w2 (.cells #[.int .u8 0,B8 b] 5);have fE:=el.below uX;have ln:Bytes (w2.alloc (.cells #[.int .u8 0,B8 b] 5)) (some ⟨w2.heap.size,0,none⟩) [0,b]:=by obtain⟨A,c,e,_,_,h⟩:=(Own.lit (base:=w2.heap.size) w2 [0,b] (Nat.le_refl _) ag).read;injection e with e1 _ _;subst e1;exact h
 have bA:=aM Pr uX;have FO:w1.heap.size≤(w2.alloc (.cells #[.int .u8 0,B8 b] 5)).heap.size:=Nat.le_trans aD.size uX.size;have dl:LW.length+[0,b].length≤140737488355328:=by rw[W_.out];simp
 clear el aD uX;go_wp2_with (refine ap rfl _ _ rfl w1.heap.size _ v2 LW rfl fE _ [0,b] 2 rfl ln dl FO ?_;intro v4 w4 cY et;rw[HBD.out]at cY;have bm:=ao bA et bA.size (fun g e=>Nat.le_trans az.size (World.ownsRow.lt fE g e).1);obtain⟨A4,c4,rfl,qE,mS,uw⟩:=cY.read)
 have M1:=ae (nC 1 A4 BD c4 w4 (HT.out.below bm) uw qE mS (by rw[HBN.out];omega));have iV:=ae uw;clear cY fE ln uw bA Pr FO dl et;refine M1.out.mono ?_;rintro e w5 ⟨A5,c5,rfl,Hd,Wh,qZ,eu⟩;have apc:=aM bm eu;have HFM:=ae (gM w5);rw[We.out];go_wp2_with fail;refine HFM.out.mono ?_;rintro e w6 ⟨v6,rfl,sF,lI⟩;obtain⟨A6,c6,rfl,_,_,mj⟩:=sF.read;have aiw:=aM apc lI;have uX:=bt w6 (.cells #[.slice A5 4 c5,.slice A4 BD.length c4,.slice A6 2 c6] 22);have h0:=(qZ.below lI).below uX;have h1:=((iV.out.below eu).below lI).below uX;have h2:=mj.below uX;have hc: ∀i,(w6.alloc (.cells #[.slice A5 4 c5,.slice A4 BD.length c4,.slice A6 2 c6] 22)).cell? ⟨w6.heap.size,i,none⟩=(#[.slice A5 4 c5,.slice A4 BD.length c4,.slice A6 2 c6]:Array Value)[i]? :=fun i=>cell_of_row _ _ _ _ _ _ (heap_alloc_last _ _);have hJ:=ae (Ui (c0:=c5) (c1:=c4) (c2:=c6) (g:=w6.heap.size) _ h0 h1 h2 ((hc 0).trans (by rw[We.out];rfl)) (hc 1) (hc 2) FL Ck.out (by rw[HLN.out];omega) (by rw[HLN.out];omega));have mM:=aM aiw uX;clear hc h0 h1 h2 uX aiw sF mj;go_wp2_with fail;generalize w6.alloc (.cells #[.slice A5 4 c5,.slice A4 BD.length c4,.slice A6 2 c6] 22)=w7 at*;refine hJ.out.mono ?_;rintro e w8 ⟨g,cap,rfl,q1,q2,q3,q4,q5,q6⟩;go_wp2_with fail;go_ret2;exact⟨g,cap,rfl,q1,q2,Nat.le_trans mM.size q3,q4,q5,aM mM q6⟩


end Go.Proofs.YtfcaoggfnkhfiaaGreatDoor
