import Derived.Test.YtgfpocdiojifoaaGreatDoorZ21
import Derived.Deep.OwnRows
import Derived.Deep.WholeRow
import Derived.Deep.MidRow
import Derived.Laws.CopyOwn
import Derived.MapKept
namespace Go.Proofs.YtgfpocdiojifoaaGreatDoor
set_option maxRecDepth 100000
set_option maxHeartbeats 8000000
open Go.RowKit Go.Proofs.Tryz
variable{cs:Array Value}{l:List UInt8}{c g j k:Nat}{fr:Nat×Nat}{t:TypeId}{w:World}
namespace C3
def fy:Array Value:=Array.replicate 1024 (.int .u32 0)
theorem Sf:(prog.info? 244).map (fun i=>(i.zero,i.size))=some (some (.agg fy),1024):=ak
theorem wR:(prog.info? 242).map (·.size)=some 256:=ak
def T(j:Nat):BitVec 32:=bu.sn iC (8*(j/256+1)) (BitVec.ofNat 32 (j%256))
def tabs:Array Value:=((List.range 1024).map fun i=>Value.int .u32 (T i).toNat).toArray
theorem vy:(prog.info? 244).map (·.size)=some 1024:=ak
def fM(k j:Nat):Value:=if j<k then .int .u32 (T j).toNat else .int .u32 0
theorem zp(n:Nat)(hn:n<4294967296)(w:World):
  Calls prog 207 #[.int .u32 n] w fun e w'=>e= .returned (.int .u32 (bu.sn iC 8 (BitVec.ofNat 32 n)).toNat)∧w=w':=by
 have h:=zo (BitVec.ofNat 32 n) w;have e:(BitVec.ofNat 32 n).toNat=n:=av;rwa [e]at h
theorem sy(k:Nat): ∀i,(if i=k then Value.int .u32 (T k).toNat else fM k i)=fM (k+1) i:=by
 intro i;unfold fM;by_cases h:i=k;·subst h;simp
 ·by_cases h2:i<k;·simp[h,h2,show i<k+1 by omega]
  ·simp[h,h2,show ¬i<k+1 by omega]
theorem Sg(k:Nat)(h:k<256):T k=bu.sn iC 8 (BitVec.ofNat 32 k):=by unfold T;rw[Nat.div_eq_of_lt h,Nat.mod_eq_of_lt h]
def M_(k:Nat):List Value:=(List.range 256).map fun i=>fM (256*k) (256*(k-1)+i)
theorem MQ(r:w.rowIs g 244 1024 (fM (256*k)))(h1:1≤k)(h:k<4):w.rangeAt g ((k-1)*256) (M_ k):=by
 intro j v hv;unfold M_ at hv;rw[List.getElem?_map]at hv;by_cases hj:j<256;·rw[List.getElem?_range hj]at hv;simp at hv;subst hv;rw[Nat.mul_comm (k-1) 256];exact r.cell aa
 ·rw[List.getElem?_eq_none av]at hv;simp at hv
theorem ou(h:j<k):fM k j= .int .u32 (T j).toNat:=by unfold fM;rw[if_pos h]
theorem MR(k j:Nat)(hj:j<256)(hk:1≤k)(w:World):(Instr.index 242 (.agg (M_ k).toArray) (.int .i64 j)).run prog w= .ok (.int .u32 (T (256*(k-1)+j)).toNat) w:=by
 have hs:(prog.info? 24).map (·.size)=some 1:=ak;have hg:(M_ k)[j]? =some (.int .u32 (T (256*(k-1)+j)).toNat):=by unfold M_;rw[List.getElem?_map,List.getElem?_range hj];simp[ou (show 256*(k-1)+j<256*k by omega)]
 cases hq:prog.info? 24 with
 | none=>rw[hq]at hs;simp at hs
 | some i=>
  have dJ:i.size=1:=by rw[hq]at hs;simpa using hs
  simp[Instr.index,asIntOf,run_underlying underlying242,Sem.run_bind,sizeOf,typeInfo,hq,dJ,part,hg,hj]
theorem Wa(v:BitVec 32): ∃m:Nat,m<256∧m=v.toNat%256∧IntKind.u8.wrap (v.toNat:Int)=(m:Int):=
 ⟨v.toNat%256,Nat.mod_lt _ aa,rfl,uX⟩
theorem N_(k j:Nat)(hk:1≤k):T (256*k+j)=(T (256*(k-1)+j) >>> 8) ^^^ T ((T (256*(k-1)+j)).toNat%256):=by
 have e1:T (256*k+j)=bu.sn iC 8 (T (256*(k-1)+j)):=by unfold T;rw[←bu.ya,show(256*(k-1)+j)%256=(256*k+j)%256 by omega];congr 1;omega
 generalize T (256*(k-1)+j)=v at*;rw[e1,bu.vx,Sg _ (Nat.mod_lt _ aa)];congr 2;unfold bu.low;apply BitVec.eq_of_toNat_eq;simp only[BitVec.toNat_setWidth,BitVec.toNat_ofNat]
theorem sA(w:World):(w.alloc (.cells fy 244)).rowIs w.heap.size 244 1024 (fM 0):=by
 have h:=World.rowIs_alloc w fy 244 (fM 0) (fun i hi=>by
  unfold fy at hi ⊢;rw[Array.getElem?_replicate,if_pos jp];simp[fM])
 have e:fy.size=1024:=by simp[fy]
 rwa [e]at h
theorem vz(hn:cs.size=1024)(hv: ∀i,i<1024→cs[i]? =some (fM (256*4) i)):cs=tabs:=by
 apply Array.ext_getElem?;intro i;by_cases hi:i<1024;·rw[hv i hi,ou aa];unfold tabs;rw[List.getElem?_toArray,List.getElem?_map,List.getElem?_range hi];rfl
 ·rw[Array.getElem?_eq_none aa,Array.getElem?_eq_none (by simp[tabs];omega)]
theorem Sh(hn:cs.size=1024)(hv: ∀i,i<1024→cs[i]? =some (fM (256*4) i)):cs.all (·.oneCell')=true:=by rw[vz hn hv];unfold tabs;rw[List.all_toArray,List.all_map,List.all_eq_true];intro x _;rfl
theorem zIO(w:World):
  Calls prog 165 #[] w fun e w'=>e= .returned (.agg tabs)∧Below w.heap.size w w':=by
 have hz:=(zero_of_info Sf).1;go_enter func165,ntmps165;go_wp2_with fail;have h0:((w.alloc (.cells fy 244)).alloc (.cells fy 244)).rowIs w.heap.size 244 1024 (fM 0):=(sA w).alloc _;have h1:((w.alloc (.cells fy 244)).alloc (.cells fy 244)).rowIs (w.heap.size+1) 244 1024 (fM 0):=by have:=sA (w.alloc (.cells fy 244));simpa using this
 have hb:Below w.heap.size w ((w.alloc (.cells fy 244)).alloc (.cells fy 244)):=(ap).alloc ae _;generalize(w.alloc (.cells fy 244)).alloc (.cells fy 244)=w1 at*;generalize hg:w.heap.size+1=g at*;have iY:w.heap.size<g:=aa;have HG:=hdd hg;clear hg;go_loopw [6] (fun i wr=> ∃k:Nat,k≤256∧i= .int .i64 k∧wr.rowIs w.heap.size 244 1024 (fM 0)∧wr.rowIs g 244 1024 (fM k)∧Below w.heap.size w wr) (fun i _=>256-(intOf i).toNat);case atStart=>exact⟨0,aa,rfl,h0,h1,hb⟩
 case round=>
  obtain⟨k,hk,rfl,r0,r1,rb⟩:=hrel;by_cases h:k<256
  ·have hc:=r1.cell (i:=k) aa;have hf:=r1.frozen k;go_wp2_with fail;refine(zp k aa _).mono ?_;rintro e w' ⟨rfl,rfl⟩;go_wp2_with fail;go_roundw;case rel=>refine⟨k+1,aa,aq,r0.setOther av _,?_,rb.setCell av _⟩;refine(r1.set k _).congr fun i _=> ?_;rw[←Sg k h];exact sy k i
   case measure=>simp[intOf];omega
  ·obtain rfl:k=256:=(by omega);go_wp2_with fail;clear h0 h1 hb hk h;go_loopw [3] (fun i wr=> ∃k:Nat,1≤k∧k≤4∧i= .int .i64 k∧wr.rowIs w.heap.size 244 1024 (fM 0)∧wr.rowIs g 244 1024 (fM (256*k))∧Below w.heap.size w wr) (fun i _=>4-(intOf i).toNat);case atStart=>exact⟨1,aa,aa,rfl,r0,r1,rb⟩
   case round=>
    obtain⟨k,gh,hk,rfl,r0,r1,rb⟩:=hrel;by_cases h:k<4
    ·have qd:=MQ r1 gh h;go_wp2_with (refine wpList_load_mid rfl 242 _ rfl g ((k-1)*256) rfl (M_ k) _ qd underlying242 rfl ?c0 ?_)
     case c0=>rw[wR];simp[M_]
     clear qd;obtain⟨wo,rfl⟩: ∃wo:World,wo=wr:=⟨_,rfl⟩
     go_loopw [24] (fun i wr=> ∃j:Nat,j≤256∧i= .int .i64 j∧wr.rowIs w.heap.size 244 1024 (fM 0)∧wr.rowIs g 244 1024 (fM (256*k+j))∧Below w.heap.size w wr) (fun i _=>256-(intOf i).toNat);case atStart=>exact⟨0,aa,rfl,r0,r1,rb⟩
     case round=>
      clear r0 r1 rb;obtain⟨j,hj,rfl,r0,r1,rb⟩:=hrel;by_cases aF:j<256
      ·have GQ:=MR k j aF gh;have hm:=Wa (T (256*(k-1)+j));have hT:=hdd (N_ k j gh);generalize T (256*(k-1)+j)=v at*;obtain⟨m,lG,FU,B_⟩:=hm;have fY:=r1.cell (i:=m) aa;have fS:=r1.cell (i:=k*256+j) aa;have hf:=r1.frozen (k*256+j);rw[ou aa]at fY;have Hmv:=hdd FU;clear FU;go_wp2_with fail;go_region
       all_goals
        go_wp2_with fail;go_roundw;case rel=>refine⟨j+1,aa,aq,r0.drew.setOther av _,?_,rb.drew.setCell av _⟩;refine(r1.drew.set _ _).congr fun i _=> ?_;have e:(v.toNat:Int)/(256:Int)=((v >>> 8).toNat:Int):=(by rw[BitVec.toNat_ushiftRight,Nat.shiftRight_eq_div_pow];simp);rw[←Nat.add_assoc,←sy,hT.out,←Hmv.out,e,zn,Nat.mul_comm k 256]
        case measure=>simp[intOf];omega
      ·obtain rfl:j=256:=(by omega);go_wp2_with fail;go_roundw;case rel=>
        (repeat apply Exists.intro)
        exact⟨⟨k+1,aa,aa,aq,r0,by rw[Nat.mul_add];exact r1,rb⟩,rfl⟩
       case measure=>simp[intOf];omega
    ·obtain rfl:k=4:=(by omega);obtain⟨cs,hcs,hn,hv⟩:=r1;obtain⟨os,wH,pM,hvo⟩:=r0;go_wp2_with (first | (refine wpList_load_row rfl 244 _ rfl g rfl 244 cs _ _ hcs underlying244 rfl ?c1 ?_) | (refine wpList_store_row rfl 244 _ _ rfl w.heap.size cs rfl rfl 244 os wH ?c2 ?c3 ?c4 ?_))
     case c1=>rw[vy,hn]
     case c2=>rw[vy,hn]
     case c3=>rw[pM,hn]
     case c4=>exact Sh hn hv
     refine bodyPost_ret (results_cell_row rfl _ _ w.heap.size 244 cs _ _ rfl (setRow_heap _ _ _ _ _ _ wH) underlying244 rfl (by rw[vy,hn])) rfl ?_;refine⟨?_,?_⟩;·rw[vz hn hv]
     ·have aF:w.heap.size≤w.heap.size:=Nat.le_refl _;exact below_setRow rb aF _
end C3
namespace C3
def yb(b0 b1 b2 b3:UInt8):BitVec 32:=((bu.ext 32 b0 ||| bu.ext 32 b1 <<< 8) ||| bu.ext 32 b2 <<< 16) ||| bu.ext 32 b3 <<< 24
theorem IP(b:UInt8)(j i:Nat):(bu.ext 32 b <<< j).getLsbD i=(decide (i<32)&&decide (j≤i)&&b.toBitVec.getLsbD (i-j)):=by
 rw[BitVec.getLsbD_shiftLeft];unfold bu.ext;rw[BitVec.getLsbD_setWidth];by_cases h1:i<32
 ·by_cases h2:i<j;·simp[h1,h2,show ¬j≤i by omega]
  ·simp[h1,h2,show i-j<32 by omega,show j≤i by omega]
 ·simp[h1]
theorem IQ(b:UInt8)(i:Nat)(h:8≤i):b.toBitVec.getLsbD i=false:=BitVec.getLsbD_of_ge _ _ h
theorem MT(b0 b1 b2 b3:UInt8):yb b0 b1 b2 b3=((bu.ext 32 b0 <<< 0 ^^^ bu.ext 32 b1 <<< 8) ^^^ bu.ext 32 b2 <<< 16) ^^^ bu.ext 32 b3 <<< 24:=by
 have e0:bu.ext 32 b0=bu.ext 32 b0 <<< 0:=ae;unfold yb;conv=>lhs;rw[e0]
 apply BitVec.eq_of_getLsbD_eq;intro i hi;simp only[BitVec.getLsbD_or,BitVec.getLsbD_xor,IP];by_cases h1:i<8;·simp[show ¬8≤i by omega,show ¬16≤i by omega,show ¬24≤i by omega]
 ·by_cases h2:i<16;·simp[show ¬16≤i by omega,show ¬24≤i by omega,IQ b0 i aa]
  ·by_cases h3:i<24;·simp[show ¬24≤i by omega,IQ b0 i aa,IQ b1 (i-8) aa]
   ·simp[IQ b0 i aa,IQ b1 (i-8) aa,IQ b2 (i-16) aa]
theorem pk(z:BitVec 32)(j:Nat)(b:UInt8)(hj:j+8≤32):bu.Kx iC (bu.sn iC j z) b=bu.sn iC (j+8) (z ^^^ bu.ext 32 b <<< j):=by
 have h:bu.sn iC j (bu.ext 32 b <<< j)=bu.ext 32 b:=by
  rw[bu.Kv iC j _ (by intro i hi;rw[IP];simp[show ¬j≤i by omega])];apply BitVec.eq_of_getLsbD_eq;intro i hi;rw[BitVec.getLsbD_ushiftRight,IP];by_cases h8:i<8;·unfold bu.ext;rw[BitVec.getLsbD_setWidth];simp[show j+i<32 by omega,hi]
  ·rw[bu.Ct 32 b i aa];simp[IQ b i aa]
 unfold bu.Kx;rw[bu.ya,bu.IK iC j,h]
theorem afm(r:BitVec 32)(b0 b1 b2 b3:UInt8):bu.dN iC r [b0,b1,b2,b3]=bu.sn iC 32 (r ^^^ yb b0 b1 b2 b3):=by have h0:=pk r 0 b0 aa;have h1:=fun z=>pk z 8 b1 aa;have h2:=fun z=>pk z 16 b2 aa;have h3:=fun z=>pk z 24 b3 aa;simp only[bu.dN,List.foldl];rw[show bu.Kx iC r b0=bu.sn iC 8 (r ^^^ bu.ext 32 b0 <<< 0)from h0,h1,h2,h3,MT];simp only[BitVec.xor_assoc]
theorem Wb(x:BitVec 32)(j:Nat):bu.low (x >>> j)=BitVec.ofNat 32 (x.toNat/2^j%256):=by unfold bu.low;apply BitVec.eq_of_toNat_eq;simp only[BitVec.toNat_setWidth,BitVec.toNat_ofNat,BitVec.toNat_ushiftRight,Nat.shiftRight_eq_div_pow]
theorem Wc(k m:Nat)(hm:m<256):T (256*k+m)=bu.sn iC (8*(k+1)) (BitVec.ofNat 32 m):=by unfold T;rw[show(256*k+m)/256=k by omega,show(256*k+m)%256=m by omega]
theorem Ky(x:BitVec 32)(j k:Nat):bu.sn iC (8+k) (x >>> j)=bu.sn iC k (x >>> (j+8)) ^^^ bu.sn iC (8+k) (BitVec.ofNat 32 (x.toNat/2^j%256)):=by rw[bu.ya,bu.vx,bu.IK,Wb,←bu.ya,BitVec.shiftRight_add]
theorem four(x:BitVec 32):((T (768+x.toNat%256) ^^^ T (512+x.toNat/256%256)) ^^^ T (256+x.toNat/65536%256)) ^^^ T (x.toNat/16777216%256)=bu.sn iC 32 x:=by
 have t3:=Wc 3 (x.toNat%256) aa;have t2:=Wc 2 (x.toNat/256%256) aa;have t1:=Wc 1 (x.toNat/65536%256) aa;have t0:=Wc 0 (x.toNat/16777216%256) aa;have s0:=Ky x 0 24;have s1:=Ky x 8 16;have s2:=Ky x 16 8;have s3:=Ky x 24 0;simp only[Nat.mul_one,Nat.reduceMul,Nat.reduceAdd,Nat.zero_add,Nat.reducePow,Nat.div_one]at t3 t2 t1 t0 s0 s1 s2 s3;rw[t3,t2,t1,t0];rw[show x >>> 0=x from ae]at s0;have hz:x >>> 32=0#32:=by apply BitVec.eq_of_getLsbD_eq;intro i _;rw[BitVec.getLsbD_ushiftRight,BitVec.getLsbD_of_ge _ _ aa];simp
 rw[s0,s1,s2,s3,hz,bu.V9,BitVec.zero_xor]
 ac_rfl
theorem O_(a b:BitVec 32):bits .or .u32 (a.toNat:Int) (b.toNat:Int)=((a ||| b).toNat:Int):=by rw[u32_or_nat _ _ a.isLt b.isLt,BitVec.toNat_or]
theorem mM(b:UInt8):(bu.ext 32 b).toNat=b.toNat:=by have:=b.toNat_lt;unfold bu.ext;simp only[BitVec.toNat_setWidth,UInt8.toNat_toBitVec];omega
theorem uZ(b:UInt8)(j:Nat)(h:j≤24):(bu.ext 32 b <<< j).toNat=b.toNat*2^j:=by have hb:=b.toNat_lt;have hj:2^j≤2^24:=Nat.pow_le_pow_right aa h;have hm:b.toNat*2^j≤255*2^24:=Nat.mul_le_mul aa hj;rw[BitVec.toNat_shiftLeft,mM,Nat.shiftLeft_eq,Nat.mod_eq_of_lt aa]
theorem MU(r:BitVec 32)(b0 b1 b2 b3:UInt8):bits .xor .u32 (r.toNat:Int) (bits .or .u32 (bits .or .u32 (bits .or .u32 (b0.toNat:Int) ((b1.toNat:Int)*256)) ((b2.toNat:Int)*65536)) ((b3.toNat:Int)*16777216))
  =((r ^^^ yb b0 b1 b2 b3).toNat:Int):=by
 have e0:(b0.toNat:Int)=((bu.ext 32 b0).toNat:Int):=by rw[mM]
 have e1:(b1.toNat:Int)*(256:Int)=((bu.ext 32 b1 <<< 8).toNat:Int):=by rw[uZ _ _ aa];omega
 have e2:(b2.toNat:Int)*(65536:Int)=((bu.ext 32 b2 <<< 16).toNat:Int):=by rw[uZ _ _ aa];omega
 have e3:(b3.toNat:Int)*(16777216:Int)=((bu.ext 32 b3 <<< 24).toNat:Int):=by rw[uZ _ _ aa];omega
 rw[e0,e1,e2,e3,O_,O_,O_,zn];rfl
theorem Cu(x:BitVec 32)(d:Nat): ∃m:Nat,m<256∧m=x.toNat/d%256∧IntKind.u8.wrap ((x.toNat:Int)/(d:Int))=(m:Int):=
 ⟨x.toNat/d%256,Nat.mod_lt _ aa,rfl,uX⟩
theorem pZ(g:Nat)(r:BitVec 32)(b off n c:Nat)(b0 b1 b2 b3:UInt8)(w:World)(hn:4≤n)(auq:n≤9223372036854775807)
  (c0:w.cell? ⟨b,off,none⟩=some (.int .u8 (b0.toNat:Nat))) (c1:w.cell? ⟨b,off+1,none⟩=some (.int .u8 (b1.toNat:Nat)))
  (c2:w.cell? ⟨b,off+2,none⟩=some (.int .u8 (b2.toNat:Nat))) (c3:w.cell? ⟨b,off+3,none⟩=some (.int .u8 (b3.toNat:Nat)))
  (hT: ∀i,i<1024→w.cell? ⟨g,i,none⟩=some (.int .u32 (T i).toNat)):
  Calls prog 166 #[.pointer (some ⟨g,0,none⟩),.int .u32 r.toNat,.slice (some ⟨b,off,none⟩) n c] w fun e w'=>
   e= .returned (.int .u32 (bu.dN iC r [b0,b1,b2,b3]).toNat)∧ ∃k,w'=w.drewN k:=by
 have FY:(0:Int)<n:=aa;have yP:(1:Int)<n:=aa;have oT:(2:Int)<n:=aa;have hn3:(3:Int)<n:=aa;have l0:=b0.toNat_lt;have l1:=b1.toNat_lt;have l2:=b2.toNat_lt;have l3:=b3.toNat_lt;have HT:=hdd hT;clear hT;rw[afm];have hw:=hdd (MU r b0 b1 b2 b3);go_enter func166,ntmps166;go_wp2_with fail;go_quiet (fail);go_wp2_with fail;rw[hw.out];clear hw;have hf:=hdd (four (r ^^^ yb b0 b1 b2 b3));generalize hx:r ^^^ yb b0 b1 b2 b3=x at*;have HX:=hdd hx;clear hx;obtain⟨m0,Em,em0,w0⟩:=Cu x 1;obtain⟨m1,fX,em1,w1⟩:=Cu x 256;obtain⟨m2,eY,em2,w2⟩:=Cu x 65536;obtain⟨m3,Oh,em3,w3⟩:=Cu x 16777216;have d3:=HT.out (768+m0) aa;have d2:=HT.out (512+m1) aa;have d1:=HT.out (256+m2) aa;have d0:=HT.out m3 aa;have E0:=hdd em0;have E1:=hdd em1;have E2:=hdd em2;have E3:=hdd em3;clear em0 em1 em2 em3;rw[show((1:Nat):Int)=1 from rfl,Int.ediv_one]at w0;rw[show((256:Nat):Int)=256 from rfl]at w1;rw[show((65536:Nat):Int)=65536 from rfl]at w2;rw[show((16777216:Nat):Int)=16777216 from rfl]at w3;have i0:(m0:Int)<256:=aa;have i1:(m1:Int)<256:=aa;have i2:(m2:Int)<256:=aa;have i3:(m3:Int)<256:=aa;go_quiet (fail);go_wp2_with fail;have h0:=E0.out;rw[Nat.div_one]at h0;have uS:bits .xor .u32 (bits .xor .u32 (bits .xor .u32 ((T (768+m0)).toNat:Int) ((T (512+m1)).toNat:Int)) ((T (256+m2)).toNat:Int)) ((T m3).toNat:Int)=((bu.sn iC 32 (r ^^^ yb b0 b1 b2 b3)).toNat:Int):=by rw[zn,zn,zn,HX.out,←hf.out,←h0,←E1.out,←E2.out,←E3.out]
 go_ret;exact⟨congrArg (fun n:Int=>Ending.returned (Value.int .u32 n)) uS,_,World.drewN_drewN _ _ _⟩
end C3
namespace C3
theorem By(a:BitVec 32):bits .xor .u32 IntKind.u32.max (a.toNat:Int)=((~~~a).toNat:Int):=by rw[show IntKind.u32.max=(((BitVec.allOnes 32).toNat:Nat):Int)from rfl,zn,BitVec.allOnes_xor]
theorem tI(h:w.heap[g]? =some (.cells tabs t fr))(i:Nat)(hi:i<1024):w.cell? ⟨g,i,none⟩=some (.int .u32 (T i).toNat):=by rw[cell_of_row w g i tabs t fr h];unfold tabs;rw[List.getElem?_toArray,List.getElem?_map,List.getElem?_range hi];rfl
theorem lT:tabs.size=1024:=by simp[tabs]
theorem sB:tabs.all (·.oneCell')=true:=by unfold tabs;rw[List.all_toArray,List.all_map,List.all_eq_true];intro x _;rfl
structure qA(w0:World)(g:Nat)(w:World):Prop where
 tab: ∀i,i<1024→w.cell? ⟨g,i,none⟩=some (.int .u32 (T i).toNat)
 below:Below w0.heap.size w0 w
theorem qA.drewN{w0:World}(h:qA w0 g w)(n:Nat):qA w0 g (w.drewN n):=⟨fun i hi=>h.tab i hi,below_drewN h.below n⟩
theorem yc(x:BitVec 32)(v:UInt8)(m:Nat)(hm:m=(x.toNat%256) ^^^ v.toNat):bits .xor .u32 ((x.toNat:Int)/256) ((T m).toNat:Int)=((bu.Kx iC x v).toNat:Int):=by
 have lG:m<256:=by have:=v.toNat_lt;rw[hm];exact Nat.xor_lt_two_pow (n:=8) aa aa
 have e:(x.toNat:Int)/(256:Int)=((x >>> 8).toNat:Int):=by rw[BitVec.toNat_ushiftRight,Nat.shiftRight_eq_div_pow];simp
 have hl:bu.low (x ^^^ bu.ext 32 v)=BitVec.ofNat 32 m:=by unfold bu.low;apply BitVec.eq_of_toNat_eq;have hv:=v.toNat_lt;simp only[BitVec.toNat_setWidth,BitVec.toNat_ofNat,BitVec.toNat_xor,mM];rw[Nat.xor_mod_two_pow (n:=8),hm,Nat.mod_eq_of_lt (show v.toNat<2^8 by omega)]
 have hs:(x ^^^ bu.ext 32 v) >>> 8=x >>> 8:=by apply BitVec.eq_of_getLsbD_eq;intro i _;rw[BitVec.getLsbD_ushiftRight,BitVec.getLsbD_ushiftRight,BitVec.getLsbD_xor,bu.Ct 32 v _ aa];simp
 rw[e,zn];unfold bu.Kx;rw[bu.vx,hs,hl,Sg m lG]
theorem yd(x:BitVec 32)(v:UInt8): ∃m:Nat,m<256∧m=(x.toNat%256) ^^^ v.toNat∧bits .xor .u8 ((x.toNat:Int)%256) (v.toNat:Int)=(m:Int):=by have hv:=v.toNat_lt;refine⟨_,Nat.xor_lt_two_pow (n:=8) (show x.toNat%256<2^8 by omega) (show v.toNat<2^8 by omega),rfl,?_⟩;rw[show(x.toNat:Int)%256=((x.toNat%256:Nat):Int)from aa,u8_xor_nat _ _ aa aa]
theorem MV(x:BitVec 32)(l:List UInt8)(h:4≤l.length):bu.dN iC x l=bu.dN iC (bu.dN iC x [l[0],l[1],l[2],l[3]]) (l.drop 4):=by
 match l,h with
 | b0::b1::b2::b3::r,_=>rfl
theorem lU(x:BitVec 32)(l:List UInt8)(k:Nat)(h:k<l.length):bu.dN iC x (l.take (k+1))=bu.Kx iC (bu.dN iC x (l.take k)) l[k]:=by rw[List.take_succ_eq_append_getElem h,bu.uu];rfl
def dy(s:BitVec 32)(l:List UInt8):BitVec 32:= ~~~ bu.dN iC (~~~ s) l
def lenOf:Value→Nat | .slice _ n _=>n | _=>0
def afn(w:World)(g:Nat)(x0:BitVec 32)(l:List UInt8)(sl P_:Value)(wr:World):Prop:=
 ∃(A:Option Addr) (c:Nat) (rest:List UInt8) (x:BitVec 32),sl= .slice A rest.length c∧rest.length≤c∧c≤9223372036854775807∧Bytes wr A rest∧qA w g wr∧P_= .int .u32 x.toNat∧bu.dN iC x0 l=bu.dN iC x rest
theorem xL(s:BitVec 32)(A:Option Addr)(l:List UInt8)(c:Nat)(w:World)(hB:Bytes w A l)(hc:l.length≤c)(hm:c≤9223372036854775807):
  Calls prog 127 #[.int .u32 s.toNat,.slice A l.length c] w fun e w'=>
   e= .returned (.int .u32 (dy s l).toNat)∧Below w.heap.size w w':=by
 have hz:=(zero_of_info Sf).1;go_enter func127,ntmps127;go_wp2_with fail;refine(zIO w).mono ?_;rintro e w1 ⟨rfl,aC⟩;go_wp2_with (refine wpList_store_row rfl 244 _ _ rfl w1.heap.size tabs rfl rfl 244 fy (heap_alloc_last _ _) ?c2 ?c3 ?c4 ?_)
 case c2=>rw[vy,lT]
 case c3=>rw[lT];simp[fy]
 case c4=>exact sB
 rw[World.setRow_alloc_new,By];have hT:qA w w1.heap.size (w1.alloc (.cells tabs 244)):=⟨tI (heap_alloc_last _ _),aC.alloc aC.size _⟩
 have iH:=hB.below hT.below;generalize w1.alloc (.cells tabs 244)=w2 at*;generalize w1.heap.size=g at*;clear aC hz hB;generalize vl: ~~~s=x0;have KS:=hdd vl;clear vl;go_loopw [1,6] (fun sl P_ wr=>afn w g x0 l sl P_ wr) (fun sl _ _=>lenOf sl);case atStart=>exact⟨A,c,l,_,rfl,hc,hm,iH,hT,rfl,rfl⟩
 case round=>
  clear iH hT hc hm;obtain⟨A',c',rest,x,rfl,hc,hm,hB,hT,rfl,hx⟩:=hrel;have HX:=hdd hx;clear hx;by_cases h4:4≤rest.length
  ·obtain⟨b,off,rfl,aF,hcell⟩:=hB.addr aa;have d0:=hcell 0 aa;have d1:=hcell 1 aa;have d2:=hcell 2 aa;have d3:=hcell 3 aa;have HC:=hdd hcell;clear hcell;have HT:=hdd hT.tab;have He:=hdd (MV x rest h4);have FY:(4:Int)≤rest.length:=aa;generalize rest[0]=b0 at*;generalize rest[1]=b1 at*;generalize rest[2]=b2 at*;generalize rest[3]=b3 at*;by_cases kJ:c'=4
   ·subst kJ;go_wp2_with fail;refine(pZ g x b off _ _ b0 b1 b2 b3 _ h4 aa (by simpa using d0) d1 d2 d3 HT.out).mono ?_;rintro e w' ⟨rfl,nq,rfl⟩;go_wp2_with fail;go_roundw;case rel=>have hl:rest.drop 4=[]:=(by rw[List.drop_eq_nil_iff];omega);exact⟨_,0,rest.drop 4,_,by rw[hl];rfl,by rw[hl];simp,aa,.inl hl,hT.drewN nq,rfl,by rw[HX.out,He.out]⟩
    case measure=>simp[lenOf];omega
   ·go_wp2_with fail;refine(pZ g x b off _ _ b0 b1 b2 b3 _ h4 aa (by simpa using d0) d1 d2 d3 HT.out).mono ?_;rintro e w' ⟨rfl,nq,rfl⟩;go_wp2_with fail;go_roundw;case rel=>exact⟨_,_,rest.drop 4,_,by rw[List.length_drop],by rw[List.length_drop];omega,aa,(hB.drop 4).drewN nq,hT.drewN nq,rfl,by rw[HX.out,He.out]⟩
    case measure=>simp[lenOf];omega
  ·go_wp2_with fail;obtain⟨wo,rfl⟩: ∃wo:World,wo=wr:=⟨_,rfl⟩
   go_loop [6,22] (fun P_ i=> ∃k:Nat,k≤rest.length∧i= .int .i64 k∧P_= .int .u32 (bu.dN iC x (rest.take k)).toNat) (fun _ i=>rest.length-(intOf i).toNat);case atStart=>exact⟨0,aa,rfl,by simp[bu.dN]⟩
   case round=>
    obtain⟨k,hk,rfl,rfl⟩:=hrel;by_cases aF:k<rest.length
    ·obtain⟨b,off,rfl,_,hcell⟩:=hB.addr aa;have tQ:=hcell k aF;have hs:=hdd (lU x rest k aF);generalize bu.dN iC x (rest.take k)=y at*;obtain⟨m,lG,FU,B_⟩:=yd y rest[k];have hct:=hT.tab m aa;have Hmv:=hdd FU;clear FU;have i0:(m:Int)<256:=aa;generalize rest[k]=v at*;clear hcell;go_wp2_with fail;go_round;case rel=>exact⟨k+1,aa,aq,by rw[hs.out,←yc y v m Hmv.out]⟩
     case measure=>simp[intOf];omega
    ·obtain rfl:k=rest.length:=(by omega);go_wp2_with fail;go_ret;have gy:bu.dN iC x rest=bu.dN iC (~~~ s) l:=(by rw[KS.out,HX.out]);have uS:bits .xor .u32 IntKind.u32.max ((bu.dN iC x rest).toNat:Int)=((dy s l).toNat:Int):=(by rw[By,gy];rfl);exact⟨congrArg (fun n:Int=>Ending.returned (Value.int .u32 n)) uS,hT.below⟩
end C3
namespace C3
def ye(x0:BitVec 32)(v k:Nat)(y:BitVec 32)(xk:Nat):Prop:=xk=v/2^k∧y ^^^ BitVec.ofNat 32 xk=bu.sn iC k (x0 ^^^ BitVec.ofNat 32 v)
theorem qB(m:Nat)(h:m<256):BitVec.ofNat 32 m >>> 1=BitVec.ofNat 32 (m/2):=by apply BitVec.eq_of_toNat_eq;rw[BitVec.toNat_ushiftRight,BitVec.toNat_ofNat,BitVec.toNat_ofNat,Nat.shiftRight_eq_div_pow];omega
theorem Cv(y:BitVec 32)(m:Nat)(h:m<256):bits .xor .u32 (y.toNat:Int) (m:Int)=((y ^^^ BitVec.ofNat 32 m).toNat:Int):=by have e:(m:Int)=((BitVec.ofNat 32 m).toNat:Int):=AY;rw[e,zn]
theorem qC(x0:BitVec 32)(v k:Nat)(y:BitVec 32)(xk:Nat)(hv:xk<256)(h:ye x0 v k y xk):
  ye x0 v (k+1) (if(y ^^^ BitVec.ofNat 32 xk).getLsbD 0 then(y >>> 1) ^^^ iC else y >>> 1) (xk/2):=by
 obtain⟨h1,h2⟩:=h;refine⟨by rw[h1,Nat.pow_succ,Nat.div_div_eq_div_mul],?_⟩;rw[bu.sx,←h2,←qB xk hv];unfold bu.s1;rw[BitVec.ushiftRight_xor_distrib];split;·rw[BitVec.xor_assoc,BitVec.xor_assoc,BitVec.xor_comm iC]
 ·simp
theorem tJ(v:UInt8):bu.ext 32 v=BitVec.ofNat 32 v.toNat:=by have:=v.toNat_lt;apply BitVec.eq_of_toNat_eq;rw[mM,BitVec.toNat_ofNat];omega
theorem Cw(z:BitVec 32):((z.toNat:Int)%2==1)=z.getLsbD 0:=by rw[IL,Bool.eq_iff_iff];simp;omega
theorem yg(r:BitVec 32)(A:Option Addr)(l:List UInt8)(c:Nat)(w:World)(hB:Bytes w A l)(hm:l.length≤9223372036854775807):
  Calls prog 101 #[.int .u32 r.toNat,.slice A l.length c] w fun e w'=>
   e= .returned (.int .u32 (bu.dN iC r l).toNat)∧w=w':=by
 go_enter func101,ntmps101;go_wp2_with fail;go_loop [0,5] (fun a i=> ∃k:Nat,k≤l.length∧i= .int .i64 k∧a= .int .u32 (bu.dN iC r (l.take k)).toNat) (fun _ i=>l.length-(intOf i).toNat);case atStart=>exact⟨0,aa,rfl,by simp[bu.dN]⟩
 case round=>
  obtain⟨k,hk,rfl,rfl⟩:=hrel;by_cases aF:k<l.length
  ·obtain⟨b,off,rfl,_,hcell⟩:=hB.addr aa;have tQ:=hcell k aF;have hs:=hdd (lU r l k aF);generalize bu.dN iC r (l.take k)=y at*;generalize l[k]=v at*;have hv:=v.toNat_lt;clear hcell;go_wp2_with fail;go_loop [0,6,7] (fun a x i=> ∃(j:Nat) (z:BitVec 32) (m:Nat),j≤8∧m<256∧i= .int .i64 j∧a= .int .u32 z.toNat∧x= .int .u8 m∧Hid (ye y v.toNat j z m)) (fun _ _ i=>8-(intOf i).toNat);case atStart=>exact⟨0,y,v.toNat,aa,aa,rfl,rfl,rfl,ae,rfl⟩
   case round=>
    obtain⟨j,z,m,hj,lG,rfl,rfl,rfl,hJ⟩:=hrel;by_cases h8:j<8
    ·have hx:=Cv z m lG;have ho:=Cw (z ^^^ BitVec.ofNat 32 m);have bJ:=hdd (qC y v.toNat j z m lG hJ.out);generalize z ^^^ BitVec.ofNat 32 m=q at*;have h2:=hdd (IM z);have hp:=hdd (zn (z >>> 1) iC);cases hb:q.getLsbD 0 with
     | true=>
      rw[hb]at ho;rw[hb,if_pos rfl]at bJ;clear hb;go_wp2_with fail;go_round;case rel=>exact⟨j+1,z >>> 1 ^^^ iC,m/2,aa,aa,aq,by rw[h2.out,←hp.out];rfl,aq,bJ⟩
      case measure=>simp[intOf];omega
     | false=>
      rw[hb]at ho;rw[hb,if_neg an]at bJ;clear hb;go_wp2_with fail;go_round;case rel=>exact⟨j+1,z >>> 1,m/2,aa,aa,aq,by rw[h2.out],aq,bJ⟩
      case measure=>simp[intOf];omega
    ·obtain rfl:j=8:=(by omega);obtain⟨hJ1,Q_⟩:=hJ.out;have hz:z=bu.Kx iC y v:=(by have h0:m=0:=aa;rw[h0]at Q_;unfold bu.Kx;rw[tJ,←Q_];simp);have HZ:=hdd hz;clear hz hJ1 Q_ hJ;go_wp2_with fail;go_round;case rel=>exact⟨k+1,aa,aq,by rw[hs.out,HZ.out]⟩
     case measure=>simp[intOf];omega
  ·obtain rfl:k=l.length:=(by omega);go_wp2_with fail;go_ret;exact⟨rfl,rfl⟩
end C3
namespace C3
theorem Cx(A:Option Addr)(l:List UInt8)(c:Nat)(w:World)(hB:Bytes w A l)(hc:l.length≤c)(hm:c≤9223372036854775807):
  Calls prog 127 #[.int .u32 0,.slice A l.length c] w fun e w'=>
   e= .returned (.int .u32 (dy 0#32 l).toNat)∧Below w.heap.size w w':=xL 0#32 A l c w hB hc hm
theorem rK(A:Option Addr)(l:List UInt8)(c:Nat)(w:World)(hB:Bytes w A l)(hc:l.length≤c)(hm:c≤9223372036854775807):
  Calls prog 84 #[.slice A l.length c] w fun e w'=>
   e= .returned (.int .u32 (dy 0#32 l).toNat)∧Below w.heap.size w w':=by
 go_enter func84,ntmps84;go_wp2_with fail;refine(Cx A l c _ hB hc hm).mono ?_;rintro e w' ⟨rfl,hb⟩;go_wp2_with fail;go_ret;exact⟨rfl,hb⟩
theorem vA(s:BitVec 32):(4294967295:Int)-(s.toNat:Int)=((~~~ s).toNat:Int):=by rw[BitVec.toNat_not];omega
theorem qD(A:Option Addr)(l:List UInt8)(c:Nat)(w:World)(hB:Bytes w A l)(hm:l.length≤9223372036854775807):
  Calls prog 62 #[.slice A l.length c] w fun e w'=>
   e= .returned (.int .u32 (dy 0#32 l).toNat)∧w=w':=by
 have gy:((~~~ bu.dN iC (~~~ 0#32) l).toNat:Int)=((dy 0#32 l).toNat:Int):=rfl;have hu:=vA (bu.dN iC (~~~ 0#32) l);have hl:=(bu.dN iC (~~~ 0#32) l).isLt;rw[gy]at hu;have HU:=hdd hu;clear hu gy;have Yi:Calls prog 101 #[.int .u32 4294967295,.slice A l.length c] w fun e w'=>
   e= .returned (.int .u32 (bu.dN iC (~~~ 0#32) l).toNat)∧w=w':=yg (~~~ 0#32) A l c w hB hm
 have HC:=hdd Yi;clear Yi;generalize bu.dN iC (~~~ 0#32) l=u at*;go_enter func62,ntmps62;go_wp2_with fail;refine HC.out.mono ?_;rintro e w' ⟨rfl,rfl⟩;have hl':(u.toNat:Int)<4294967296:=aa;go_wp2_with fail;go_ret;have uS:=HU.out;exact⟨congrArg (fun n:Int=>Ending.returned (Value.int .u32 n)) uS,rfl⟩
end C3
namespace IR
def sR:BitVec 64:=14514072000185962306#64
theorem Si(a b:BitVec 64):bits .xor .u64 (a.toNat:Int) (b.toNat:Int)=((a ^^^ b).toNat:Int):=by rw[u64_xor_nat _ _ a.isLt b.isLt,BitVec.toNat_xor]
theorem Sd(a:BitVec 64):bits .and .u64 (a.toNat:Int) 1=((a.toNat%2:Nat):Int):=by rw[show(1:Int)=((1:Nat):Int)from rfl,u64_and_nat _ _ a.isLt aa,nat_mask1]
theorem IL(a:BitVec 64):a.getLsbD 0=decide (a.toNat%2=1):=by rw[BitVec.getLsbD,Nat.testBit_zero]
theorem IM(a:BitVec 64):(a.toNat:Int)/(2:Int)=((a >>> 1).toNat:Int):=by rw[BitVec.toNat_ushiftRight,Nat.shiftRight_eq_div_pow];simp
theorem IN(x:BitVec 64)(h:(bits .and .u64 (x.toNat:Int) 1==1)=true):bits .xor .u64 ((x.toNat:Int)/2) 14514072000185962306=((bu.s1 sR x).toNat:Int):=by
 have h1:x.getLsbD 0=true:=by rw[Sd]at h;rw[IL];simp at h ⊢;omega
 rw[IM,show(14514072000185962306:Int)=((sR.toNat:Nat):Int)from rfl,Si];unfold bu.s1;rw[h1];simp
theorem Se(x:BitVec 64)(h:(bits .and .u64 (x.toNat:Int) 1==1)=false):(x.toNat:Int)/2=((bu.s1 sR x).toNat:Int):=by
 have h1:x.getLsbD 0=false:=by rw[Sd]at h;rw[IL];simp at h ⊢;omega
 rw[IM];unfold bu.s1;rw[h1];simp
def jl:Array Value:=Array.replicate 256 (.int .u64 0)
theorem Yj:(prog.info? 248).map (fun i=>(i.zero,i.size))=some (some (.agg jl),256):=ak
theorem Cy:(prog.info? 248).map (·.size)=some 256:=ak
def T(j:Nat):BitVec 64:=bu.sn sR 8 (BitVec.ofNat 64 j)
def fM(k j:Nat):Value:=if j<k then .int .u64 (T j).toNat else .int .u64 0
def tabs:Array Value:=((List.range 256).map fun i=>Value.int .u64 (T i).toNat).toArray
theorem ou(h:j<k):fM k j= .int .u64 (T j).toNat:=by unfold fM;rw[if_pos h]
theorem sy(k:Nat): ∀i,(if i=k then Value.int .u64 (T k).toNat else fM k i)=fM (k+1) i:=by
 intro i;unfold fM;by_cases h:i=k;·subst h;simp
 ·by_cases h2:i<k;·simp[h,h2,show i<k+1 by omega]
  ·simp[h,h2,show ¬i<k+1 by omega]
theorem sA(w:World):(w.alloc (.cells jl 248)).rowIs w.heap.size 248 256 (fM 0):=by
 have h:=World.rowIs_alloc w jl 248 (fM 0) (fun i hi=>by
  unfold jl at hi ⊢;rw[Array.getElem?_replicate,if_pos jp];simp[fM])
 have e:jl.size=256:=by simp[jl]
 rwa [e]at h
theorem vz(hn:cs.size=256)(hv: ∀i,i<256→cs[i]? =some (fM 256 i)):cs=tabs:=by
 apply Array.ext_getElem?;intro i;by_cases hi:i<256;·rw[hv i hi,ou aa];unfold tabs;rw[List.getElem?_toArray,List.getElem?_map,List.getElem?_range hi];rfl
 ·rw[Array.getElem?_eq_none aa,Array.getElem?_eq_none (by simp[tabs];omega)]
theorem sB:tabs.all (·.oneCell')=true:=by unfold tabs;rw[List.all_toArray,List.all_map,List.all_eq_true];intro x _;rfl
theorem lT:tabs.size=256:=by simp[tabs]
theorem tI(h:w.heap[g]? =some (.cells tabs t fr))(i:Nat)(hi:i<256):w.cell? ⟨g,i,none⟩=some (.int .u64 (T i).toNat):=by rw[cell_of_row w g i tabs t fr h];unfold tabs;rw[List.getElem?_toArray,List.getElem?_map,List.getElem?_range hi];rfl
theorem MW(k:Nat)(h:k<256):(k:Int)=((BitVec.ofNat 64 k).toNat:Int):=by rw[BitVec.toNat_ofNat];omega
theorem zIO(w:World):
  Calls prog 167 #[] w fun e w'=>e= .returned (.agg tabs)∧Below w.heap.size w w':=by
 have hz:=(zero_of_info Yj).1;go_enter func167,ntmps167;go_wp2_with fail;have h0:((w.alloc (.cells jl 248)).alloc (.cells jl 248)).rowIs w.heap.size 248 256 (fM 0):=(sA w).alloc _;have h1:((w.alloc (.cells jl 248)).alloc (.cells jl 248)).rowIs (w.heap.size+1) 248 256 (fM 0):=by have:=sA (w.alloc (.cells jl 248));simpa using this
 have hb:Below w.heap.size w ((w.alloc (.cells jl 248)).alloc (.cells jl 248)):=(ap).alloc ae _;generalize(w.alloc (.cells jl 248)).alloc (.cells jl 248)=w1 at*;generalize hg:w.heap.size+1=g at*;have iY:w.heap.size<g:=aa;have HG:=hdd hg;clear hg;go_loopw [5] (fun i wr=> ∃k:Nat,k≤256∧i= .int .i64 k∧wr.rowIs w.heap.size 248 256 (fM 0)∧wr.rowIs g 248 256 (fM k)∧Below w.heap.size w wr) (fun i _=>256-(intOf i).toNat);case atStart=>exact⟨0,aa,rfl,h0,h1,hb⟩
 case round=>
  obtain⟨k,hk,rfl,r0,r1,rb⟩:=hrel;by_cases h:k<256
  ·have hc:=r1.cell (i:=k) aa;have hf:=r1.frozen k;go_wp2_with fail;obtain⟨wo,rfl⟩: ∃wo:World,wo=wr:=⟨_,rfl⟩
   go_loop [3,10] (fun a i=> ∃j:Nat,j≤8∧i= .int .i64 j∧a= .int .u64 (bu.sn sR j (BitVec.ofNat 64 k)).toNat) (fun _ i=>8-(intOf i).toNat);case atStart=>exact⟨0,aa,rfl,by rw[MW k h];rfl⟩
   case round=>
    obtain⟨j,hj,rfl,rfl⟩:=hrel;by_cases h8:j<8
    ·have hs:=hdd (bu.sx sR j (BitVec.ofNat 64 k));generalize bu.sn sR j (BitVec.ofNat 64 k)=x at*;go_wp2_with fail
     ·go_round;case rel=>exact⟨j+1,aa,aq,by rw[hs.out,←IN x (by assumption)]⟩
      case measure=>simp[intOf];omega
     ·go_round;case rel=>exact⟨j+1,aa,aq,by rw[hs.out,←Se x (by assumption)]⟩
      case measure=>simp[intOf];omega
    ·obtain rfl:j=8:=(by omega);go_wp2_with fail;go_roundw;case rel=>refine⟨k+1,aa,aq,r0.setOther av _,?_,rb.setCell av _⟩;exact(r1.set k _).congr fun i _=>sy k i
     case measure=>simp[intOf];omega
  ·obtain rfl:k=256:=(by omega);obtain⟨cs,hcs,hn,hv⟩:=r1;obtain⟨os,wH,pM,hvo⟩:=r0;obtain rfl:=vz hn hv;go_wp2_with (first | (refine wpList_load_row rfl 248 _ rfl g rfl 248 tabs _ _ hcs underlying248 rfl ?c1 ?_) | (refine wpList_store_row rfl 248 _ _ rfl w.heap.size tabs rfl rfl 248 os wH ?c2 ?c3 ?c4 ?_))
   case c1=>rw[Cy,hn]
   case c2=>rw[Cy,hn]
   case c3=>rw[pM,hn]
   case c4=>exact sB
   refine bodyPost_ret (results_cell_row rfl _ _ w.heap.size 248 tabs _ _ rfl (setRow_heap _ _ _ _ _ _ wH) underlying248 rfl (by rw[Cy,hn])) rfl ?_;exact⟨rfl,below_setRow rb (Nat.le_refl _) _⟩
theorem Sj(a:BitVec 64):bits .xor .u64 IntKind.u64.max (a.toNat:Int)=((~~~a).toNat:Int):=by rw[show IntKind.u64.max=(((BitVec.allOnes 64).toNat:Nat):Int)from rfl,Si,BitVec.allOnes_xor]
structure qA(w0:World)(g:Nat)(w:World):Prop where
 tab: ∀i,i<256→w.cell? ⟨g,i,none⟩=some (.int .u64 (T i).toNat)
 below:Below w0.heap.size w0 w
theorem mM(b:UInt8):(bu.ext 64 b).toNat=b.toNat:=by have:=b.toNat_lt;unfold bu.ext;simp only[BitVec.toNat_setWidth,UInt8.toNat_toBitVec];omega
theorem yc(x:BitVec 64)(v:UInt8)(m:Nat)(hm:m=(x.toNat%256) ^^^ v.toNat):bits .xor .u64 ((x.toNat:Int)/256) ((T m).toNat:Int)=((bu.Kx sR x v).toNat:Int):=by
 have e:(x.toNat:Int)/(256:Int)=((x >>> 8).toNat:Int):=by rw[BitVec.toNat_ushiftRight,Nat.shiftRight_eq_div_pow];simp
 have hl:bu.low (x ^^^ bu.ext 64 v)=BitVec.ofNat 64 m:=by unfold bu.low;apply BitVec.eq_of_toNat_eq;have hv:=v.toNat_lt;simp only[BitVec.toNat_setWidth,BitVec.toNat_ofNat,BitVec.toNat_xor,mM];rw[Nat.xor_mod_two_pow (n:=8),hm,Nat.mod_eq_of_lt (show v.toNat<2^8 by omega)]
 have hs:(x ^^^ bu.ext 64 v) >>> 8=x >>> 8:=by apply BitVec.eq_of_getLsbD_eq;intro i _;rw[BitVec.getLsbD_ushiftRight,BitVec.getLsbD_ushiftRight,BitVec.getLsbD_xor,bu.Ct 64 v _ aa];simp
 rw[e,Si];unfold bu.Kx;rw[bu.vx,hs,hl];rfl
theorem yd(x:BitVec 64)(v:UInt8): ∃m:Nat,m<256∧m=(x.toNat%256) ^^^ v.toNat∧bits .xor .u8 ((x.toNat:Int)%256) (v.toNat:Int)=(m:Int):=by have hv:=v.toNat_lt;refine⟨_,Nat.xor_lt_two_pow (n:=8) (show x.toNat%256<2^8 by omega) (show v.toNat<2^8 by omega),rfl,?_⟩;rw[show(x.toNat:Int)%256=((x.toNat%256:Nat):Int)from aa,u8_xor_nat _ _ aa aa]
theorem lU(x:BitVec 64)(l:List UInt8)(k:Nat)(h:k<l.length):bu.dN sR x (l.take (k+1))=bu.Kx sR (bu.dN sR x (l.take k)) l[k]:=by rw[List.take_succ_eq_append_getElem h,bu.uu];rfl
def dy(s:BitVec 64)(l:List UInt8):BitVec 64:= ~~~ bu.dN sR (~~~ s) l
theorem xL(s:BitVec 64)(A:Option Addr)(l:List UInt8)(c:Nat)(w:World)(hB:Bytes w A l)(hc:l.length≤c)(hm:c≤9223372036854775807):
  Calls prog 128 #[.int .u64 s.toNat,.slice A l.length c] w fun e w'=>
   e= .returned (.int .u64 (dy s l).toNat)∧Below w.heap.size w w':=by
 have hz:=(zero_of_info Yj).1;go_enter func128,ntmps128;go_wp2_with fail;refine(zIO w).mono ?_;rintro e w1 ⟨rfl,aC⟩;go_wp2_with (refine wpList_store_row rfl 248 _ _ rfl w1.heap.size tabs rfl rfl 248 jl (heap_alloc_last _ _) ?c2 ?c3 ?c4 ?_)
 case c2=>rw[Cy,lT]
 case c3=>rw[lT];simp[jl]
 case c4=>exact sB
 rw[World.setRow_alloc_new,Sj];have hT:qA w w1.heap.size (w1.alloc (.cells tabs 248)):=⟨tI (heap_alloc_last _ _),aC.alloc aC.size _⟩
 have iH:=hB.below hT.below;generalize w1.alloc (.cells tabs 248)=w2 at*;generalize w1.heap.size=g at*;clear aC hz hB;generalize vl: ~~~s=x0;have KS:=hdd vl;clear vl;go_loop [6,14] (fun P_ i=> ∃k:Nat,k≤l.length∧i= .int .i64 k∧P_= .int .u64 (bu.dN sR x0 (l.take k)).toNat) (fun _ i=>l.length-(intOf i).toNat);case atStart=>exact⟨0,aa,rfl,by simp[bu.dN]⟩
 case round=>
  obtain⟨k,hk,rfl,rfl⟩:=hrel;by_cases aF:k<l.length
  ·obtain⟨b,off,rfl,_,hcell⟩:=iH.addr aa;have tQ:=hcell k aF;have hs:=hdd (lU x0 l k aF);generalize bu.dN sR x0 (l.take k)=y at*;obtain⟨m,lG,FU,B_⟩:=yd y l[k];have hct:=hT.tab m aa;have Hmv:=hdd FU;clear FU;have i0:(m:Int)<256:=aa;generalize l[k]=v at*;clear hcell;go_wp2_with fail;go_round;case rel=>exact⟨k+1,aa,aq,by rw[hs.out,←yc y v m Hmv.out]⟩
   case measure=>simp[intOf];omega
  ·obtain rfl:k=l.length:=(by omega);go_wp2_with fail;go_ret;have uS:bits .xor .u64 IntKind.u64.max ((bu.dN sR x0 l).toNat:Int)=((dy s l).toNat:Int):=(by rw[Sj,←KS.out];rfl);exact⟨congrArg (fun n:Int=>Ending.returned (Value.int .u64 n)) uS,hT.below⟩
end IR
namespace IR
def ye(x0:BitVec 64)(v k:Nat)(y:BitVec 64)(xk:Nat):Prop:=xk=v/2^k∧y ^^^ BitVec.ofNat 64 xk=bu.sn sR k (x0 ^^^ BitVec.ofNat 64 v)
theorem qB(m:Nat)(h:m<256):BitVec.ofNat 64 m >>> 1=BitVec.ofNat 64 (m/2):=by apply BitVec.eq_of_toNat_eq;rw[BitVec.toNat_ushiftRight,BitVec.toNat_ofNat,BitVec.toNat_ofNat,Nat.shiftRight_eq_div_pow];omega
theorem Cv(y:BitVec 64)(m:Nat)(h:m<256):bits .xor .u64 (y.toNat:Int) (m:Int)=((y ^^^ BitVec.ofNat 64 m).toNat:Int):=by have e:(m:Int)=((BitVec.ofNat 64 m).toNat:Int):=AY;rw[e,Si]
theorem qC(x0:BitVec 64)(v k:Nat)(y:BitVec 64)(xk:Nat)(hv:xk<256)(h:ye x0 v k y xk):
  ye x0 v (k+1) (if(y ^^^ BitVec.ofNat 64 xk).getLsbD 0 then(y >>> 1) ^^^ sR else y >>> 1) (xk/2):=by
 obtain⟨h1,h2⟩:=h;refine⟨by rw[h1,Nat.pow_succ,Nat.div_div_eq_div_mul],?_⟩;rw[bu.sx,←h2,←qB xk hv];unfold bu.s1;rw[BitVec.ushiftRight_xor_distrib];split;·rw[BitVec.xor_assoc,BitVec.xor_assoc,BitVec.xor_comm sR]
 ·simp
theorem tJ(v:UInt8):bu.ext 64 v=BitVec.ofNat 64 v.toNat:=by have:=v.toNat_lt;apply BitVec.eq_of_toNat_eq;rw[mM,BitVec.toNat_ofNat];omega
theorem Cw(z:BitVec 64):((z.toNat:Int)%2==1)=z.getLsbD 0:=by rw[IL,Bool.eq_iff_iff];simp;omega
theorem yg(r:BitVec 64)(A:Option Addr)(l:List UInt8)(c:Nat)(w:World)(hB:Bytes w A l)(hm:l.length≤9223372036854775807):
  Calls prog 146 #[.int .u64 r.toNat,.slice A l.length c] w fun e w'=>
   e= .returned (.int .u64 (bu.dN sR r l).toNat)∧w=w':=by
 go_enter func146,ntmps146;go_wp2_with fail;go_loop [0,5] (fun a i=> ∃k:Nat,k≤l.length∧i= .int .i64 k∧a= .int .u64 (bu.dN sR r (l.take k)).toNat) (fun _ i=>l.length-(intOf i).toNat);case atStart=>exact⟨0,aa,rfl,by simp[bu.dN]⟩
 case round=>
  obtain⟨k,hk,rfl,rfl⟩:=hrel;by_cases aF:k<l.length
  ·obtain⟨b,off,rfl,_,hcell⟩:=hB.addr aa;have tQ:=hcell k aF;have hs:=hdd (lU r l k aF);generalize bu.dN sR r (l.take k)=y at*;generalize l[k]=v at*;have hv:=v.toNat_lt;clear hcell;go_wp2_with fail;go_loop [0,6,7] (fun a x i=> ∃(j:Nat) (z:BitVec 64) (m:Nat),j≤8∧m<256∧i= .int .i64 j∧a= .int .u64 z.toNat∧x= .int .u8 m∧Hid (ye y v.toNat j z m)) (fun _ _ i=>8-(intOf i).toNat);case atStart=>exact⟨0,y,v.toNat,aa,aa,rfl,rfl,rfl,ae,rfl⟩
   case round=>
    obtain⟨j,z,m,hj,lG,rfl,rfl,rfl,hJ⟩:=hrel;by_cases h8:j<8
    ·have hx:=Cv z m lG;have ho:=Cw (z ^^^ BitVec.ofNat 64 m);have bJ:=hdd (qC y v.toNat j z m lG hJ.out);generalize z ^^^ BitVec.ofNat 64 m=q at*;have h2:=hdd (IM z);have hp:=hdd (Si (z >>> 1) sR);cases hb:q.getLsbD 0 with
     | true=>
      rw[hb]at ho;rw[hb,if_pos rfl]at bJ;clear hb;go_wp2_with fail;go_round;case rel=>exact⟨j+1,z >>> 1 ^^^ sR,m/2,aa,aa,aq,by rw[h2.out,←hp.out];rfl,aq,bJ⟩
      case measure=>simp[intOf];omega
     | false=>
      rw[hb]at ho;rw[hb,if_neg an]at bJ;clear hb;go_wp2_with fail;go_round;case rel=>exact⟨j+1,z >>> 1,m/2,aa,aa,aq,by rw[h2.out],aq,bJ⟩
      case measure=>simp[intOf];omega
    ·obtain rfl:j=8:=(by omega);obtain⟨hJ1,Q_⟩:=hJ.out;have hz:z=bu.Kx sR y v:=(by have h0:m=0:=aa;rw[h0]at Q_;unfold bu.Kx;rw[tJ,←Q_];simp);have HZ:=hdd hz;clear hz hJ1 Q_ hJ;go_wp2_with fail;go_round;case rel=>exact⟨k+1,aa,aq,by rw[hs.out,HZ.out]⟩
     case measure=>simp[intOf];omega
  ·obtain rfl:k=l.length:=(by omega);go_wp2_with fail;go_ret;exact⟨rfl,rfl⟩
end IR
namespace IR
theorem Cx(A:Option Addr)(l:List UInt8)(c:Nat)(w:World)(hB:Bytes w A l)(hc:l.length≤c)(hm:c≤9223372036854775807):
  Calls prog 128 #[.int .u64 0,.slice A l.length c] w fun e w'=>
   e= .returned (.int .u64 (dy 0#64 l).toNat)∧Below w.heap.size w w':=xL 0#64 A l c w hB hc hm
theorem rK(A:Option Addr)(l:List UInt8)(c:Nat)(w:World)(hB:Bytes w A l)(hc:l.length≤c)(hm:c≤9223372036854775807):
  Calls prog 86 #[.slice A l.length c] w fun e w'=>
   e= .returned (.int .u64 (dy 0#64 l).toNat)∧Below w.heap.size w w':=by
 go_enter func86,ntmps86;go_wp2_with fail;refine(Cx A l c _ hB hc hm).mono ?_;rintro e w' ⟨rfl,hb⟩;go_wp2_with fail;go_ret;exact⟨rfl,hb⟩
theorem vA(s:BitVec 64):(18446744073709551615:Int)-(s.toNat:Int)=((~~~ s).toNat:Int):=by rw[BitVec.toNat_not];omega
theorem MX(s:BitVec 64)(A:Option Addr)(l:List UInt8)(c:Nat)(w:World)(hB:Bytes w A l)(hm:l.length≤9223372036854775807):
  Calls prog 102 #[.int .u64 s.toNat,.slice A l.length c] w fun e w'=>
   e= .returned (.int .u64 (dy s l).toNat)∧w=w':=by
 have hs:=s.isLt;have h1:=vA s;have gy:((~~~ bu.dN sR (~~~ s) l).toNat:Int)=((dy s l).toNat:Int):=rfl;generalize ~~~ s=t at*;have hu:=vA (bu.dN sR t l);have hl:=(bu.dN sR t l).isLt;rw[gy]at hu;have HU:=hdd hu;clear hu gy;go_enter func102,ntmps102;go_wp2_with fail;refine(yg t A l c _ hB hm).mono ?_;rintro e w' ⟨rfl,rfl⟩;generalize bu.dN sR t l=u at*;have hl':(u.toNat:Int)<18446744073709551616:=aa;go_wp2_with fail;go_ret;have uS:=HU.out;exact⟨congrArg (fun n:Int=>Ending.returned (Value.int .u64 n)) uS,rfl⟩
theorem IS(A:Option Addr)(l:List UInt8)(c:Nat)(w:World)(hB:Bytes w A l)(hm:l.length≤9223372036854775807):
  Calls prog 102 #[.int .u64 0,.slice A l.length c] w fun e w'=>
   e= .returned (.int .u64 (dy 0#64 l).toNat)∧w=w':=MX 0#64 A l c w hB hm
theorem qD(A:Option Addr)(l:List UInt8)(c:Nat)(w:World)(hB:Bytes w A l)(hm:l.length≤9223372036854775807):
  Calls prog 63 #[.slice A l.length c] w fun e w'=>
   e= .returned (.int .u64 (dy 0#64 l).toNat)∧w=w':=by
 go_enter func63,ntmps63;go_wp2_with fail;refine(IS A l c _ hB hm).mono ?_;rintro e w' ⟨rfl,rfl⟩;go_wp2_with fail;go_ret;exact⟨rfl,rfl⟩
end IR
theorem R_(w:World)(r clock:Nat)(k:Int)(es:Array MapEntry)(v:Value)(hb:w.heap[r]? =some (.map es clock))(hf:Instr.findNow (.int .i64) (.int .i64 k) es.toList 0=some none):
  (Instr.mapUpdate 88 (.map (some r)) (.int .i64 k) v).run prog w= .ok () {w with heap:=w.heap.setIfInBounds r (.map (es.push {key:= .int .i64 k,val:=v,born:=clock}) (clock+1))}:=by
 have hc:(Instr.checkKey false 10000 3 (.int .i64 k)).run prog w= .ok () w:=MapKept.run_checkKey (k:= .int .i64 k) underlying3 (by simp[MapKept.IsKey]) false 9999;simp[Instr.mapUpdate,run_underlying underlying88,MapKept.run_getObj_map hb,hc,MapKept.run_findKey underlying3 hf,MapKept.run_setObj_map _ hb,Result.andThen]
def ln:Array MapEntry:= #[⟨.int .i64 0,.func (.func 81) #[] #[],0⟩,⟨.int .i64 1,.func (.func 82) #[] #[],1⟩,⟨.int .i64 4,.func (.func 85) #[] #[],2⟩,⟨.int .i64 10,.func (.func 87) #[] #[],3⟩]
theorem vB{W:World}{r:Nat}{es:Array MapEntry}(k:Int)(v:Value)(hb:W.heap[r]? =some (.map es c))(hf:Instr.findNow (.int .i64) (.int .i64 k) es.toList 0=some none)(hB:Below w.heap.size w W)(hr:w.heap.size≤r):
  ∃W',(Instr.mapUpdate 88 (.map (some r)) (.int .i64 k) v).run prog W= .ok () W'∧W'.heap[r]? =some (.map (es.push {key:= .int .i64 k,val:=v,born:=c}) (c+1))∧Below w.heap.size w W':=by
 refine⟨_,R_ W r c k es v hb hf,(MapKept.heap_set hb).1,?_⟩;exact⟨hB.os,hB.tape,hB.output,by simpa using hB.size,fun i hi=>((MapKept.heap_set hb).2 i aa).trans (hB.block i hi)⟩
def Sk(w:World)(e:Ending)(w':World):Prop:= ∃r,e= .returned (.map (some r))∧w'.heap[r]? =some (.map ln 4)∧w.heap.size≤r∧Below w.heap.size w w'
theorem ki(w:World):Calls prog 47 #[] w (Sk w):=by have KV:=run_makeMap (P:=prog) 88 w;have b0:=(MapKept.heap_alloc w (.map #[] 0)).1;have B0:Below w.heap.size w (w.alloc (.map #[] 0)):=ap;generalize w.alloc (.map #[] 0)=W0 at*;obtain⟨W1,i1,b1,B1⟩:=vB 0 (.func (.func 81) #[] #[]) b0 rfl B0 (Nat.le_refl _);obtain⟨W2,i2,b2,B2⟩:=vB 1 (.func (.func 82) #[] #[]) b1 rfl B1 (Nat.le_refl _);obtain⟨W3,i3,b3,B3⟩:=vB 4 (.func (.func 85) #[] #[]) b2 rfl B2 (Nat.le_refl _);obtain⟨W4,i4,b4,B4⟩:=vB 10 (.func (.func 87) #[] #[]) b3 rfl B3 (Nat.le_refl _);have iz:=hdd b4;clear b0 b1 b2 b3 b4;go_enter func47,ntmps47;go_wp2_with fail;go_ret;exact⟨w.heap.size,rfl,iz.out,Nat.le_refl _,B4⟩
theorem mN(w:World)(r:Nat)(id:Int)(hb:w.heap[r]? =some (.map ln 4))(a:Option (Nat×Value))(hf:Instr.findNow (.int .i64) (.int .i64 id) ln.toList 0=some a):
  (Instr.lookup 88 (.map (some r)) (.int .i64 id) true).run prog w= .ok (.tuple #[(a.map (·.2)).getD .nilFunc,.bool a.isSome]) w:=by
 have hz:(zeroValue 86).run prog w= .ok .nilFunc w:=ak;have hc: ∀e,(Instr.checkKey e 10000 3 (.int .i64 id)).run prog w= .ok () w:=fun e=>MapKept.run_checkKey (k:= .int .i64 id) underlying3 (by simp[MapKept.IsKey]) e 9999;cases a<;>simp[Instr.lookup,run_underlying underlying88,MapKept.run_getObj_map hb,hc,MapKept.run_findKey underlying3 hf,hz,Result.andThen]
def eD(c:Int):Bool:=c==0||c==1||c==4||c==10
theorem Av:Instr.findNow (.int .i64) (.int .i64 0) ln.toList 0=some (some (0,.func (.func 81) #[] #[])):=rfl
theorem tK:Instr.findNow (.int .i64) (.int .i64 1) ln.toList 0=some (some (1,.func (.func 82) #[] #[])):=rfl
theorem Ax:Instr.findNow (.int .i64) (.int .i64 4) ln.toList 0=some (some (2,.func (.func 85) #[] #[])):=rfl
theorem yh:Instr.findNow (.int .i64) (.int .i64 10) ln.toList 0=some (some (3,.func (.func 87) #[] #[])):=rfl
theorem mO(c k:Int)(h:c≠k):Instr.sameNow (.int .i64) (.int .i64 c) (.int .i64 k)=some false:=by simp[Instr.sameNow,h]
theorem yi(c:Int)(h:eD c=false):Instr.findNow (.int .i64) (.int .i64 c) ln.toList 0=some none:=by simp[eD]at h;obtain⟨⟨⟨h0,h1⟩,h4⟩,uR⟩:=h;simp[ln,Instr.findNow,mO _ _ h0,mO _ _ h1,mO _ _ h4,mO _ _ uR]
def jm(c:Int)(l:List UInt8):List UInt8:=if c=1 then ji (C3.dy 0#32 l).toNat 4 else if c=4 then ji (IR.dy 0#64 l).toNat 8 else if c=10 then(St.new.dZ l).eW else []
def dj(c:Int):Nat:=if c=1 then 4 else if c=4 then 8 else if c=10 then 32 else 0
theorem gM(c:Int)(l:List UInt8):(jm c l).length=dj c:=by
 unfold jm dj;split;·exact jk _ _
 ·split;·exact jk _ _
  ·split;·exact lh _
   ·rfl
theorem S_(g:Nat)(w:World):(Instr.sliceAt 124 (.pointer (some ⟨g,0,none⟩)) none none none).run prog w= .ok (.slice (some ⟨g,0,none⟩) 32 32) w:=by have ha:prog.arrayLen 124=32:=ak;have hu:prog.underlying 124=some (.array (prog.arrayLen 124) (prog.elem 124)):=ak;have hs:(sizeOf (prog.elem 124)).run prog w= .ok 1 w:=ak;rw[run_sliceAt_array_all w 124 ⟨g,0,none⟩ hu,hs,ha];simp[Result.andThen,slicedAt];unfold Addr.add;split<;>simp_all
theorem iS(w:World):Below w.heap.size w w.drew:=(Below.refl _ _).drew
theorem T_(v:Value)(w:World):Calls prog 81 #[v] w (bS w []):=by go_enter func81,ntmps81;go_wp2_with fail;go_ret;exact⟨none,0,rfl,ae,aa,.nil,Below.refl _ _⟩
theorem Sl(A:Option Addr)(l:List UInt8)(c:Nat)(w:World)(hB:Bytes w A l)(hc:l.length≤c)(hm:c≤9223372036854775807):Calls prog 82 #[.slice A l.length c] w (bS w (ji (C3.dy 0#32 l).toNat 4)):=by have HS:=hdd (C3.rK A l c w hB hc hm);have hx:=(C3.dy 0#32 l).isLt;generalize(C3.dy 0#32 l).toNat=x at*;have HL:=hdd (fun w=>oq x 4 aa aa w);have vl:(0:Int)≤(x:Int):=aa;have ly:(x:Int)<4294967296:=aa;go_enter func82,ntmps82;go_wp2_with fail;refine HS.out.mono ?_;rintro e w1 ⟨rfl,aC⟩;go_wp2_with fail;refine(HL.out w1).mono ?_;rintro e w2 hd;obtain⟨A2,c2,rfl,fS,eY,gX,aE⟩:=hd.bytes;go_wp2_with fail;go_ret;exact⟨A2,c2,rfl,fS,eY,gX,aO aC aE⟩
theorem U_(A:Option Addr)(l:List UInt8)(c:Nat)(w:World)(hB:Bytes w A l)(hc:l.length≤c)(hm:c≤9223372036854775807):Calls prog 85 #[.slice A l.length c] w (bS w (ji (IR.dy 0#64 l).toNat 8)):=by have HS:=hdd (IR.rK A l c w hB hc hm);have hx:=(IR.dy 0#64 l).isLt;generalize(IR.dy 0#64 l).toNat=x at*;have HL:=hdd (fun w=>oq x 8 aa aa w);go_enter func85,ntmps85;go_wp2_with fail;refine HS.out.mono ?_;rintro e w1 ⟨rfl,aC⟩;go_wp2_with fail;refine(HL.out w1).mono ?_;rintro e w2 hd;obtain⟨A2,c2,rfl,fS,eY,gX,aE⟩:=hd.bytes;go_wp2_with fail;go_ret;exact⟨A2,c2,rfl,fS,eY,gX,aO aC aE⟩
theorem V_(A:Option Addr)(l:List UInt8)(c:Nat)(w:World)(hT:nN w)(hB:Bytes w A l)(hc:l.length≤c)(hm:c≤9223372036854775807)(hn:l.length≤100000000):Calls prog 87 #[.slice A l.length c] w (bS w (St.new.dZ l).eW):=by
 have HS:=hdd (Lg A l c w hT hB hc hm hn);have Wd:(St.new.dZ l).eW.length=32:=lh _;have ac9:=(zero_of_info wR).1;generalize(St.new.dZ l).eW=D at*;go_enter func87,ntmps87;go_wp2_with fail;refine HS.out.mono ?_;rintro e w2 ⟨rfl,aE⟩;have gF:=heap_alloc_last w2 (.cells aV 124);have rL:=World.setRow_alloc_new w2 aV (D.map B8).toArray 124;have dJ:((prog.info? 124).map (·.size))=some (D.map B8).toArray.size:=by rw[oU];simp[Wd]
 have vn:aV.size=(D.map B8).toArray.size:=by simp[Wd,aV]
 have ku:(D.map B8).toArray.all (·.oneCell')=true:=all_oneCell_toArray (la _);have nR:Bytes (w2.alloc (.cells (D.map B8).toArray 124)) (some ⟨w2.heap.size,0,none⟩) D:= .inr ⟨_,_,rfl,ae,fun k hk=>by
  rw[cell_of_row _ _ _ _ _ _ (heap_alloc_last _ _),Nat.zero_add,List.getElem?_toArray,List.getElem?_map,List.getElem?_eq_getElem hk];rfl⟩
 have aW:=aE.trans ((bF w2 (.cells (D.map B8).toArray 124)).mono aE.size);have fc:=hdd nR;have wS:=hdd rL;have Lv:=hdd Wd;have k:=fun w=>S_ w2.heap.size w;generalize(D.map B8).toArray=DV at*;clear rL nR Wd aE;go_wp2_with (refine wpList_store_row rfl 124 _ _ rfl w2.heap.size DV rfl rfl 124 aV gF dJ vn ku ?_;rw[wS.out])
 go_ret;exact⟨some ⟨w2.heap.size,0,none⟩,32,by rw[Lv.out];rfl,by rw[Lv.out];omega,aa,fc.out,aW⟩
theorem qE(c:Int):c=0∨c=1∨c=4∨c=10∨eD c=false:=by
 unfold eD;by_cases h0:c=0;·exact .inl h0
 by_cases h1:c=1;·exact .inr (.inl h1)
 by_cases h4:c=4;·exact .inr (.inr (.inl h4))
 by_cases uR:c=10;·exact .inr (.inr (.inr (.inl uR)))
 ·simp[h0,h1,h4,uR]
theorem yj(c:Int)(w:World):Calls prog 26 #[.int .i64 c] w fun e w'=>e= .returned (.bool (eD c))∧Below w.heap.size w w':=by
 have key: ∀(a:Option (Nat×Value)) (v:Value) (b:Bool),Instr.findNow (.int .i64) (.int .i64 c) ln.toList 0=some a→(a.map (·.2)).getD .nilFunc=v→a.isSome=b→eD c=b→
   Calls prog 26 #[.int .i64 c] w fun e w'=>e= .returned (.bool b)∧Below w.heap.size w w':=by
  intro a v b hf hv hb _;go_enter func26,ntmps26;go_wp2_with fail;refine(ki w).mono ?_;rintro e w1 ⟨r,rfl,hm,hr,aC⟩;have k:=mN w1 r c hm a hf;rw[hv,hb]at k;clear hf hv hb hm;go_wp2_with fail;go_ret;exact⟨rfl,aC⟩
 rcases qE c with rfl | rfl | rfl | rfl | h;·exact key _ _ _ Av rfl rfl rfl
 ·exact key _ _ _ tK rfl rfl rfl
 ·exact key _ _ _ Ax rfl rfl rfl
 ·exact key _ _ _ yh rfl rfl rfl
 ·rw[h];exact key _ _ _ (yi c h) rfl rfl h
theorem Cz(c:Int)(A:Option Addr)(l:List UInt8)(cap:Nat)(w:World)(hT:nN w)(hB:Bytes w A l)(hc:l.length≤cap)(hm:cap≤9223372036854775807)(hn:l.length≤100000000):
  Calls prog 18 #[.int .i64 c,.slice A l.length cap] w (bS w (jm c l)):=by
 rcases qE c with rfl | rfl | rfl | rfl | h;·have HT:=hdd hT;clear hT;show Calls _ _ _ _ (bS w []);go_enter func18,ntmps18;go_wp2_with fail;refine(ki w).mono ?_;rintro e w1 ⟨r,rfl,fX,hr,aC⟩;have k:(Instr.lookup 88 (.map (some r)) (.int .i64 0) true).run prog w1= .ok (.tuple #[.func (.func 81) #[] #[],.bool true]) w1:=mN w1 r 0 fX _ Av;have iH:=hB.below aC;have qV:=HT.out.below aC;have yX:=hdd (T_ (.slice A l.length cap) w1);clear fX qV iH hB;go_wp2_with fail;refine yX.out.mono ?_;rintro e w2 ⟨A2,c2,rfl,fS,eY,gX,aE⟩;go_wp2_with fail;go_ret;exact⟨A2,c2,rfl,fS,eY,gX,aO aC aE⟩
 ·have HT:=hdd hT;clear hT;show Calls _ _ _ _ (bS w (ji (C3.dy 0#32 l).toNat 4));go_enter func18,ntmps18;go_wp2_with fail;refine(ki w).mono ?_;rintro e w1 ⟨r,rfl,fX,hr,aC⟩;have k:(Instr.lookup 88 (.map (some r)) (.int .i64 1) true).run prog w1= .ok (.tuple #[.func (.func 82) #[] #[],.bool true]) w1:=mN w1 r 1 fX _ tK;have iH:=hB.below aC;have qV:=HT.out.below aC;have yX:=hdd (Sl A l cap w1 iH hc hm);clear fX qV iH hB;go_wp2_with fail;refine yX.out.mono ?_;rintro e w2 ⟨A2,c2,rfl,fS,eY,gX,aE⟩;go_wp2_with fail;go_ret;exact⟨A2,c2,rfl,fS,eY,gX,aO aC aE⟩
 ·have HT:=hdd hT;clear hT;show Calls _ _ _ _ (bS w (ji (IR.dy 0#64 l).toNat 8));go_enter func18,ntmps18;go_wp2_with fail;refine(ki w).mono ?_;rintro e w1 ⟨r,rfl,fX,hr,aC⟩;have k:(Instr.lookup 88 (.map (some r)) (.int .i64 4) true).run prog w1= .ok (.tuple #[.func (.func 85) #[] #[],.bool true]) w1:=mN w1 r 4 fX _ Ax;have iH:=hB.below aC;have qV:=HT.out.below aC;have yX:=hdd (U_ A l cap w1 iH hc hm);clear fX qV iH hB;go_wp2_with fail;refine yX.out.mono ?_;rintro e w2 ⟨A2,c2,rfl,fS,eY,gX,aE⟩;go_wp2_with fail;go_ret;exact⟨A2,c2,rfl,fS,eY,gX,aO aC aE⟩
 ·have HT:=hdd hT;clear hT;show Calls _ _ _ _ (bS w (St.new.dZ l).eW);go_enter func18,ntmps18;go_wp2_with fail;refine(ki w).mono ?_;rintro e w1 ⟨r,rfl,fX,hr,aC⟩;have k:(Instr.lookup 88 (.map (some r)) (.int .i64 10) true).run prog w1= .ok (.tuple #[.func (.func 87) #[] #[],.bool true]) w1:=mN w1 r 10 fX _ yh;have iH:=hB.below aC;have qV:=HT.out.below aC;have yX:=hdd (V_ A l cap w1 qV iH hc hm hn);clear fX qV iH hB;go_wp2_with fail;refine yX.out.mono ?_;rintro e w2 ⟨A2,c2,rfl,fS,eY,gX,aE⟩;go_wp2_with fail;go_ret;exact⟨A2,c2,rfl,fS,eY,gX,aO aC aE⟩
 ·have hs:jm c l=[]:=by simp[eD]at h;unfold jm;rw[if_neg aa,if_neg aa,if_neg aa]
  rw[hs];have HF:=hdd (yi c h);go_enter func18,ntmps18;go_wp2_with fail;refine(ki w).mono ?_;rintro e w1 ⟨r,rfl,fX,hr,aC⟩;have k:(Instr.lookup 88 (.map (some r)) (.int .i64 c) true).run prog w1= .ok (.tuple #[.nilFunc,.bool false]) w1:=mN w1 r c fX _ HF.out;clear fX;go_wp2_with fail;go_ret;exact⟨none,0,rfl,ae,aa,.nil,aC⟩
theorem Sm(c:Int)(w:World)(hT:nN w):Calls prog 35 #[.int .i64 c] w fun e w'=>e= .returned (.int .i64 (dj c:Nat))∧Below w.heap.size w w':=by have HS:=hdd (Cz c none [] 0 w hT .nil ae aa ae);have HL:=hdd (gM c []);generalize jm c []=L at*;go_enter func35,ntmps35;go_wp2_with fail;refine HS.out.mono ?_;rintro e w1 ⟨A,c1,rfl,fY,fX,iH,aC⟩;go_wp2_with fail;go_ret;exact⟨by rw[HL.out];rfl,aC⟩
def qF(c:Int):Int:=if eD c then(dj c:Int)else -1
theorem Ay(c:Int)(w:World):Calls prog 23 #[.int .i64 c] w fun e w'=>e= .returned (.int .i64 (qF c))∧w=w':=by
 rcases qE c with rfl | rfl | rfl | rfl | h;·go_enter func23,ntmps23;go_wp2_with fail;go_ret;exact⟨rfl,rfl⟩
 ·go_enter func23,ntmps23;go_wp2_with fail;go_ret;exact⟨rfl,rfl⟩
 ·go_enter func23,ntmps23;go_wp2_with fail;go_ret;exact⟨rfl,rfl⟩
 ·go_enter func23,ntmps23;go_wp2_with fail;go_ret;exact⟨rfl,rfl⟩
 ·have hr:qF c= -1:=by unfold qF;rw[h];rfl
  rw[hr];simp[eD]at h;obtain⟨⟨⟨h0,h1⟩,h4⟩,uR⟩:=h;have e0:(c==0)=false:=by simpa using h0
  have e1:(c==1)=false:=by simpa using h1
  have e4:(c==4)=false:=by simpa using h4
  have J':(c==10)=false:=by simpa using uR
  clear h0 h1 h4 uR hr;go_enter func23,ntmps23;go_wp2_with fail;go_ret;exact⟨rfl,rfl⟩
theorem AA(A:Option Addr)(l:List UInt8)(c:Nat)(w:World)(hB:Bytes w A l)(hm:l.length≤100000000):Calls prog 32 #[.int .i64 1,.slice A l.length c] w (jR w (jm 1 l)):=by have HS:=hdd (C3.qD A l c w hB aa);have hs:jm 1 l=ji (C3.dy 0#32 l).toNat 4:=rfl;rw[hs];have hx:=(C3.dy 0#32 l).isLt;generalize(C3.dy 0#32 l).toNat=x at*;have HL:=hdd (fun w=>Ks 4 x w aa aa);have vl:(0:Int)≤(x:Int):=aa;have ly:(x:Int)<4294967296:=aa;clear hs;go_enter func32,ntmps32;go_wp2_with fail;refine HS.out.mono ?_;rintro e w1 ⟨rfl,rfl⟩;go_wp2_with fail;refine(HL.out _).mono ?_;rintro e w2 ⟨v,rfl,ho,hb⟩;go_wp2_with fail;go_ret;exact⟨v,rfl,ho,hb⟩
theorem Sn(c:Int)(A:Option Addr)(l:List UInt8)(cap:Nat)(w:World)(hB:Bytes w A l)(hm:l.length≤100000000):Calls prog 32 #[.int .i64 c,.slice A l.length cap] w (bS w (jm c l)):=by
 by_cases h1:c=1;·subst h1;exact(AA A l cap w hB hm).mono fun e w' h=>h.bytes
 by_cases h4:c=4;·subst h4;have HS:=hdd (IR.qD A l cap w hB aa);have hs:jm 4 l=ji (IR.dy 0#64 l).toNat 8:=rfl;rw[hs];have hx:=(IR.dy 0#64 l).isLt;generalize(IR.dy 0#64 l).toNat=x at*;have HL:=hdd (fun w=>Ks 8 x w aa aa);clear hs;go_enter func32,ntmps32;go_wp2_with fail;refine HS.out.mono ?_;rintro e w1 ⟨rfl,rfl⟩;go_wp2_with fail;refine(HL.out _).mono ?_;rintro e w2 hd;obtain⟨A2,c2,rfl,fS,eY,gX,aE⟩:=hd.bytes;go_wp2_with fail;go_ret;exact⟨A2,c2,rfl,fS,eY,gX,aE⟩
 by_cases uR:c=10;·subst uR;have HS:=hdd (Sb A l cap w hB hm);have hs:jm 10 l=(St.new.dZ l).eW:=rfl;rw[hs];generalize(St.new.dZ l).eW=D at*;clear hs;go_enter func32,ntmps32;go_wp2_with fail;refine HS.out.mono ?_;rintro e w2 ⟨A2,c2,rfl,fS,eY,gX,aE⟩;go_wp2_with fail;go_ret;exact⟨A2,c2,rfl,fS,eY,gX,aE⟩
 ·have hs:jm c l=[]:=by unfold jm;rw[if_neg h1,if_neg h4,if_neg uR]
  rw[hs];have e1:(c==1)=false:=by simpa using h1
  have e4:(c==4)=false:=by simpa using h4
  have J':(c==10)=false:=by simpa using uR
  clear hs h1 h4 uR;go_enter func32,ntmps32;go_wp2_with fail;go_ret;exact⟨none,0,rfl,ae,aa,.nil,Below.refl _ _⟩
def lV(l:List UInt8):List UInt8:=ji (C3.dy 0#32 l).toNat 4
theorem gN(l:List UInt8):(lV l).length=4:=jk _ _
theorem Fl(A:Option Addr)(l:List UInt8)(cap:Nat)(w:World)(hB:Bytes w A l)(hc:l.length≤cap)(hm:cap≤9223372036854775807):
  Calls prog 18 #[.int .i64 1,.slice A l.length cap] w (bS w (lV l)):=by
 show Calls _ _ _ _ (bS w (ji (C3.dy 0#32 l).toNat 4));go_enter func18,ntmps18;go_wp2_with fail;refine(ki w).mono ?_;rintro e w1 ⟨r,rfl,fX,hr,aC⟩;have k:(Instr.lookup 88 (.map (some r)) (.int .i64 1) true).run prog w1= .ok (.tuple #[.func (.func 82) #[] #[],.bool true]) w1:=mN w1 r 1 fX _ tK;have iH:=hB.below aC;have yX:=hdd (Sl A l cap w1 iH hc hm);clear fX iH hB;go_wp2_with fail;refine yX.out.mono ?_;rintro e w2 ⟨A2,c2,rfl,fS,eY,gX,aE⟩;go_wp2_with fail;go_ret;exact⟨A2,c2,rfl,fS,eY,gX,aO aC aE⟩
def kV(w:World)(g:Nat)(L:List UInt8):Prop:= ∀i (h:i<L.length),w.cell? ⟨g,i,none⟩=some (B8 L[i])∧w.frozen? ⟨g,i,none⟩=false
def AH(w:World)(L:List UInt8)(e:Ending)(w':World):Prop:= ∃g cap,e= .returned (.slice (some ⟨g,0,none⟩) L.length cap)∧L.length≤cap∧cap≤9223372036854775807∧w.heap.size≤g∧g<w'.heap.size∧kV w' g L∧Below w.heap.size w w'
theorem kV.bytes{L:List UInt8}(h:kV w g L)(hg:g<w.heap.size):Bytes w (some ⟨g,0,none⟩) L:= .inr ⟨g,0,rfl,hg,fun k hk=>by rw[Nat.zero_add];exact(h k hk).1⟩
theorem kn{A:Option Addr}(h:Bytes w A l):Lib.HoldsBytes w (.slice A l.length c) l:=by
 refine⟨A,c,rfl,fun e=> ?_,fun a e i x hx=> ?_⟩
 ·rcases h with h | ⟨b,off,h,_⟩
  ·exact h
  ·rw[e]at h;cases h
 ·rcases h with h | ⟨b,off,h,_,hc⟩
  ·subst h;simp at hx
  ·rw[e]at h;injection h with h;subst h
   have hi:i<l.length:=by
    rcases Nat.lt_or_ge i l.length with h | h;·exact h
    ·rw[List.getElem?_eq_none h]at hx;cases hx
   rw[List.getElem?_eq_getElem hi]at hx;injection hx with hx;rw[←hx,show(⟨b,off,none⟩:Addr).add i=⟨b,off+i,none⟩from pD];exact hc i hi
theorem CG{B:Nat}{w':World}{v:Value}(h:Lib.FreshBytes B w' v l)(hl:0<l.length):
  ∃g cap,v= .slice (some ⟨g,0,none⟩) l.length cap∧l.length≤cap∧cap≤9223372036854775807∧B≤g∧g<w'.heap.size∧kV w' g l:=by
 obtain⟨g,cap,zs,rfl,hg,ks,uz,hz,Wt,hb,hc,hf⟩:=h;refine⟨g,cap,rfl,ks,JC,hg,?_,fun i hi=>⟨?_,hf i aa⟩⟩;·have:=World.block_lt_of_cell? _ _ (hc 0 aa);simpa using this
 ·rw[hc i aa];have hiz:i<zs.length:=aa;have e:zs.getD i 0=zs[i]:=by simp[List.getD,hiz]
  have ZK:=Wt zs[i] (List.getElem_mem _);have sQ:l[i]=UInt8.ofNat zs[i].toNat:=by have h2:(Lib.bytesOf (zs.take l.length))[i]? =l[i]? :=(by rw[hb]);rw[List.getElem?_eq_getElem hi]at h2;unfold Lib.bytesOf at h2;rw[List.getElem?_map,List.getElem?_take,if_pos hi,List.getElem?_eq_getElem hiz]at h2;simpa using h2.symm
  rw[e,sQ];show some (Value.int .u8 zs[i])=some (Value.int .u8 ((UInt8.ofNat zs[i].toNat).toNat:Nat));rw[UInt8.toNat_ofNat'];congr 2;omega
theorem afJ{A0 A1 A2:Option Addr}{l0 l1 l2:List UInt8}{c0 c1 c2:Nat}(w:World)(h0:Bytes w A0 l0)(h1:Bytes w A1 l1)(h2:Bytes w A2 l2)
  (k0:w.cell? ⟨g,0,none⟩=some (.slice A0 l0.length c0)) (k1:w.cell? ⟨g,1,none⟩=some (.slice A1 l1.length c1)) (k2:w.cell? ⟨g,2,none⟩=some (.slice A2 l2.length c2))
  (L:List UInt8) (hL:l0++l1++l2=L) (hl:L.length≤1000000) (hp:0<L.length):
  Calls prog 19 #[.slice (some ⟨g,0,none⟩) 3 3,.slice none 0 0] w (AH w L):=by
 have hlen:l0.length+l1.length+l2.length=L.length:=by rw[←hL];simp;omega
 have hP:Lib.PartsAt w ⟨g,0,none⟩ [.slice A0 l0.length c0,.slice A1 l1.length c1,.slice A2 l2.length c2] [l0,l1,l2]:=by
  refine⟨rfl,fun i v hv=> ?_,fun i v l hv hl=> ?_⟩
  ·rw[show(⟨g,0,none⟩:Addr).add i=⟨g,i,none⟩from pD];match i with
   | 0=>simp at hv;subst hv;exact k0
   | 1=>simp at hv;subst hv;exact k1
   | 2=>simp at hv;subst hv;exact k2
   | i+3=>simp at hv
  ·match i with
   | 0=>simp at hv hl;subst hv;subst hl;exact kn h0
   | 1=>simp at hv hl;subst hv;subst hl;exact kn h1
   | 2=>simp at hv hl;subst hv;subst hl;exact kn h2
   | i+3=>simp at hv
 refine(nk g 0 3 3 _ [l0,l1,l2] (.slice none 0 0) [] w rfl aa hP aa ⟨none,0,rfl,fun _=>rfl,fun a e=>jX⟩ aa (by simp[Lib.lens];omega)).mono ?_;rintro e w' ⟨v,rfl,hv,hb⟩;have ej:Lib.join [l0,l1,l2] []=L:=by rw[Lib.join_cons,←hL];simp[Lib.joinTail]
 rw[ej]at hv;obtain⟨g',cap,rfl,q1,q2,q3,q4,q5⟩:=CG hv hp;exact⟨g',cap,rfl,q1,q2,q3,q4,q5,hb⟩
end Go.Proofs.YtgfpocdiojifoaaGreatDoor
