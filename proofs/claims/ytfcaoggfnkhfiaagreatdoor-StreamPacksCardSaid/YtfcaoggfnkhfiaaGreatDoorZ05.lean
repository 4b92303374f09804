import Derived.Deep.RegionHeld3
import Derived.Test.YtfcaoggfnkhfiaaGreatDoorZ04
import Derived.ChangeKeysEq
import Derived.Laws.NewBlocks
import Derived.OpenShut
import Derived.LaidMore
namespace Go.Proofs.YtfcaoggfnkhfiaaGreatDoor
set_option maxRecDepth 100000
set_option maxHeartbeats 8000000
open Go.RowKit Go.Proofs.Tryz
variable{cs:Array Value}{X:List Nat}{L:An}{B g n:Nat}{t:TypeId}{a b w w':Lo}
theorem pk(a b:BitVec 32):bits .xor .u32 (a.toNat:Int) (b.toNat:Int)=((a ^^^ b).toNat:Int):=by rw[u32_xor_nat _ _ a.isLt b.isLt,BitVec.toNat_xor]
theorem DH(a b:BitVec 32):bits .and .u32 (a.toNat:Int) (b.toNat:Int)=((a &&& b).toNat:Int):=by rw[u32_and_nat _ _ a.isLt b.isLt,BitVec.toNat_and]
theorem ao1(a b:BitVec 32):bits .or .u32 (a.toNat:Int) (b.toNat:Int)=((a ||| b).toNat:Int):=by rw[u32_or_nat _ _ a.isLt b.isLt,BitVec.toNat_or]
theorem iL(a b:BitVec 32):IntKind.u32.wrap ((a.toNat:Int)+(b.toNat:Int))=((a+b).toNat:Int):=by rw[IntKind.wrap_u32,BitVec.toNat_add];omega
def lg(n:Nat)(x:BitVec 32):BitVec 32:=(x <<< (32-n)) ||| (x >>> n)
theorem kS(n:Nat)(x:BitVec 32):bits .or .u32 ((x.toNat:Int)*((2^(32-n):Nat):Int)%4294967296) ((x.toNat:Int)/((2^n:Nat):Int))=((lg n x).toNat:Int):=by
 have h1:(x.toNat:Int)*((2^(32-n):Nat):Int)%4294967296=((x <<< (32-n)).toNat:Int):=by rw[BitVec.toNat_shiftLeft,Nat.shiftLeft_eq];show _=((x.toNat*2^(32-n)%4294967296:Nat):Int);rw[Int.natCast_emod,Int.natCast_mul];rfl
 have h2:(x.toNat:Int)/((2^n:Nat):Int)=((x >>> n).toNat:Int):=by rw[BitVec.toNat_ushiftRight,qC,Int.natCast_ediv]
 rw[h1,h2,ao1];rfl
theorem G'(x:BitVec 32)(w:Lo):Calls prog 239 #[.int .u32 x.toNat,.int .i64 2] w λe w'=>e= .returned (.int .u32 (lg 2 x).toNat)/\w=w':=by have hx:=x.isLt;have e1:bits .and .u64 (IntKind.u64.wrap (-2)) 31=30:=ar;have hr:=kS 2 x;simp only[Nat.reducePow,Nat.reduceSub,Int.cast_ofNat_Int]at hr;go_enter func239,ntmps239;go_wp2;go_ret;exact⟨rfl,rfl⟩
theorem H'(x:BitVec 32)(w:Lo):Calls prog 239 #[.int .u32 x.toNat,.int .i64 6] w λe w'=>e= .returned (.int .u32 (lg 6 x).toNat)/\w=w':=by have hx:=x.isLt;have e1:bits .and .u64 (IntKind.u64.wrap (-6)) 31=26:=ar;have hr:=kS 6 x;simp only[Nat.reducePow,Nat.reduceSub,Int.cast_ofNat_Int]at hr;go_enter func239,ntmps239;go_wp2;go_ret;exact⟨rfl,rfl⟩
theorem I'(x:BitVec 32)(w:Lo):Calls prog 239 #[.int .u32 x.toNat,.int .i64 7] w λe w'=>e= .returned (.int .u32 (lg 7 x).toNat)/\w=w':=by have hx:=x.isLt;have e1:bits .and .u64 (IntKind.u64.wrap (-7)) 31=25:=ar;have hr:=kS 7 x;simp only[Nat.reducePow,Nat.reduceSub,Int.cast_ofNat_Int]at hr;go_enter func239,ntmps239;go_wp2;go_ret;exact⟨rfl,rfl⟩
theorem UM(x:BitVec 32)(w:Lo):Calls prog 239 #[.int .u32 x.toNat,.int .i64 11] w λe w'=>e= .returned (.int .u32 (lg 11 x).toNat)/\w=w':=by have hx:=x.isLt;have e1:bits .and .u64 (IntKind.u64.wrap (-11)) 31=21:=ar;have hr:=kS 11 x;simp only[Nat.reducePow,Nat.reduceSub,Int.cast_ofNat_Int]at hr;go_enter func239,ntmps239;go_wp2;go_ret;exact⟨rfl,rfl⟩
theorem UN(x:BitVec 32)(w:Lo):Calls prog 239 #[.int .u32 x.toNat,.int .i64 13] w λe w'=>e= .returned (.int .u32 (lg 13 x).toNat)/\w=w':=by have hx:=x.isLt;have e1:bits .and .u64 (IntKind.u64.wrap (-13)) 31=19:=ar;have hr:=kS 13 x;simp only[Nat.reducePow,Nat.reduceSub,Int.cast_ofNat_Int]at hr;go_enter func239,ntmps239;go_wp2;go_ret;exact⟨rfl,rfl⟩
theorem UO(x:BitVec 32)(w:Lo):Calls prog 239 #[.int .u32 x.toNat,.int .i64 17] w λe w'=>e= .returned (.int .u32 (lg 17 x).toNat)/\w=w':=by have hx:=x.isLt;have e1:bits .and .u64 (IntKind.u64.wrap (-17)) 31=15:=ar;have hr:=kS 17 x;simp only[Nat.reducePow,Nat.reduceSub,Int.cast_ofNat_Int]at hr;go_enter func239,ntmps239;go_wp2;go_ret;exact⟨rfl,rfl⟩
theorem UQ(x:BitVec 32)(w:Lo):Calls prog 239 #[.int .u32 x.toNat,.int .i64 18] w λe w'=>e= .returned (.int .u32 (lg 18 x).toNat)/\w=w':=by have hx:=x.isLt;have e1:bits .and .u64 (IntKind.u64.wrap (-18)) 31=14:=ar;have hr:=kS 18 x;simp only[Nat.reducePow,Nat.reduceSub,Int.cast_ofNat_Int]at hr;go_enter func239,ntmps239;go_wp2;go_ret;exact⟨rfl,rfl⟩
theorem UR(x:BitVec 32)(w:Lo):Calls prog 239 #[.int .u32 x.toNat,.int .i64 19] w λe w'=>e= .returned (.int .u32 (lg 19 x).toNat)/\w=w':=by have hx:=x.isLt;have e1:bits .and .u64 (IntKind.u64.wrap (-19)) 31=13:=ar;have hr:=kS 19 x;simp only[Nat.reducePow,Nat.reduceSub,Int.cast_ofNat_Int]at hr;go_enter func239,ntmps239;go_wp2;go_ret;exact⟨rfl,rfl⟩
theorem US(x:BitVec 32)(w:Lo):Calls prog 239 #[.int .u32 x.toNat,.int .i64 22] w λe w'=>e= .returned (.int .u32 (lg 22 x).toNat)/\w=w':=by have hx:=x.isLt;have e1:bits .and .u64 (IntKind.u64.wrap (-22)) 31=10:=ar;have hr:=kS 22 x;simp only[Nat.reducePow,Nat.reduceSub,Int.cast_ofNat_Int]at hr;go_enter func239,ntmps239;go_wp2;go_ret;exact⟨rfl,rfl⟩
theorem UT(x:BitVec 32)(w:Lo):Calls prog 239 #[.int .u32 x.toNat,.int .i64 25] w λe w'=>e= .returned (.int .u32 (lg 25 x).toNat)/\w=w':=by have hx:=x.isLt;have e1:bits .and .u64 (IntKind.u64.wrap (-25)) 31=7:=ar;have hr:=kS 25 x;simp only[Nat.reducePow,Nat.reduceSub,Int.cast_ofNat_Int]at hr;go_enter func239,ntmps239;go_wp2;go_ret;exact⟨rfl,rfl⟩
abbrev aJ(x:BitVec 32):Value:= .int .u32 x.toNat
def be(a b c d:UInt8):BitVec 32:=BitVec.ofNat 32 (a.toNat*16777216+b.toNat*65536+c.toNat*256+d.toNat)
theorem UU(a b c d:UInt8):(be a b c d).toNat=a.toNat*16777216+b.toNat*65536+c.toNat*256+d.toNat:=by have h1:=a.toNat_lt;have h2:=b.toNat_lt;have h3:=c.toNat_lt;have h4:=d.toNat_lt;unfold be;rw[lG];omega
theorem mv(a b k:Nat)(ha:a<2^k):b*2^k ||| a=b*2^k+a:=by rw[<-Nat.shiftLeft_eq,<-Nat.shiftLeft_add_eq_or_of_lt ha]
theorem aip(a b c d:UInt8):
  bits .or .u32 (bits .or .u32 (bits .or .u32 (IntKind.u32.wrap (IntKind.u32.wrap (a.toNat:Int)*16777216)) (IntKind.u32.wrap (IntKind.u32.wrap (b.toNat:Int)*65536))) (IntKind.u32.wrap (IntKind.u32.wrap (c.toNat:Int)*256))) (IntKind.u32.wrap (d.toNat:Int))=((be a b c d).toNat:Int):=by
 have h1:=a.toNat_lt;have h2:=b.toNat_lt;have h3:=c.toNat_lt;have h4:=d.toNat_lt;rw[UU];generalize a.toNat=a at*;generalize b.toNat=b at*;generalize c.toNat=c at*;generalize d.toNat=d at*;have w0: ∀x:Nat,x<256->IntKind.u32.wrap (x:Int)=(x:Int):=λx hx=>kA;rw[w0 a aa,w0 b aa,w0 c aa,w0 d aa];have e1:IntKind.u32.wrap ((a:Int)*16777216)=((a*2^24:Nat):Int):=kA;have e2:IntKind.u32.wrap ((b:Int)*65536)=((b*2^16:Nat):Int):=kA;have e3:IntKind.u32.wrap ((c:Int)*256)=((c*2^8:Nat):Int):=kA;have o1:a*2^24 ||| b*2^16=(a*256+b)*2^16:=by rw[mv _ _ 24 aa];omega
 have o2:(a*256+b)*2^16 ||| c*2^8=(a*65536+b*256+c)*2^8:=by rw[mv _ _ 16 aa];omega
 have o3:(a*65536+b*256+c)*2^8 ||| d=(a*65536+b*256+c)*2^8+d:=mv _ _ 8 aa;rw[e1,e2,e3,u32_or_nat _ _ aa aa,o1,u32_or_nat _ _ aa aa,o2,u32_or_nat _ _ aa aa,o3];omega
def s0(x:BitVec 32):BitVec 32:=lg 7 x ^^^ lg 18 x ^^^ (x >>> 3)
def s1(x:BitVec 32):BitVec 32:=lg 17 x ^^^ lg 19 x ^^^ (x >>> 10)
def Bu(aE:An)(i:Nat):BitVec 32:=be (aE.getD (4*i) 0) (aE.getD (4*i+1) 0) (aE.getD (4*i+2) 0) (aE.getD (4*i+3) 0)
def vD(aE:An)(l:List (BitVec 32))(n:Nat):BitVec 32:=if n<16 then Bu aE n else l.getD (n-16) 0+s0 (l.getD (n-15) 0)+l.getD (n-7) 0+s1 (l.getD (n-2) 0)
def bw(aE:An):Nat->List (BitVec 32)
 | 0=>[]
 | n+1=>bw aE n++[vD aE (bw aE n) n]
theorem jV(aE:An)(n:Nat):(bw aE n).length=n:=by
 induction n with
 | zero=>rfl
 | succ n ih=>simp[bw,ih]
def my(aE:An)(n i:Nat):Value:=aJ ((bw aE n).getD i 0)
theorem Ei(aE:An)(n:Nat): ∀i,(if i=n then aJ (vD aE (bw aE n) n)else my aE n i)=my aE (n+1) i:=by
 intro i;have hl:=jV aE n;unfold my;simp only[bw];by_cases h:i=n;·subst h;rw[ax rfl,qD,lH aa,hl,lJ];rfl
 ·rw[au h,qD,qD];by_cases h2:i<n;·rw[AG aa]
  ·rw[qE aa,qE aH]
def words(aE:An):Array Value:=((List.range 64).map λi=>my aE 64 i).toArray
def fD:Array Value:=Array.replicate 64 (.int .u32 0)
theorem abN:(prog.info? 305).map (λi=>(i.zero,i.size))=some (some (.agg fD),64):=ak
theorem Bv:(prog.info? 305).map (·.size)=some 64:=ak
theorem I4(aE:An)(w:Lo):(w.alloc (.cells fD 305)).rowIs w.heap.size 305 64 (my aE 0):=by
 have h:=World.rowIs_alloc w fD 305 (my aE 0) (λi hi=>by
  unfold fD at hi ⊢;rw[Array.getElem?_replicate,ax jP];simp[my,bw])
 have e:fD.size=64:=by simp[fD]
 rwa [e]at h
theorem UV(aE:An)(hn:cs.size=64)(hv: ∀i,i<64->cs[i]? =some (my aE 64 i)):cs=words aE:=by
 apply Array.ext_getElem?;intro i;by_cases hi:i<64;·rw[hv i hi];unfold words;rw[List.getElem?_toArray,List.getElem?_map,List.getElem?_range hi];rfl
 ·rw[lI aa,lI (by simp[words];omega)]
theorem Ej(aE:An):(words aE).all (·.oneCell')=true:=by unfold words;rw[List.all_toArray,List.all_map,List.all_eq_true];intro x _;rfl
theorem Ek(aE:An)(l:List (BitVec 32))(n:Nat)(h:16<=n):vD aE l n=l.getD (n-16) 0+s0 (l.getD (n-15) 0)+l.getD (n-7) 0+s1 (l.getD (n-2) 0):=by unfold vD;rw[au aa]
theorem Pq(x:BitVec 32)(n q:Nat)(hq:q=2^n):(x.toNat:Int)/(q:Int)=((x >>> n).toNat:Int):=by subst hq;rw[BitVec.toNat_ushiftRight,qC,Int.natCast_ediv]
theorem UW(x:BitVec 32):bits .xor .u32 (bits .xor .u32 ((lg 7 x).toNat:Int) ((lg 18 x).toNat:Int)) ((x.toNat:Int)/8)=((s0 x).toNat:Int):=by have h:(x.toNat:Int)/(8:Int)=((x >>> 3).toNat:Int):=Pq x 3 8 rfl;rw[h,pk,pk];rfl
theorem UX(x:BitVec 32):bits .xor .u32 (bits .xor .u32 ((lg 17 x).toNat:Int) ((lg 19 x).toNat:Int)) ((x.toNat:Int)/1024)=((s1 x).toNat:Int):=by have h:(x.toNat:Int)/(1024:Int)=((x >>> 10).toNat:Int):=Pq x 10 1024 rfl;rw[h,pk,pk];rfl
theorem adq(aE:An)(i:Nat)(h:i<aE.length):(aE.map B8).toArray[i]? =some (B8 (aE.getD i 0)):=by rw[List.getElem?_toArray,List.getElem?_map,dS h];simp[List.getD,h]
theorem Mm(aE:An)(nN:aE.length=64)(w:Lo):
  Calls prog 238 #[.agg (aE.map B8).toArray] w λe w'=>e= .returned (.agg (words aE))/\Below w.heap.size w w':=by
 have hz:=(zero_of_info abN).1;have hcell: ∀i,i<64->(aE.map B8).toArray[i]? =some (B8 (aE.getD i 0)):=λi hi=>adq aE i aa;have HC:=ae hcell;clear hcell;have HW:=ae (λk (h:k<16)=>(show vD aE (bw aE k) k=be (aE.getD (4*k) 0) (aE.getD (4*k+1) 0) (aE.getD (4*k+2) 0) (aE.getD (4*k+3) 0) by unfold vD;rw[ax h];rfl));have qT:(aE.map B8).toArray.size=64:=by simpa using nN
 generalize eX:(aE.map B8).toArray=bl at*;have kX:=ae qT;clear qT;have HBL:=ae eX;clear eX;go_enter func238,ntmps238;go_wp2_with fail;have eA:(w.alloc (.cells bl 277)).heap.size=w.heap.size+1:=ah;have eB:((w.alloc (.cells bl 277)).alloc (.cells fD 305)).heap.size=w.heap.size+1+1:=ah;have rb0:(((w.alloc (.cells bl 277)).alloc (.cells fD 305)).alloc (.cells fD 305)).rowIs w.heap.size 277 64 (λi=>B8 (aE.getD i 0)):=by have h:=World.rowIs_alloc w bl 277 (λi=>B8 (aE.getD i 0)) (λi hi=>HC.out i (by rw[<-kX.out];exact hi));rw[kX.out]at h;exact(h.alloc _).alloc _
 have r00:(((w.alloc (.cells bl 277)).alloc (.cells fD 305)).alloc (.cells fD 305)).rowIs (w.heap.size+1) 305 64 (my aE 0):=by have h:=I4 aE (w.alloc (.cells bl 277));rw[eA]at h;exact h.alloc _
 have r10:(((w.alloc (.cells bl 277)).alloc (.cells fD 305)).alloc (.cells fD 305)).rowIs (w.heap.size+1+1) 305 64 (my aE 0):=by have h:=I4 aE ((w.alloc (.cells bl 277)).alloc (.cells fD 305));rw[eB]at h;exact h
 have fV:Below w.heap.size w (((w.alloc (.cells bl 277)).alloc (.cells fD 305)).alloc (.cells fD 305)):=((az).alloc ah _).alloc aH _;clear eA eB HC;generalize((w.alloc (.cells bl 277)).alloc (.cells fD 305)).alloc (.cells fD 305)=w1 at*;generalize lN:w.heap.size+1=g1 at*;generalize gB:g1+1=g2 at*;have zq:w.heap.size<g1:=aa;have zu:g1<g2:=aa;have ao2:g2≠w.heap.size:=aa;clear lN gB;go_loopw [10] (λi wr=> ∃k:Nat,k<=16/\i= .int .i64 k/\wr.rowIs w.heap.size 277 64 (λi=>B8 (aE.getD i 0))/\wr.rowIs g1 305 64 (my aE 0)/\wr.rowIs g2 305 64 (my aE k)/\Below w.heap.size w wr) (λi _=>16-(intOf i).toNat);·exact⟨0,aa,rfl,rb0,r00,r10,fV⟩
 ·
  clear rb0 r00 r10 fV;obtain⟨k,hk,rfl,rb,r0,r1,hb⟩:=hrel;by_cases aV:k<16
  ·have xz:wr.cell? ⟨w.heap.size,4*k,none⟩=some (B8 (aE.getD (4*k) 0)):=rb.cell aa;have dE:wr.cell? ⟨w.heap.size,4*k+1,none⟩=some (B8 (aE.getD (4*k+1) 0)):=rb.cell aa;have ei:wr.cell? ⟨w.heap.size,4*k+2,none⟩=some (B8 (aE.getD (4*k+2) 0)):=rb.cell aa;have ju:wr.cell? ⟨w.heap.size,4*k+3,none⟩=some (B8 (aE.getD (4*k+3) 0)):=rb.cell aa;have hn:=HW.out k aV;generalize aE.getD (4*k) 0=b0 at*;generalize aE.getD (4*k+1) 0=b1 at*;generalize aE.getD (4*k+2) 0=b2 at*;generalize aE.getD (4*k+3) 0=b3 at*;have hw:=r1.cell (i:=k) aa;have hf:=r1.frozen k;have ug:=ae (aip b0 b1 b2 b3);generalize be b0 b1 b2 b3=v at*;have HN:=ae hn;clear hn;have pm: ∀j,(wr.setCell ⟨g2,k,none⟩ (aJ v)).drew.cell? ⟨w.heap.size,j,none⟩=wr.cell? ⟨w.heap.size,j,none⟩:=λj=>World.cell?_setCell_other _ _ _ _ (by intro e;injection e with e;exact ao2 e)
   have F8:Hid ((wr.setCell ⟨g2,k,none⟩ (aJ v)).drew.cell? ⟨w.heap.size,4*k,none⟩=some (B8 b0)/\(wr.setCell ⟨g2,k,none⟩ (aJ v)).drew.cell? ⟨w.heap.size,4*k+1,none⟩=some (B8 b1)/\(wr.setCell ⟨g2,k,none⟩ (aJ v)).drew.cell? ⟨w.heap.size,4*k+2,none⟩=some (B8 b2)/\(wr.setCell ⟨g2,k,none⟩ (aJ v)).drew.cell? ⟨w.heap.size,4*k+3,none⟩=some (B8 b3)):=
    ae ⟨(pm _).trans xz,(pm _).trans dE,(pm _).trans ei,(pm _).trans ju⟩
   have k0:wr.drew.cell? ⟨w.heap.size,4*k,none⟩=some (B8 b0):=xz;have k1:wr.drew.cell? ⟨w.heap.size,4*k+1,none⟩=some (B8 b1):=dE;have k2:wr.drew.cell? ⟨w.heap.size,4*k+2,none⟩=some (B8 b2):=ei;have k3:wr.drew.cell? ⟨w.heap.size,4*k+3,none⟩=some (B8 b3):=ju;clear pm xz dE ei ju;go_wp2_with fail;refine wp_region_held_drew (S:=λw'=>w'.cell? ⟨w.heap.size,4*k,none⟩=some (B8 b0)/\w'.cell? ⟨w.heap.size,4*k+1,none⟩=some (B8 b1)/\w'.cell? ⟨w.heap.size,4*k+2,none⟩=some (B8 b2)/\w'.cell? ⟨w.heap.size,4*k+3,none⟩=some (B8 b3)) ak ⟨k0,k1,k2,k3⟩ (λhS=> ?_);refine ag 0 hS (h:=ag 1 hS (h:=bx 2 rfl (λw hSw=>by have q:=em (4*(k:Int)) aa;go_simp;all_goals(with_reducible rfl)) hS (h:=bx 3 rfl (λw hSw=>by have q0:(0:Int)<=4*(k:Int):=aa;have q1:4*(k:Int)<64:=aa;have q2:(4*(k:Int)).toNat=4*k:=aa;go_simp;all_goals(with_reducible rfl)) hS (h:=bN 4 hS (h:=ag 5 hS (h:=ag 6 hS (h:=ag 7 hS (h:=bx 8 rfl (λw hSw=>by have q:=em (4*(k:Int)) aa;go_simp;all_goals(with_reducible rfl)) hS (h:=bx 9 rfl (λw hSw=>by have q:=em (4*(k:Int)+1) aa;go_simp;all_goals(with_reducible rfl)) hS (h:=bx 10 rfl (λw hSw=>by have q0:(0:Int)<=4*(k:Int)+1:=aa;have q1:4*(k:Int)+1<64:=aa;have q2:(4*(k:Int)+1).toNat=4*k+1:=aa;go_simp;all_goals(with_reducible rfl)) hS (h:=bN 11 hS (h:= ?_))))))))))));refine ag 12 hS (h:=ag 13 hS (h:=ag 14 hS (h:=ag 15 hS (h:=bx 16 rfl (λw hSw=>by have q:=em (4*(k:Int)) aa;go_simp;all_goals(with_reducible rfl)) hS (h:=bx 17 rfl (λw hSw=>by have q:=em (4*(k:Int)+2) aa;go_simp;all_goals(with_reducible rfl)) hS (h:=bx 18 rfl (λw hSw=>by have q0:(0:Int)<=4*(k:Int)+2:=aa;have q1:4*(k:Int)+2<64:=aa;have q2:(4*(k:Int)+2).toNat=4*k+2:=aa;go_simp;all_goals(with_reducible rfl)) hS (h:=bN 19 hS (h:=ag 20 hS (h:=ag 21 hS (h:=ag 22 hS (h:=ag 23 hS (h:= ?_))))))))))));refine bx 24 rfl (λw hSw=>by have q:=em (4*(k:Int)) aa;go_simp;all_goals(with_reducible rfl)) hS (h:=bx 25 rfl (λw hSw=>by have q:=em (4*(k:Int)+3) aa;go_simp;all_goals(with_reducible rfl)) hS (h:=bx 26 rfl (λw hSw=>by have q0:(0:Int)<=4*(k:Int)+3:=aa;have q1:4*(k:Int)+3<64:=aa;have q2:(4*(k:Int)+3).toNat=4*k+3:=aa;go_simp;all_goals(with_reducible rfl)) hS (h:=bN 27 hS (h:=ag 28 hS (h:=ag 29 hS (h:= ?_))))));rw[ug.out];refine bx 30 rfl (λw hSw=>by have q0:0<=(k:Int):=aa;have q1:(k:Int)<64:=aa;go_simp;all_goals(with_reducible rfl)) hS (h:= ?_);refine aO 31 (λK hK=> ?_);go_simp;refine hK _ _ F8.out (λ_=> ?_);clear hK K;refine wpAnyH_done ak ?_ _;go_wp2_with fail;go_roundw;case rel=>refine⟨k+1,aa,aA,rb.setOther aH _,r0.setOther aH _,?_,(hb.setCell aH _).drew⟩;exact(r1.set k _).congr λi _=>by rw[<-HN.out];exact Ei aE k i
   case measure=>simp[intOf];omega
  ·obtain rfl:k=16:=(by omega);clear aV rb HW hk;rw[show((16:Nat):Int)=16 from rfl];go_wp2_with fail;go_loopw [5] (λi wr=> ∃k:Nat,16<=k/\k<=64/\i= .int .i64 k/\wr.rowIs g1 305 64 (my aE 0)/\wr.rowIs g2 305 64 (my aE k)/\Below w.heap.size w wr) (λi _=>64-(intOf i).toNat);·exact⟨16,aa,aa,rfl,r0,r1,hb⟩
   ·
    clear r0 r1 hb;obtain⟨k,ao3,hk,rfl,r0,r1,hb⟩:=hrel;by_cases aV:k<64
    ·have dE:_:=r1.cell (i:=k-15) aa;have ei:_:=r1.cell (i:=k-2) aa;have ju:_:=r1.cell (i:=k-16) aa;have jM:_:=r1.cell (i:=k-7) aa;have hw:=r1.cell (i:=k) aa;have hf:=r1.frozen k;have hn:=Ek aE (bw aE k) k ao3;unfold my at dE ei ju jM;generalize(bw aE k).getD (k-15) 0=x at*;generalize(bw aE k).getD (k-2) 0=y at*;generalize(bw aE k).getD (k-16) 0=a at*;generalize(bw aE k).getD (k-7) 0=b at*;have HS0:=ae (UW x);have sD:=ae (UX y);generalize s0 x=p at*;generalize s1 y=q at*;have ia:=ae hn;have Mn:=ae (iL a p);generalize a+p=v1 at*;have I1:=ae (iL v1 b);generalize v1+b=v2 at*;have Zc:=ae (iL v2 q);generalize v2+q=v at*;clear hn;have pm: ∀j,j<k->(wr.drew.setCell ⟨g2,k,none⟩ (aJ v)).drew.cell? ⟨g2,j,none⟩=wr.cell? ⟨g2,j,none⟩:=λj hj=>World.cell?_setCell_other _ _ _ _ (by intro e;injection e with _ e;omega)
     have F8:Hid ((wr.drew.setCell ⟨g2,k,none⟩ (aJ v)).drew.cell? ⟨g2,k-16,none⟩=some (aJ a)/\(wr.drew.setCell ⟨g2,k,none⟩ (aJ v)).drew.cell? ⟨g2,k-7,none⟩=some (aJ b)):=
      ae ⟨(pm _ aa).trans ju,(pm _ aa).trans jM⟩
     have k1:wr.drew.cell? ⟨g2,k-15,none⟩=some (aJ x):=dE;have k2:wr.drew.cell? ⟨g2,k-2,none⟩=some (aJ y):=ei;have k3:wr.drew.drew.cell? ⟨g2,k-16,none⟩=some (aJ a):=ju;have k4:wr.drew.drew.cell? ⟨g2,k-7,none⟩=some (aJ b):=jM;clear pm dE ei ju jM;go_wp2_with fail;refine wp_region_held_drew (S:=λw'=>w'.cell? ⟨g2,k-15,none⟩=some (aJ x)/\w'.cell? ⟨g2,k-2,none⟩=some (aJ y)) ak ⟨k1,k2⟩ (λhS=> ?_);refine ag 0 hS (h:=bx 1 rfl (λw hSw=>by have q:=em ((k:Int)-15) aa;go_simp;all_goals(with_reducible rfl)) hS (h:=bx 2 rfl (λw hSw=>by have q0:0<=(k:Int)-15:=aa;have q1:(k:Int)-15<64:=aa;have q2:((k:Int)-15).toNat=k-15:=aa;have q3:15<=(k:Int):=aa;go_simp;all_goals(with_reducible rfl)) hS (h:=bN 3 hS (h:=ag 4 hS (h:=bx 5 rfl (λw hSw=>by have q:=em ((k:Int)-2) aa;go_simp;all_goals(with_reducible rfl)) hS (h:=bx 6 rfl (λw hSw=>by have q0:0<=(k:Int)-2:=aa;have q1:(k:Int)-2<64:=aa;have q2:((k:Int)-2).toNat=k-2:=aa;have q3:2<=(k:Int):=aa;go_simp;all_goals(with_reducible rfl)) hS (h:=bN 7 hS (h:=ag 8 hS (h:=ag 9 hS (h:= ?_))))))))));refine wpAnyH_done ak ?_ _;go_wp2_with fail;refine(I' x _).mono ?_;rintro e w' ⟨rfl,rfl⟩;go_wp2_with fail;refine(UQ x _).mono ?_;rintro e w' ⟨rfl,rfl⟩;go_wp2_with fail;refine(UO y _).mono ?_;rintro e w' ⟨rfl,rfl⟩;go_wp2_with fail;refine(UR y _).mono ?_;rintro e w' ⟨rfl,rfl⟩;go_wp2_with fail;rw[HS0.out,sD.out];refine wp_region_held_drew (S:=λw'=>w'.cell? ⟨g2,k-16,none⟩=some (aJ a)/\w'.cell? ⟨g2,k-7,none⟩=some (aJ b)) ak ⟨k3,k4⟩ (λhS=> ?_);refine ag 0 hS (h:=ag 1 hS (h:=bx 2 rfl (λw hSw=>by have q:=em ((k:Int)-16) aa;go_simp;all_goals(with_reducible rfl)) hS (h:=bx 3 rfl (λw hSw=>by have q0:0<=(k:Int)-16:=aa;have q1:(k:Int)-16<64:=aa;have q2:((k:Int)-16).toNat=k-16:=aa;have q3:16<=(k:Int):=aa;go_simp;all_goals(with_reducible rfl)) hS (h:=bN 4 hS (h:=ag 5 hS (h:=ag 6 hS (h:= ?_)))))));rw[Mn.out];refine ag 7 hS (h:=bx 8 rfl (λw hSw=>by have q:=em ((k:Int)-7) aa;go_simp;all_goals(with_reducible rfl)) hS (h:=bx 9 rfl (λw hSw=>by have q0:0<=(k:Int)-7:=aa;have q1:(k:Int)-7<64:=aa;have q2:((k:Int)-7).toNat=k-7:=aa;have q3:7<=(k:Int):=aa;go_simp;all_goals(with_reducible rfl)) hS (h:=bN 10 hS (h:=ag 11 hS (h:= ?_)))));rw[I1.out];refine ag 12 hS (h:=ag 13 hS (h:= ?_));rw[Zc.out];refine bx 14 rfl (λw hSw=>by have q0:0<=(k:Int):=aa;have q1:(k:Int)<64:=aa;go_simp;all_goals(with_reducible rfl)) hS (h:= ?_);refine aO 15 (λK hK=> ?_);go_simp;refine hK _ _ F8.out (λ_=> ?_);clear hK K;refine wpAnyH_done ak ?_ _;go_wp2_with fail;go_roundw;case rel=>refine⟨k+1,aa,aa,aA,r0.setOther aH _,?_,(hb.setCell aH _).drew.drew⟩;exact(r1.set k _).congr λi _=>by rw[<-Ei aE k i,ia.out]
     case measure=>simp[intOf];omega
    ·obtain rfl:k=64:=(by omega);obtain⟨cs,hcs,hn,hv⟩:=r1;obtain⟨os,Bw,sE,hvo⟩:=r0;obtain rfl:=UV aE hn hv;go_wp2_with (first|(refine wpList_load_row rfl 305 _ rfl g2 rfl 305 (words aE) _ _ hcs underlying305 rfl ?c1 ?_)|(refine wpList_store_row rfl 305 _ _ rfl g1 (words aE) rfl rfl 305 os Bw ?c2 ?c3 ?c4 ?_))
     case c1=>rw[Bv,hn]
     case c2=>rw[Bv,hn]
     case c3=>rw[sE,hn]
     case c4=>exact Ej aE
     refine bA (results_cell_row rfl _ _ g1 305 (words aE) _ _ rfl (setRow_heap _ _ _ _ _ _ Bw) underlying305 rfl (by rw[Bv,hn])) rfl ?_;exact⟨rfl,below_setRow hb aa _⟩
structure R8 where
 a:BitVec 32
 b:BitVec 32
 c:BitVec 32
 d:BitVec 32
 e:BitVec 32
 f:BitVec 32
 g:BitVec 32
 h:BitVec 32
def Bx:List (BitVec 32):=[1116352408,1899447441,3049323471,3921009573,961987163,1508970993,2453635748,2870763221,3624381080,310598401,607225278,1426881987,1925078388,2162078206,2614888103,3248222580,3835390401,4022224774,264347078,604807628,770255983,1249150122,1555081692,1996064986,2554220882,2821834349,2952996808,3210313671,3336571891,3584528711,113926993,338241895,666307205,773529912,1294757372,1396182291,1695183700,1986661051,2177026350,2456956037,2730485921,2820302411,3259730800,3345764771,3516065817,3600352804,4094571909,275423344,430227734,506948616,659060556,883997877,958139571,1322822218,1537002063,1747873779,1955562222,2024104815,2227730452,2361852424,2428436474,2756734187,3204031479,3329325298]
def Kc(i:Nat):BitVec 32:=Bx.getD i 0
def tOf(r:R8)(k v:BitVec 32):BitVec 32:=r.h+(lg 6 r.e ^^^ lg 11 r.e ^^^ lg 25 r.e)+((r.e &&& r.f) ^^^ (~~~r.e &&& r.g))+k+v
def uOf(r:R8):BitVec 32:=(lg 2 r.a ^^^ lg 13 r.a ^^^ lg 22 r.a)+((r.a &&& r.b) ^^^ (r.a &&& r.c) ^^^ (r.b &&& r.c))
def roundOf(k v:BitVec 32)(r:R8):R8:=⟨tOf r k v+uOf r,r.a,r.b,r.c,r.d+tOf r k v,r.e,r.f,r.g⟩
def wd(aE:An)(i:Nat):BitVec 32:=(bw aE 64).getD i 0
def rounds(aE:An):Nat->R8->R8
 | 0,r=>r
 | n+1,r=>roundOf (Kc n) (wd aE n) (rounds aE n r)
def R8.get(r:R8)(i:Nat):BitVec 32:=if i=0 then r.a else if i=1 then r.b else if i=2 then r.c else if i=3 then r.d else if i=4 then r.e else if i=5 then r.f else if i=6 then r.g else r.h
def R8.add(r s:R8):R8:=⟨r.a+s.a,r.b+s.b,r.c+s.c,r.d+s.d,r.e+s.e,r.f+s.f,r.g+s.g,r.h+s.h⟩
def qo(r:R8)(aE:An):R8:=r.add (rounds aE 64 r)
abbrev R8.agg(r:R8):Array Value:= #[aJ r.a,aJ r.b,aJ r.c,aJ r.d,aJ r.e,aJ r.f,aJ r.g,aJ r.h]
theorem R8.By(r:R8)(i:Nat)(h:i<8):r.agg[i]? =some (aJ (r.get i)):=by
 match i,h with
 | 0,_|1,_|2,_|3,_|4,_|5,_|6,_|7,_=>rfl
def om:Array Value:=Array.replicate 8 (.int .u32 0)
theorem ads:(prog.info? 276).map (λi=>(i.zero,i.size))=some (some (.agg om),8):=ak
theorem LA:(prog.info? 276).map (·.size)=some 8:=ak
theorem Mo:(prog.info? 277).map (·.size)=some 64:=ak
theorem UY(aE:An)(i:Nat)(h:i<64):(words aE)[i]? =some (aJ (wd aE i)):=by unfold words;rw[List.getElem?_toArray,List.getElem?_map,List.getElem?_range h];rfl
theorem Mp(aE:An):(words aE).size=64:=by simp[words]
theorem I5(aE:An)(j:Nat)(hj:j<64)(w:Lo):(Instr.index 305 (.agg (words aE)) (.int .i64 j)).run prog w= .ok (aJ (wd aE j)) w:=by
 have hs:(prog.info? 24).map (·.size)=some 1:=ak;have hg:=UY aE j hj;cases hq:prog.info? 24 with
 | none=>rw[hq]at hs;simp at hs
 | some i=>
  have dF:i.size=1:=by rw[hq]at hs;simpa using hs
  simp[Instr.index,asIntOf,run_underlying underlying305,Sem.run_bind,sizeOf,typeInfo,hq,dF,part,hg,hj]
theorem f9(r:R8)(j:Nat)(hj:j<8)(w:Lo):(Instr.index 276 (.agg r.agg) (.int .i64 j)).run prog w= .ok (aJ (r.get j)) w:=by
 have hs:(prog.info? 24).map (·.size)=some 1:=ak;have hg:=r.By j hj;generalize r.agg=A at*;cases hq:prog.info? 24 with
 | none=>rw[hq]at hs;simp at hs
 | some i=>
  have dF:i.size=1:=by rw[hq]at hs;simpa using hs
  simp[Instr.index,asIntOf,run_underlying underlying276,Sem.run_bind,sizeOf,typeInfo,hq,dF,part,hg,hj]
theorem J'(r:R8)(hn:cs.size=8)(hv: ∀i,i<8->cs[i]? =some (aJ (r.get i))):cs=r.agg:=by
 apply Array.ext_getElem?;intro i;by_cases hi:i<8;·rw[hv i hi,r.By i hi]
 ·rw[lI aa,lI aH]
theorem add_get(r s:R8)(i:Nat):(r.add s).get i=r.get i+s.get i:=by
 unfold R8.get R8.add;simp only;repeat (split;rfl)
 rfl
theorem Bz(r:R8):r.agg.all (·.oneCell')=true:=by simp[Value.oneCell']
theorem F9(a:BitVec 32):bits .xor .u32 IntKind.u32.max (a.toNat:Int)=((~~~a).toNat:Int):=by
 have h:IntKind.u32.max=((4294967295#32).toNat:Int):=rfl;have e:4294967295#32 ^^^ a= ~~~a:=by rw[show(4294967295#32)=BitVec.allOnes 32 from rfl,BitVec.xor_comm,BitVec.xor_allOnes]
 rw[h,pk,e]
theorem M'(a:BitVec 32):bits .xor .u32 (if IntKind.u32.signed=true then -1 else IntKind.u32.max) (a.toNat:Int)=((~~~a).toNat:Int):=by rw[au ar];exact F9 a
structure St where
 ws:R8
 aE:List UInt8
 n:Nat
def St.put(s:St)(b:UInt8):St:=⟨if s.n%64=63 then qo s.ws (s.aE.set (s.n%64) b)else s.ws,s.aE.set (s.n%64) b,s.n+1⟩
def St.fI(s:St)(l:An):St:=l.foldl St.put s
theorem St.rj(s:St)(a b:An):s.fI (a++b)=(s.fI a).fI b:=by unfold St.fI;rw[List.foldl_append]
theorem St.UZ(s:St):s.fI []=s:=rfl
theorem St.El(s:St)(b:UInt8)(l:An):s.fI (b::l)=(s.put b).fI l:=rfl
def lay(aE:An)(o:Nat)(l:An):List UInt8:=aE.take o++(l++aE.drop (o+l.length))
theorem Pr(aE:An)(o:Nat):lay aE o []=aE:=by simp[lay]
theorem Mq(aE:An)(o:Nat)(l:An)(h:o+l.length<=aE.length):(lay aE o l).length=aE.length:=by unfold lay;simp;omega
theorem U0(aE:An)(o:Nat)(b:UInt8)(l:An)(h:o<aE.length):lay (aE.set o b) (o+1) l=lay aE o (b::l):=by
 unfold lay;have h1:(aE.set o b).take (o+1)=aE.take o++[b]:=by rw[lE qH,List.take_set_of_le (aF o)];simp
 have h2:(aE.set o b).drop (o+1+l.length)=aE.drop (o+1+l.length):=List.drop_set_of_lt aa;rw[h1,h2];simp[show o+1+l.length=o+(l.length+1) by omega]
theorem St.BA(l:An): ∀s:St,s.aE.length=64->s.n%64+l.length<=64->
  s.fI l=⟨if s.n%64+l.length=64 then qo s.ws (lay s.aE (s.n%64) l)else s.ws,lay s.aE (s.n%64) l,s.n+l.length⟩:=by
 induction l with
 | nil=>
  intro s hb hl;have: ¬(s.n%64+([]:An).length=64):=aH;rw[au this,Pr];rfl
 | cons b l ih=>
  intro s hb hl;rw[St.El];simp only[el]at hl ⊢;have hc:=U0 s.aE (s.n%64) b l aa;by_cases yp:s.n%64=63;·have:l=[]:=mm aa;subst this;rw[St.UZ,Pr]at*;unfold St.put;rw[ax yp,ax aH,<-hc];simp
  ·have hp:s.put b=⟨s.ws,s.aE.set (s.n%64) b,s.n+1⟩:=(by unfold St.put;rw[au yp]);have hn:(s.n+1)%64=s.n%64+1:=aa;have:=ih (s.put b) (by rw[hp];simpa using hb) (by rw[hp];simp only;omega);rw[this,hp];simp only;rw[hn,hc,show s.n%64+1+l.length=s.n%64+(l.length+1) by omega,show s.n+1+l.length=s.n+(l.length+1) by omega]
theorem St.U1(l:An): ∀s:St,s.aE.length=64->(s.fI l).aE.length=64:=by
 induction l with
 | nil=>intro s h;exact h
 | cons b l ih=>intro s h;exact ih _ (by unfold St.put;simpa using h)
theorem St.Ga(l:An): ∀s:St,(s.fI l).n=s.n+l.length:=by
 induction l with
 | nil=>intro s;rfl
 | cons b l ih=>intro s;rw[St.El,ih];simp[St.put];omega
def St.cells(s:St):List Value:=s.ws.agg.toList++(s.aE.map B8++[.int .u64 s.n])
theorem St.pn(s:St)(h:s.aE.length=64):s.cells.length=73:=by unfold St.cells;simp[h]
structure dH(w:Lo)(g:Nat)(s:St):Prop where
 at_:w.heap[g]? =some (.cells s.cells.toArray 279 (0,0))
 len:s.aE.length=64
theorem dH.cellAt{s:St}(h:dH w g s)(i:Nat):w.cell? ⟨g,i,none⟩=s.cells[i]? :=by rw[aC _ _ _ _ _ _ h.at_];simp
theorem St.Mr(s:St)(h:s.aE.length=64):s.cells[72]? =some (.int .u64 s.n):=by unfold St.cells;rw[lH ah,lH fO];simp[h]
theorem St.one(s:St): ∀v∈s.cells,v.oneCell'=true:=by
 intro v hv;unfold St.cells at hv;simp only[List.mem_append,List.mem_map]at hv;rcases hv with h|⟨b,_,rfl⟩|h;·simp at h;rcases h with rfl|rfl|rfl|rfl|rfl|rfl|rfl|rfl<;>rfl
 ·rfl
 ·simp at h;subst h;rfl
theorem bq(w:Lo)(o:Obj):Below w.heap.size w (w.alloc o):=az
theorem jW(a b:BitVec 32):((a.toNat:Int)+(b.toNat:Int))%4294967296=((a+b).toNat:Int):=by rw[BitVec.toNat_add];omega
theorem U2(w:Lo):(w.alloc (.cells om 276)).rowIs w.heap.size 276 8 (λ_=> .int .u32 0):=by
 have h:=World.rowIs_alloc w om 276 (λ_=> .int .u32 0) (λi hi=>by
  unfold om at hi ⊢;rw[Array.getElem?_replicate,ax jP])
 have e:om.size=8:=by simp[om]
 rwa [e]at h
theorem O'(ws:R8)(aE:An)(nN:aE.length=64)(w:Lo)(hK: ∀i,i<64->w.cell? ⟨2,i,none⟩=some (aJ (Kc i)))(h1:2<w.heap.size):
  Calls prog 199 #[.agg ws.agg,.agg (aE.map B8).toArray] w λe w'=>e= .returned (.agg (qo ws aE).agg)/\Below w.heap.size w w':=by
 have adt:=(zero_of_info abN).1;have hz8:=(zero_of_info ads).1;have HK:=ae hK;have HSP:=ae (Mm aE nN);have qT:(aE.map B8).toArray.size=64:=by simpa using nN
 have HWI:=ae (I5 aE);have S':=ae (Ej aE);have HWS:=ae (Mp aE);have HRN:Hid (∀n r,rounds aE (n+1) r=roundOf (Kc n) (wd aE n) (rounds aE n r)):=ae (λ_ _=>rfl);have HMX:Hid (qo ws aE=ws.add (rounds aE 64 ws)):=ae rfl;generalize eX:(aE.map B8).toArray=bl at*;have kX:=ae qT;clear qT eX hK nN;generalize words aE=W at*;go_enter func199,ntmps199;have eA:(w.alloc (.cells ws.agg 276)).heap.size=w.heap.size+1:=ah;have eB:((w.alloc (.cells ws.agg 276)).alloc (.cells bl 277)).heap.size=w.heap.size+1+1:=ah;have sF:=bq w (.cells ws.agg 276);have U3:=bq (w.alloc (.cells ws.agg 276)) (.cells bl 277);have T':=bq ((w.alloc (.cells ws.agg 276)).alloc (.cells bl 277)) (.cells om 276)
 have oQ:(((w.alloc (.cells ws.agg 276)).alloc (.cells bl 277)).alloc (.cells om 276)).rowIs w.heap.size 276 8 (λi=>aJ (ws.get i)):=
  ((World.rowIs_alloc w ws.agg 276 (λi=>aJ (ws.get i)) (λi hi=>ws.By i hi)).alloc _).alloc _
 have Lg:(((w.alloc (.cells ws.agg 276)).alloc (.cells bl 277)).alloc (.cells om 276)).rowIs (w.heap.size+1+1) 276 8 (λ_=> .int .u32 0):=by have h:=U2 ((w.alloc (.cells ws.agg 276)).alloc (.cells bl 277));rw[eB]at h;exact h
 have hcB:(((w.alloc (.cells ws.agg 276)).alloc (.cells bl 277)).alloc (.cells om 276)).heap[w.heap.size+1]? =some (.cells bl 277 (0,0)):=by rw[T'.block _ ah,<-eA];exact bz _ _
 have bm:Below w.heap.size w (((w.alloc (.cells ws.agg 276)).alloc (.cells bl 277)).alloc (.cells om 276)):=(aQ sF U3).trans (T'.mono aH);have eC:(((w.alloc (.cells ws.agg 276)).alloc (.cells bl 277)).alloc (.cells om 276)).heap.size=w.heap.size+1+1+1:=ah;have HAA:Hid (∀i,i<8->ws.agg[i]? =some (aJ (ws.get i))):=ae ws.By;clear eA eB sF U3 T';go_wp2_with (refine wpList_load_row rfl 277 _ rfl (w.heap.size+1) rfl 277 bl _ _ hcB underlying277 rfl (by rw[Mo,kX.out]) ?_)
 generalize((w.alloc (.cells ws.agg 276)).alloc (.cells bl 277)).alloc (.cells om 276)=w3 at*;refine(HSP w3).mono ?_;rintro e w4 ⟨rfl,bc⟩;have ais:=oQ.of_block (bc.block _ aa);have ait:=Lg.of_block (bc.block _ aa);have g4:=aQ bm bc;have tg:=bc.size;have jC:=bz w4 (.cells fD 305);clear oQ Lg hcB bc bm;go_wp2_with (refine wpList_store_row rfl 305 _ _ rfl w4.heap.size W rfl rfl 305 fD jC (by rw[Bv,HWS.out]) (by rw[HWS.out];simp[fD]) S'.out ?_)
 rw[World.setRow_alloc_new];have U4:=bz w4 (.cells W 305);have eS:=bq w4 (.cells W 305);have DI:=ais.alloc (.cells W 305);have aiu:=ait.alloc (.cells W 305);have g5:=aQ g4 eS;clear jC eS ais ait g4;generalize w4.alloc (.cells W 305)=w5 at*;have k0:w5.drew.cell? ⟨w.heap.size,0,none⟩=some (aJ ws.a):=DI.cell (i:=0) aa;have k1:w5.drew.cell? ⟨w.heap.size,1,none⟩=some (aJ ws.b):=DI.cell (i:=1) aa;have k2:w5.drew.cell? ⟨w.heap.size,2,none⟩=some (aJ ws.c):=DI.cell (i:=2) aa;have k3:w5.drew.cell? ⟨w.heap.size,3,none⟩=some (aJ ws.d):=DI.cell (i:=3) aa;refine wp_region_held_drew (S:=λw'=>w'.cell? ⟨w.heap.size,0,none⟩=some (aJ ws.a)/\w'.cell? ⟨w.heap.size,1,none⟩=some (aJ ws.b)/\w'.cell? ⟨w.heap.size,2,none⟩=some (aJ ws.c)/\w'.cell? ⟨w.heap.size,3,none⟩=some (aJ ws.d)) ak ⟨k0,k1,k2,k3⟩ (λhS=> ?_);refine ag 0 hS (h:=bN 1 hS (h:=ag 2 hS (h:=bN 3 hS (h:=ag 4 hS (h:=bN 5 hS (h:=ag 6 hS (h:=bN 7 hS (h:=ag 8 hS (h:=ag 9 hS (h:=ag 10 hS (h:=ag 11 hS (h:= ?_))))))))))));refine wpAnyH_done ak ?_ _;have k4:w5.drew.drew.cell? ⟨w.heap.size,4,none⟩=some (aJ ws.e):=DI.cell (i:=4) aa;have k5:w5.drew.drew.cell? ⟨w.heap.size,5,none⟩=some (aJ ws.f):=DI.cell (i:=5) aa;have k6:w5.drew.drew.cell? ⟨w.heap.size,6,none⟩=some (aJ ws.g):=DI.cell (i:=6) aa;have k7:w5.drew.drew.cell? ⟨w.heap.size,7,none⟩=some (aJ ws.h):=DI.cell (i:=7) aa;clear k0 k1 k2 k3 hS;go_wp2_with fail;refine wp_region_held_drew (S:=λw'=>w'.cell? ⟨w.heap.size,4,none⟩=some (aJ ws.e)/\w'.cell? ⟨w.heap.size,5,none⟩=some (aJ ws.f)/\w'.cell? ⟨w.heap.size,6,none⟩=some (aJ ws.g)/\w'.cell? ⟨w.heap.size,7,none⟩=some (aJ ws.h)) ak ⟨k4,k5,k6,k7⟩ (λhS=> ?_);refine ag 0 hS (h:=bN 1 hS (h:=ag 2 hS (h:=bN 3 hS (h:=ag 4 hS (h:=bN 5 hS (h:=ag 6 hS (h:=bN 7 hS (h:=ag 8 hS (h:=ag 9 hS (h:=ag 10 hS (h:=ag 11 hS (h:= ?_))))))))))));refine wpAnyH_done ak ?_ _;clear k4 k5 k6 k7 hS;have U5:w5.drew.drew.heap[w4.heap.size]? =some (.cells W 305 (0,0)):=U4;go_wp2_with (refine wpList_load_row rfl 305 _ rfl w4.heap.size rfl 305 W _ _ U5 underlying305 rfl (by rw[Bv,HWS.out]) ?_)
 have aiv:w5.drew.drew.rowIs w.heap.size 276 8 (λi=>aJ (ws.get i)):=DI;have aiw:w5.drew.drew.rowIs (w.heap.size+1+1) 276 8 (λ_=> .int .u32 0):=aiu;have g6:Below w.heap.size w w5.drew.drew:=g5.drew.drew;clear U4 U5 DI aiu g5;generalize w5.drew.drew=w6 at*;go_loopw [6,7,8,9,10,11,12,13,39] (λs6 s7 s8 s9 Po s11 Ms s13 i wr=> ∃(k:Nat) (a b c d e f g h:BitVec 32),k<=64/\rounds aE k ws=⟨a,b,c,d,e,f,g,h⟩/\s6=aJ a/\s7=aJ b/\s8=aJ c/\s9=aJ d/\Po=aJ e/\s11=aJ f/\Ms=aJ g/\s13=aJ h/\i= .int .i64 k/\wr.rowIs w.heap.size 276 8 (λi=>aJ (ws.get i))/\wr.rowIs (w.heap.size+1+1) 276 8 (λ_=> .int .u32 0)/\Below w.heap.size w wr) (λ_ _ _ _ _ _ _ _ i _=>64-(intOf i).toNat);·exact⟨0,ws.a,ws.b,ws.c,ws.d,ws.e,ws.f,ws.g,ws.h,aa,rfl,rfl,rfl,rfl,rfl,rfl,rfl,rfl,rfl,rfl,aiv,aiw,g6⟩
 ·
  clear aiv aiw g6;obtain⟨k,a,b,c,d,e,f,g,h,hk,hr,rfl,rfl,rfl,rfl,rfl,rfl,rfl,rfl,rfl,oQ,Lg,hb⟩:=hrel;by_cases aV:k<64
  ·have hn:=HRN.out k ws;rw[hr]at hn;have hu:uOf ⟨a,b,c,d,e,f,g,h⟩=(lg 2 a ^^^ lg 13 a ^^^ lg 22 a)+((a &&& b) ^^^ (a &&& c) ^^^ (b &&& c)):=rfl;have ht:tOf ⟨a,b,c,d,e,f,g,h⟩ (Kc k) (wd aE k)=h+(lg 6 e ^^^ lg 11 e ^^^ lg 25 e)+((e &&& f) ^^^ (~~~e &&& g))+Kc k+wd aE k:=rfl;have kM:roundOf (Kc k) (wd aE k) ⟨a,b,c,d,e,f,g,h⟩=⟨tOf ⟨a,b,c,d,e,f,g,h⟩ (Kc k) (wd aE k)+uOf ⟨a,b,c,d,e,f,g,h⟩,a,b,c,d+tOf ⟨a,b,c,d,e,f,g,h⟩ (Kc k) (wd aE k),e,f,g⟩:=rfl;rw[kM,hu,ht]at hn;have Al:=HWI.out k aV;have kK:wr.drew.cell? ⟨2,k,none⟩=some (aJ (Kc k)):=(hb.cell (p:=⟨2,k,none⟩) h1).trans (HK k aV);generalize wd aE k=wv at*;generalize Kc k=kk at*;have HR6:=ae (H' e);have adu:=ae (UM e);have adv:=ae (UT e);have qy:=ae (G' a);have adw:=ae (UN a);have adx:=ae (US a);clear hu ht kM hr;generalize lg 6 e=r6 at*;generalize lg 11 e=r11 at*;generalize lg 25 e=r25 at*;generalize lg 2 a=r2 at*;generalize lg 13 a=r13 at*;generalize lg 22 a=r22 at*;have HX1:=ae (pk r6 r11);generalize r6 ^^^ r11=x1 at*;have HX2:=ae (pk x1 r25);generalize x1 ^^^ r25=x2 at*;have HV1:=ae (iL h x2);generalize h+x2=v1 at*;have HA1:=ae (DH e f);generalize e &&& f=a1 at*;have HNO:=ae (M' e);generalize ~~~e=n1 at*;have HA2:=ae (DH n1 g);generalize n1 &&& g=a2 at*;have zv:=ae (pk a1 a2);generalize a1 ^^^ a2=c1 at*;have HV2:=ae (iL v1 c1);generalize v1+c1=v2 at*;have HV3:=ae (iL v2 kk);generalize v2+kk=v3 at*;have HV4:=ae (iL v3 wv);generalize v3+wv=t at*;have U6:=ae (pk r2 r13);generalize r2 ^^^ r13=y1 at*;have TL:=ae (pk y1 r22);generalize y1 ^^^ r22=y2 at*;have mT:=ae (DH a b);generalize a &&& b=m1 at*;have F1:=ae (DH a c);generalize a &&& c=m2 at*;have U7:=ae (pk m1 m2);generalize m1 ^^^ m2=m3 at*;have Dz:=ae (DH b c);generalize b &&& c=m4 at*;have UA:=ae (pk m3 m4);generalize m3 ^^^ m4=m5 at*;have HU:=ae (jW y2 m5);generalize y2+m5=u at*;have HDT:=ae (jW d t);generalize d+t=dt at*;have HTU:=ae (jW t u);generalize t+u=tu at*;have HN:=ae hn;clear hn;go_wp2_with fail;refine wp_region_held_drew (S:=λw'=>w'.cell? ⟨2,k,none⟩=some (aJ kk)) ak kK (λhS=> ?_);refine ag 0 hS (h:=ag 1 hS (h:=ag 3 hS (h:=ag 6 hS (h:=ag 10 hS (h:=ag 11 hS (h:=ag 12 hS (h:= ?_)))))));rw[HA1.out];refine ag 13 hS (h:=ag 14 hS (h:= ?_));rw[HNO.out];refine ag 15 hS (h:=ag 16 hS (h:= ?_));rw[HA2.out];refine ag 17 hS (h:= ?_);rw[zv.out];refine ag 19 hS (h:=bx 20 rfl (λw hSw=>by have q0:0<=(k:Int):=aa;have q1:(k:Int)<64:=aa;go_simp;all_goals(with_reducible rfl)) hS (h:=bN 21 hS (h:=ag 23 hS (h:= ?_))));refine aO 2 (λK hK=> ?_);go_simp;refine(HR6 _).mono ?_;rintro e w' ⟨rfl,rfl⟩;go_wp2_with fail;refine hK _ _ hS (λ_=> ?_);clear hK K;refine aO 4 (λK hK=> ?_);go_simp;refine(adu _).mono ?_;rintro e w' ⟨rfl,rfl⟩;go_wp2_with fail;refine hK _ _ hS (λ_=> ?_);clear hK K
   refine ag 5 hS (h:= ?_);rw[HX1.out];refine aO 7 (λK hK=> ?_);go_simp;refine(adv _).mono ?_;rintro e w' ⟨rfl,rfl⟩;go_wp2_with fail;refine hK _ _ hS (λ_=> ?_);clear hK K;refine ag 8 hS (h:= ?_);rw[HX2.out];refine ag 9 hS (h:= ?_);rw[HV1.out];refine ag 18 hS (h:= ?_);rw[HV2.out];refine ag 22 hS (h:= ?_);rw[HV3.out];refine ag 24 hS (h:= ?_);rw[HV4.out];refine ag 25 hS (h:= ?_);refine wpAnyH_done ak ?_ _;clear kK Al;have q1:=U6.out;have q2:=TL.out;have q3:=mT.out;have q4:=F1.out;have q5:=U7.out;have q6:=Dz.out;have q7:=UA.out;have q8:=HU.out;have q9:=HDT.out;have q10:=HTU.out;go_wp2_with fail;refine(qy _).mono ?_;rintro e w' ⟨rfl,rfl⟩;go_wp2_with fail;refine(adw _).mono ?_;rintro e w' ⟨rfl,rfl⟩;go_wp2_with fail;refine(adx _).mono ?_;rintro e w' ⟨rfl,rfl⟩;go_wp2_with fail;go_roundw;case rel=>exact⟨k+1,tu,a,b,c,dt,e,f,g,aa,HN.out,(by first|rfl|exact aR (Value.int .u32) HTU.out),rfl,rfl,rfl,(by first|rfl|exact aR (Value.int .u32) HDT.out),rfl,rfl,rfl,aA,oQ,Lg,hb.drew⟩
   case measure=>simp[intOf];omega
  ·obtain rfl:k=64:=(by omega);have hm:=HMX.out;rw[hr]at hm;have HM:=ae hm;clear hm hr aV hk HWI HRN HSP adt hz8;rw[show((64:Nat):Int)=64 from rfl];go_wp2_with fail;go_loopw [110] (λi wr=> ∃(k:Nat),k<=8/\i= .int .i64 k/\wr.rowIs w.heap.size 276 8 (λi=>if i<k then aJ (ws.get i+(R8.mk a b c d e f g h).get i)else aJ (ws.get i))/\wr.rowIs (w.heap.size+1+1) 276 8 (λ_=> .int .u32 0)/\Below w.heap.size w wr) (λi _=>8-(intOf i).toNat);·exact⟨0,aa,rfl,oQ.congr λi _=>by rw[au aa],Lg,hb⟩
   ·
    clear oQ Lg hb;obtain⟨k,hk,rfl,oQ,Lg,hb⟩:=hrel;have oo:k=0\/k=1\/k=2\/k=3\/k=4\/k=5\/k=6\/k=7\/k=8:=aa;rcases oo with rfl|rfl|rfl|rfl|rfl|rfl|rfl|rfl|rfl
    ·have hc:wr.cell? ⟨w.heap.size,0,none⟩=some (aJ ws.a):=oQ.cell (i:=0) aa;have hf:=oQ.frozen 0;have HA:=ae (jW ws.a a);have Al: ∀w,(Instr.index 276 (.agg #[aJ a,aJ b,aJ c,aJ d,aJ e,aJ f,aJ g,aJ h]) (.int .i64 0)).run prog w= .ok (aJ a) w:=λw=>f9 ⟨a,b,c,d,e,f,g,h⟩ 0 aa w;rw[show((0:Nat):Int)=0 from rfl];generalize xJ:ws.a=xx at*;have Em:=ae xJ;clear xJ;go_wp2_with fail;go_roundw;case rel=>
      refine⟨1,aa,rfl,?_,Lg.setOther aH _,hb.setCell ah _⟩;exact(oQ.set 0 _).congr λi _=>by
       by_cases h:i=0;·subst h;rw[ax rfl,ax aa];rw[HA.out,<-Em.out];rfl
       ·rw[au h];by_cases h2:i<0;·rw[ax h2,ax aa]
        ·rw[au h2,au aa]
     case measure=>simp[intOf]
    ·have hc:wr.cell? ⟨w.heap.size,1,none⟩=some (aJ ws.b):=oQ.cell (i:=1) aa;have hf:=oQ.frozen 1;have HA:=ae (jW ws.b b);have Al: ∀w,(Instr.index 276 (.agg #[aJ a,aJ b,aJ c,aJ d,aJ e,aJ f,aJ g,aJ h]) (.int .i64 1)).run prog w= .ok (aJ b) w:=λw=>f9 ⟨a,b,c,d,e,f,g,h⟩ 1 aa w;rw[show((1:Nat):Int)=1 from rfl];generalize xJ:ws.b=xx at*;have Em:=ae xJ;clear xJ;go_wp2_with fail;go_roundw;case rel=>
      refine⟨2,aa,rfl,?_,Lg.setOther aH _,hb.setCell ah _⟩;exact(oQ.set 1 _).congr λi _=>by
       by_cases h:i=1;·subst h;rw[ax rfl,ax aa];rw[HA.out,<-Em.out];rfl
       ·rw[au h];by_cases h2:i<1;·rw[ax h2,ax aa]
        ·rw[au h2,au aa]
     case measure=>simp[intOf]
    ·have hc:wr.cell? ⟨w.heap.size,2,none⟩=some (aJ ws.c):=oQ.cell (i:=2) aa;have hf:=oQ.frozen 2;have HA:=ae (jW ws.c c);have Al: ∀w,(Instr.index 276 (.agg #[aJ a,aJ b,aJ c,aJ d,aJ e,aJ f,aJ g,aJ h]) (.int .i64 2)).run prog w= .ok (aJ c) w:=λw=>f9 ⟨a,b,c,d,e,f,g,h⟩ 2 aa w;rw[show((2:Nat):Int)=2 from rfl];generalize xJ:ws.c=xx at*;have Em:=ae xJ;clear xJ;go_wp2_with fail;go_roundw;case rel=>
      refine⟨3,aa,rfl,?_,Lg.setOther aH _,hb.setCell ah _⟩;exact(oQ.set 2 _).congr λi _=>by
       by_cases h:i=2;·subst h;rw[ax rfl,ax aa];rw[HA.out,<-Em.out];rfl
       ·rw[au h];by_cases h2:i<2;·rw[ax h2,ax aa]
        ·rw[au h2,au aa]
     case measure=>simp[intOf]
    ·have hc:wr.cell? ⟨w.heap.size,3,none⟩=some (aJ ws.d):=oQ.cell (i:=3) aa;have hf:=oQ.frozen 3;have HA:=ae (jW ws.d d);have Al: ∀w,(Instr.index 276 (.agg #[aJ a,aJ b,aJ c,aJ d,aJ e,aJ f,aJ g,aJ h]) (.int .i64 3)).run prog w= .ok (aJ d) w:=λw=>f9 ⟨a,b,c,d,e,f,g,h⟩ 3 aa w;rw[show((3:Nat):Int)=3 from rfl];generalize xJ:ws.d=xx at*;have Em:=ae xJ;clear xJ;go_wp2_with fail;go_roundw;case rel=>
      refine⟨4,aa,rfl,?_,Lg.setOther aH _,hb.setCell ah _⟩;exact(oQ.set 3 _).congr λi _=>by
       by_cases h:i=3;·subst h;rw[ax rfl,ax aa];rw[HA.out,<-Em.out];rfl
       ·rw[au h];by_cases h2:i<3;·rw[ax h2,ax aa]
        ·rw[au h2,au aa]
     case measure=>simp[intOf]
    ·have hc:wr.cell? ⟨w.heap.size,4,none⟩=some (aJ ws.e):=oQ.cell (i:=4) aa;have hf:=oQ.frozen 4;have HA:=ae (jW ws.e e);have Al: ∀w,(Instr.index 276 (.agg #[aJ a,aJ b,aJ c,aJ d,aJ e,aJ f,aJ g,aJ h]) (.int .i64 4)).run prog w= .ok (aJ e) w:=λw=>f9 ⟨a,b,c,d,e,f,g,h⟩ 4 aa w;rw[show((4:Nat):Int)=4 from rfl];generalize xJ:ws.e=xx at*;have Em:=ae xJ;clear xJ;go_wp2_with fail;go_roundw;case rel=>
      refine⟨5,aa,rfl,?_,Lg.setOther aH _,hb.setCell ah _⟩;exact(oQ.set 4 _).congr λi _=>by
       by_cases h:i=4;·subst h;rw[ax rfl,ax aa];rw[HA.out,<-Em.out];rfl
       ·rw[au h];by_cases h2:i<4;·rw[ax h2,ax aa]
        ·rw[au h2,au aa]
     case measure=>simp[intOf]
    ·have hc:wr.cell? ⟨w.heap.size,5,none⟩=some (aJ ws.f):=oQ.cell (i:=5) aa;have hf:=oQ.frozen 5;have HA:=ae (jW ws.f f);have Al: ∀w,(Instr.index 276 (.agg #[aJ a,aJ b,aJ c,aJ d,aJ e,aJ f,aJ g,aJ h]) (.int .i64 5)).run prog w= .ok (aJ f) w:=λw=>f9 ⟨a,b,c,d,e,f,g,h⟩ 5 aa w;rw[show((5:Nat):Int)=5 from rfl];generalize xJ:ws.f=xx at*;have Em:=ae xJ;clear xJ;go_wp2_with fail;go_roundw;case rel=>
      refine⟨6,aa,rfl,?_,Lg.setOther aH _,hb.setCell ah _⟩;exact(oQ.set 5 _).congr λi _=>by
       by_cases h:i=5;·subst h;rw[ax rfl,ax aa];rw[HA.out,<-Em.out];rfl
       ·rw[au h];by_cases h2:i<5;·rw[ax h2,ax aa]
        ·rw[au h2,au aa]
     case measure=>simp[intOf]
    ·have hc:wr.cell? ⟨w.heap.size,6,none⟩=some (aJ ws.g):=oQ.cell (i:=6) aa;have hf:=oQ.frozen 6;have HA:=ae (jW ws.g g);have Al: ∀w,(Instr.index 276 (.agg #[aJ a,aJ b,aJ c,aJ d,aJ e,aJ f,aJ g,aJ h]) (.int .i64 6)).run prog w= .ok (aJ g) w:=λw=>f9 ⟨a,b,c,d,e,f,g,h⟩ 6 aa w;rw[show((6:Nat):Int)=6 from rfl];generalize xJ:ws.g=xx at*;have Em:=ae xJ;clear xJ;go_wp2_with fail;go_roundw;case rel=>
      refine⟨7,aa,rfl,?_,Lg.setOther aH _,hb.setCell ah _⟩;exact(oQ.set 6 _).congr λi _=>by
       by_cases h:i=6;·subst h;rw[ax rfl,ax aa];rw[HA.out,<-Em.out];rfl
       ·rw[au h];by_cases h2:i<6;·rw[ax h2,ax aa]
        ·rw[au h2,au aa]
     case measure=>simp[intOf]
    ·have hc:wr.cell? ⟨w.heap.size,7,none⟩=some (aJ ws.h):=oQ.cell (i:=7) aa;have hf:=oQ.frozen 7;have HA:=ae (jW ws.h h);have Al: ∀w,(Instr.index 276 (.agg #[aJ a,aJ b,aJ c,aJ d,aJ e,aJ f,aJ g,aJ h]) (.int .i64 7)).run prog w= .ok (aJ h) w:=λw=>f9 ⟨a,b,c,d,e,f,g,h⟩ 7 aa w;rw[show((7:Nat):Int)=7 from rfl];generalize xJ:ws.h=xx at*;have Em:=ae xJ;clear xJ;go_wp2_with fail;go_roundw;case rel=>
      refine⟨8,aa,rfl,?_,Lg.setOther aH _,hb.setCell ah _⟩;exact(oQ.set 7 _).congr λi _=>by
       by_cases h:i=7;·subst h;rw[ax rfl,ax aa];rw[HA.out,<-Em.out];rfl
       ·rw[au h];by_cases h2:i<7;·rw[ax h2,ax aa]
        ·rw[au h2,au aa]
     case measure=>simp[intOf]
    ·obtain⟨cs,hcs,hn,hv⟩:=oQ;obtain⟨os,Bw,sE,hvo⟩:=Lg;have U8: ∀i,i<8->cs[i]? =some (aJ ((ws.add ⟨a,b,c,d,e,f,g,h⟩).get i)):=λi hi=>(by rw[add_get];rw[hv i hi];simp only[hi,if_true]);obtain rfl:=J' _ hn U8;rw[<-HM.out]at hcs;rw[show((8:Nat):Int)=8 from rfl];clear hv hvo hn U8 HM HMX;go_wp2_with (first|(refine wpList_load_row rfl 276 _ rfl w.heap.size rfl 276 (qo ws aE).agg _ _ hcs underlying276 rfl ?c1 ?_)|(refine wpList_store_row rfl 276 _ _ rfl (w.heap.size+1+1) (qo ws aE).agg rfl rfl 276 os Bw ?c2 ?c3 ?c4 ?_))
     case c1=>rw[LA];rfl
     case c2=>rw[LA];rfl
     case c3=>rw[sE];rfl
     case c4=>exact Bz (qo ws aE)
     refine bA (results_cell_row rfl _ _ (w.heap.size+1+1) 276 (qo ws aE).agg _ _ rfl (setRow_heap _ _ _ _ _ _ Bw) underlying276 rfl tX) rfl ?_;exact⟨rfl,below_setRow hb aa _⟩
def lenOf(v:Value):Nat:=match v with|.slice _ n _=>n|_=>0
theorem Pu:(prog.info? 5).map (·.size)=some 1:=ak
theorem U9(W8:List Value)(h8:W8.length=8)(aE ch:An)(x:Value)(o:Nat)(hb:aE.length=64)(ho:o+ch.length<=64):
  (W8++(aE.map B8++[x])).take (8+o)++(ch.map B8++(W8++(aE.map B8++[x])).drop (8+o+ch.length))=W8++((lay aE o ch).map B8++[x]):=by
 unfold lay;rw[List.take_append,List.drop_append,h8];rw[mZ aa,show 8+o-8=o by omega,pT aa,show 8+o+ch.length-8=o+ch.length by omega];rw[List.take_append_of_le_length aH,List.drop_append_of_le_length aH];simp
theorem Va(W8:List Value)(h8:W8.length=8)(aE:An)(x y:Value)(hb:aE.length=64):(W8++(aE.map B8++[x])).set 72 y=W8++(aE.map B8++[y]):=by rw[List.set_append_right _ _ aa,h8,List.set_append_right _ _ (by simp[hb])];simp[hb]
theorem QK(t:St)(o:Nat)(ch:An)(hb:t.aE.length=64)(ho:o+ch.length<=64):
  t.cells.toArray.toList.take (8+o)++((ch.map B8)++t.cells.toArray.toList.drop (8+o+(ch.map B8).length))=(St.mk t.ws (lay t.aE o ch) t.n).cells:=by
 rw[cX];exact U9 t.ws.agg.toList rfl t.aE ch _ o hb ho
theorem dH.count{s:St}(h:dH w g s)(m:Nat):dH (w.setCell ⟨g,72,none⟩ (.int .u64 m)) g ⟨s.ws,s.aE,m⟩:=by refine⟨?_,h.len⟩;have e:s.cells.set 72 (.int .u64 m)=(St.mk s.ws s.aE m).cells:=Va s.ws.agg.toList rfl s.aE _ _ h.len;unfold World.setCell;simp[Array.getElem?_modify,h.at_,e]
theorem dH.words{s:St}(h:dH w g s)(r:R8):dH (w.setCells g 0 r.agg.toList) g ⟨r,s.aE,s.n⟩:=by refine⟨?_,h.len⟩;have h0:=heap_set h.at_ 0 (aJ r.a);have h1:=heap_set h0 1 (aJ r.b);have h2:=heap_set h1 2 (aJ r.c);have h3:=heap_set h2 3 (aJ r.d);have h4:=heap_set h3 4 (aJ r.e);have h5:=heap_set h4 5 (aJ r.f);have h6:=heap_set h5 6 (aJ r.g);have h7:=heap_set h6 7 (aJ r.h);exact h7
theorem dH.Gb{s:St}(h:dH w g s):w.rangeAt g 0 s.ws.agg.toList:=by
 intro j v hv;rw[Nat.zero_add,h.cellAt];have hj:j<s.ws.agg.toList.length:=by
  rcases dN j s.ws.agg.toList.length with h|h;·exact h
  ·rw[qE h]at hv;cases hv
 unfold St.cells;rw[AG hj];exact hv
theorem dH.xK{s:St}(h:dH w g s):w.rangeAt g 8 (s.aE.map B8):=by
 intro j v hv;rw[h.cellAt];have hj:j<(s.aE.map B8).length:=by
  rcases dN j (s.aE.map B8).length with h|h;·exact h
  ·rw[qE h]at hv;cases hv
 have h8:s.ws.agg.toList.length=8:=rfl;unfold St.cells;generalize s.ws.agg.toList=W8 at*;rw[lH aa,h8,show 8+j-8=j by omega,AG hj];exact hv
theorem dH.Vb{s:St}(h:dH w g s):w.there g 0 8:=by
 intro j hj;refine⟨?_,?_⟩;·rw[Nat.zero_add,h.cellAt,dS (by rw[s.pn h.len];omega)];rfl
 ·simp[World.frozen?,h.at_]
theorem dH.Gc{s:St}(h:dH w g s)(hb:Below B w w')(hg:g<B):dH w' g s:=⟨(hb.block g hg).trans h.at_,h.len⟩
theorem nS(g:Nat)(hg:g∈X): ∀(vs:List Value) (o:Nat) (b:Lo),aM X a b->aM X a (b.setCells g o vs)
 | [],_,_,h=>h
 | _::vs,o,_,h=>nS g hg vs (o+1) _ (h.setCell (p:=⟨g,o,none⟩) (.inl hg) _)
theorem uh(h:Below a.heap.size a b):aM [] a b:=⟨h.os,h.tape,h.output,h.size,λi hi _=>h.block i hi⟩
theorem lu(h:Below B a.drew b):Below B a b:=⟨h.os,h.tape,h.output,h.size,h.block⟩
theorem Gd(D:An)(n:Nat):D.take (D.take n).length=D.take n:=by
 rw[eZ];rcases Nat.le_total n D.length with h|h;·rw[Nat.min_eq_left h]
 ·rw[Nat.min_eq_right h,List.take_length,mZ h]
theorem QL(g o:Nat)(h:o<64)(w:Lo):(Instr.sliceAt 277 (.pointer (some ⟨g,8,none⟩)) (some (.int .i64 o)) none none).run prog w= .ok (.slice (some ⟨g,8+o,none⟩) (64-o) (64-o)) w:=by have ha:prog.arrayLen 277=64:=ak;have hu:prog.underlying 277=some (.array (prog.arrayLen 277) (prog.elem 277)):=ak;have hs:(sizeOf (prog.elem 277)).run prog w= .ok 1 w:=ak;rw[run_sliceAt_array_l w 277 ⟨g,8,none⟩ hu .i64 o aa (by rw[ha];omega),hs,ha];simp only[Result.andThen,slicedAt,Int.toNat_natCast,Nat.mul_one];rw[au aa,Addr.add_mid]
theorem En(g:Nat)(s:St)(A:As)(l:An)(c:Nat)(w:Lo)(hH:dH w g s)(hB:Bytes w A l)(hA:0<l.length-> ∀a,A=some a->a.block≠g)(hg:g<w.heap.size)(hK: ∀i,i<64->w.cell? ⟨2,i,none⟩=some (aJ (Kc i)))(h1:2<g)(hc:l.length<=c)(_hm:c<=9223372036854775807)(hn:s.n+l.length<=1000000000):
  Calls prog 157 #[.pointer (some ⟨g,0,none⟩),.slice A l.length c] w λe w'=>e= .returned (.tuple #[])/\dH w' g (s.fI l)/\aM [g] w w':=by
 have HK:=ae hK;have HN:=ae hn;clear hK hn;go_enter func157,ntmps157;go_wp2_with fail;go_loopw [1] (λv wr=> ∃(k:Nat) (Ak:As),k<=l.length/\v= .slice Ak (l.length-k) (c-k)/\Bytes wr Ak (l.drop k)/\(k<l.length-> ∀a,Ak=some a->a.block≠g)/\dH wr g (s.fI (l.take k))/\aM [g] w wr) (λv _=>lenOf v);·exact⟨0,A,aa,rfl,hB,hA,hH,aM.refl _ _⟩
 ·
  obtain⟨k,Ak,hk,rfl,TM,hAk,hHk,dm⟩:=hrel;clear hB hA hH;by_cases aV:k<l.length
  ·have hlen:(l.drop k).length=l.length-k:=fZ ..;obtain⟨bb,off,rfl,eX,hcell⟩:=TM.addr aa;have hbg:bb≠g:=hAk aV _ rfl;have htn:=St.Ga (l.take k) s;have htk:(l.take k).length=k:=tY;rw[htk]at htn;have HT:Hid (∀m,k+m<=l.length->s.fI (l.take (k+m))=(s.fI (l.take k)).fI ((l.drop k).take m)):=ae (λm _=>by rw[List.take_add,St.rj]);generalize da:s.fI (l.take k)=t at*;have I6:=hHk.len;have aiJ:=(hHk.cellAt 72).trans (t.Mr I6);have htb:t.n<=1000000000:=av HN.out;have cZ:=hHk.at_;have rk:(t.n:Int)%64=((t.n%64:Nat):Int):=aa;have ho:t.n%64<64:=aa;have hnn:(t.n:Int)<=1000000000:=aa;have sY:(0:Int)<((l.length-k:Nat):Int):=aa;have HTN:=ae htn;have jm:=ae da;clear htn da htk;generalize hD:l.drop k=D at*;have HD:=ae hD;clear hD;generalize hL:l.length-k=L at*;have HL:=ae hL;clear hL;generalize hCK:c-k=ck at*;have I0:=ae hCK;clear hCK;generalize hO:t.n%64=o at*;have HO:=ae hO;clear hO;have hcut:=QL g o ho;have fc:Nat.min L (64-o)=(D.take (64-o)).length:=(by rw[eZ,hlen,Nat.min_comm]);have aiK:=Gd D (64-o);generalize Hl:D.take (64-o)=ch at*;have axP:ch.length<=64-o:=LB;have axQ:0<ch.length:=LB;have iO: ∀j v,(ch.map B8)[j]? =some v->wr.cell? ((⟨bb,off,none⟩:Addr).add j)=some v:=by
    intro j v hv;rw[List.getElem?_map]at hv;have hj:j<ch.length:=by
     rcases dN j ch.length with h|h;·exact h
     ·rw[qE h]at hv;simp at hv
    have hjD:j<D.length:=(by have:ch.length<=D.length:=LB;omega);rw[dS hj]at hv;simp at hv;rw[Addr.add_mid,hcell j hjD,<-hv];have:ch[j]=D[j]:=(by simp only[<-Hl,List.getElem_take]);rw[this]
   have gZ:=t.pn I6;have bY:8+o+(ch.map B8).length<=t.cells.toArray.size:=(by simp[gZ];omega);have Mt:Hid ((t.cells.toArray.toList.take (8+o)++((ch.map B8)++t.cells.toArray.toList.drop (8+o+(ch.map B8).length)))=(St.mk t.ws (lay t.aE o ch) t.n).cells):=ae (QK t o ch I6 aa);have ek:=setRow_heap wr g t.cells.toArray (St.mk t.ws (lay t.aE o ch) t.n).cells.toArray _ _ cZ;have Vc:(lay t.aE o ch).length=64:=(by rw[Mq _ _ _ aa,I6]);have hH1:dH (wr.setRow g (St.mk t.ws (lay t.aE o ch) t.n).cells.toArray) g (St.mk t.ws (lay t.aE o ch) t.n):=⟨ek,Vc⟩
   have hO1:aM [g] wr (wr.setRow g (St.mk t.ws (lay t.aE o ch) t.n).cells.toArray):=⟨rfl,rfl,rfl,by simp[World.setRow],λi _ hi=>setRow_other wr g i _ jP⟩
   have c1:=(hH1.cellAt 72).trans ((St.mk t.ws (lay t.aE o ch) t.n).Mr Vc);have f1:(wr.setRow g (St.mk t.ws (lay t.aE o ch) t.n).cells.toArray).frozen? ⟨g,72,none⟩=false:=(by simp[World.frozen?,ek]);have Mu:=hH1.count (t.n+ch.length);have U':=hO1.setCell (p:=⟨g,72,none⟩) ah (.int .u64 ((t.n+ch.length:Nat):Int));have zw:(t.n:Int)+(ch.length:Int)=((t.n+ch.length:Nat):Int):=aa;have xL:=ae (St.BA ch t I6 (by rw[HO.out];omega));clear ek gZ hnn zw;simp only at c1;generalize V':(St.mk t.ws (lay t.aE o ch) t.n).cells=cs1 at*;have hnn:(t.n:Int)<=1000000000:=aa;have Iz:(ch.length:Int)<=64:=aa;have hLm:ch.length<=L:=(by rw[<-hlen,<-Hl,eZ];omega);by_cases Pv:o+ch.length=64
   ·have n7:((o:Int)+(ch.length:Int)==64)=true:=(by simp;omega);have hq:=xL.out;rw[HO.out,ax Pv]at hq;have HQ:Hid (s.fI (l.take (k+ch.length))=⟨qo t.ws (lay t.aE o ch),lay t.aE o ch,t.n+ch.length⟩):=ae (by rw[HT.out ch.length (av HL.out),aiK,hq]);clear hq Hl hcell;have tB:g<wr.heap.size:=db hg dm.size;have dv:=dm.trans U' ah;simp only[Int.natCast_add]at Mu U' dv;have DJ:g<(wr.setRow g cs1.toArray |>.setCell ⟨g,72,none⟩ (.int .u64 ((t.n:Int)+(ch.length:Int)))).heap.size:=db tB U'.size;have aiL:=ae (fun(w':Lo) h h'=>O' t.ws (lay t.aE o ch) Vc w' h h');generalize UK:lay t.aE o ch=lb at*;by_cases sX:ck=ch.length
    ·go_wp2_with (refine wpList_copy_own rfl (.tmp 21) (.tmp 22) 22 22 rfl 5 underlying22 Pu g (8+o) (64-o) (64-o) ⟨bb,off,none⟩ L ck rfl rfl t.cells.toArray 279 cZ (ch.map B8) FA iO bY (nM ch) ?_;rw[Mt.out];generalize wr.setRow g cs1.toArray=w1 at*)
     generalize w1.setCell ⟨g,72,none⟩ (.int .u64 ((t.n:Int)+(ch.length:Int)))=w2 at*;have adA:dH w2.drew g ⟨t.ws,lb,t.n+ch.length⟩:=⟨Mu.at_,Mu.len⟩
     have Lh:w2.drew.rangeAt g 8 (lb.map B8):=Mu.xK;have hKL:2<w2.drew.heap.size:=(by show 2<w2.heap.size;omega);have hKK: ∀i,i<64->w2.drew.cell? ⟨2,i,none⟩=some (aJ (Kc i)):=λi hi=>(by have e:w2.drew.cell? ⟨2,i,none⟩=w.cell? ⟨2,i,none⟩:=(by show World.cell? w2 _=_;unfold World.cell?;rw[dv.block 2 aa aH]);rw[e];exact HK i hi);refine wp_region_held_drew (S:=λw'=>w'.rangeAt g 8 (lb.map B8)) ak Lh (λhS=> ?_);refine ag 0 hS (h:=ag 1 hS (h:=ag 2 hS (h:=ag 3 hS (h:=ag 5 hS (h:=ag 6 hS (h:=ag 7 hS (h:= ?_)))))));refine wpAnyH_take (i:=8) (v:= .agg (lb.map B8).toArray) rfl ak ak ak (λ_ _ _ h=>h) (yieldsIf_load_mid (by rfl) 277 (.tmp 47) rfl g 8 rfl (lb.map B8) _ (λw h=>h) underlying277 rfl (by rw[Mo,cX,Vc])) hS ?_;refine en ?_;refine aO 4 (λK hK=> ?_);refine wp_load_mid 276 (.tmp 43) rfl g 0 rfl t.ws.agg.toList _ Mu.Gb underlying276 rfl tX ?_;refine en ?_;refine hK _ _ hS (λ_=> ?_);clear hK K;refine aO 9 (λK hK=> ?_);go_simp;refine(aiL _ hKK hKL).mono ?_;rintro e w3 ⟨rfl,bm⟩;have Li:=adA.Gc bm DJ;have hS3:=Li.xK;go_wp2_with fail;refine hK _ _ hS3 (λ_=> ?_);clear hK K;refine ag 10 hS3 (h:=ag 11 hS3 (h:= ?_));refine aO 12 (λK hK=> ?_);refine wp_store_mid 276 (.tmp 51) (.tmp 49) rfl g 0 (qo t.ws lb).agg rfl rfl Li.Vb tX (Bz _) ?_;simp only[Act.put];refine hK _ _ (Li.words _).xK (λ_=> ?_);clear hK K;refine wpAnyH_done ak ?_ _;have lq:aM [g] wr (w3.setCells g 0 (qo t.ws lb).agg.toList):=nS g ah _ _ _ ((U'.trans (uh (show aq w2 w3 from(lu bm))) ah));have Vd:=Li.words (qo t.ws lb);go_wp2_with fail;go_roundw;case rel=>
      refine⟨k+ch.length,some ⟨bb,off,none⟩,av HL.out,?_,?_,?_,?_,?_⟩;·have:=HL.out;have:=I0.out;rw[show l.length-(k+ch.length)=L-ch.length by omega,show c-(k+ch.length)=ck-ch.length by omega,show ck-ch.length=0 by omega]
      ·rw[pT (by have:=HL.out;have:=I0.out;omega)];exact .nil
      ·intro _ a e;injection e with e;subst e;exact hbg
      ·rw[HQ.out];exact Vd
      ·exact dm.trans lq ah
     case measure=>simp[lenOf];omega
    ·go_wp2_with (refine wpList_copy_own rfl (.tmp 21) (.tmp 22) 22 22 rfl 5 underlying22 Pu g (8+o) (64-o) (64-o) ⟨bb,off,none⟩ L ck rfl rfl t.cells.toArray 279 cZ (ch.map B8) FA iO bY (nM ch) ?_;rw[Mt.out];generalize wr.setRow g cs1.toArray=w1 at*)
     generalize w1.setCell ⟨g,72,none⟩ (.int .u64 ((t.n:Int)+(ch.length:Int)))=w2 at*;have adA:dH w2.drew g ⟨t.ws,lb,t.n+ch.length⟩:=⟨Mu.at_,Mu.len⟩
     have Lh:w2.drew.rangeAt g 8 (lb.map B8):=Mu.xK;have hKL:2<w2.drew.heap.size:=(by show 2<w2.heap.size;omega);have hKK: ∀i,i<64->w2.drew.cell? ⟨2,i,none⟩=some (aJ (Kc i)):=λi hi=>(by have e:w2.drew.cell? ⟨2,i,none⟩=w.cell? ⟨2,i,none⟩:=(by show World.cell? w2 _=_;unfold World.cell?;rw[dv.block 2 aa aH]);rw[e];exact HK i hi);refine wp_region_held_drew (S:=λw'=>w'.rangeAt g 8 (lb.map B8)) ak Lh (λhS=> ?_);refine ag 0 hS (h:=ag 1 hS (h:=ag 2 hS (h:=ag 3 hS (h:=ag 5 hS (h:=ag 6 hS (h:=ag 7 hS (h:= ?_)))))));refine wpAnyH_take (i:=8) (v:= .agg (lb.map B8).toArray) rfl ak ak ak (λ_ _ _ h=>h) (yieldsIf_load_mid (by rfl) 277 (.tmp 47) rfl g 8 rfl (lb.map B8) _ (λw h=>h) underlying277 rfl (by rw[Mo,cX,Vc])) hS ?_;refine en ?_;refine aO 4 (λK hK=> ?_);refine wp_load_mid 276 (.tmp 43) rfl g 0 rfl t.ws.agg.toList _ Mu.Gb underlying276 rfl tX ?_;refine en ?_;refine hK _ _ hS (λ_=> ?_);clear hK K;refine aO 9 (λK hK=> ?_);go_simp;refine(aiL _ hKK hKL).mono ?_;rintro e w3 ⟨rfl,bm⟩;have Li:=adA.Gc bm DJ;have hS3:=Li.xK;go_wp2_with fail;refine hK _ _ hS3 (λ_=> ?_);clear hK K;refine ag 10 hS3 (h:=ag 11 hS3 (h:= ?_));refine aO 12 (λK hK=> ?_);refine wp_store_mid 276 (.tmp 51) (.tmp 49) rfl g 0 (qo t.ws lb).agg rfl rfl Li.Vb tX (Bz _) ?_;simp only[Act.put];refine hK _ _ (Li.words _).xK (λ_=> ?_);clear hK K;refine wpAnyH_done ak ?_ _;have lq:aM [g] wr (w3.setCells g 0 (qo t.ws lb).agg.toList):=nS g ah _ _ _ ((U'.trans (uh (show aq w2 w3 from(lu bm))) ah));have Vd:=Li.words (qo t.ws lb);go_wp2_with fail;go_roundw;case rel=>
      refine⟨k+ch.length,some ⟨bb,off+ch.length,none⟩,av HL.out,?_,?_,?_,?_,?_⟩;·have:=HL.out;have:=I0.out;rw[show l.length-(k+ch.length)=L-ch.length by omega,show c-(k+ch.length)=ck-ch.length by omega]
      ·rw[<-AK,HD.out];have h:=(TM.only lq (λa e=>by injection e with e;subst e;simpa using hbg)).cutFrom (k:=ch.length) aa (show D.length<=ck by have:=HL.out;have:=I0.out;omega);rw[au sX]at h;simpa only[Option.map_some,Addr.add_mid]using h
      ·intro _ a e;injection e with e;subst e;exact hbg
      ·rw[HQ.out];exact Vd
      ·exact dm.trans lq ah
     case measure=>simp[lenOf];omega
   ·have n7:((o:Int)+(ch.length:Int)==64)=false:=(by simp;omega);have hq:=xL.out;rw[HO.out,au Pv]at hq;have HQ:Hid (s.fI (l.take (k+ch.length))=⟨t.ws,lay t.aE o ch,t.n+ch.length⟩):=ae (by rw[HT.out ch.length (av HL.out),aiK,hq]);have hBn:=(TM.aU U'.size (λp hp aV=>by
     have DG:bb=p.block:=(by simpa using hp);show World.cell? _ _=_;unfold World.cell?;rw[U'.block p.block aV aH])).cutFrom (k:=ch.length) aa (show D.length<=ck by have:=HL.out;have:=I0.out;omega)
    clear hq Hl TM hcell;by_cases sX:ck=ch.length
    ·rw[ax sX]at hBn;go_wp2_with (refine wpList_copy_own rfl (.tmp 21) (.tmp 22) 22 22 rfl 5 underlying22 Pu g (8+o) (64-o) (64-o) ⟨bb,off,none⟩ L ck rfl rfl t.cells.toArray 279 cZ (ch.map B8) FA iO bY (nM ch) ?_;rw[Mt.out];generalize wr.setRow g cs1.toArray=w1 at*)
     go_roundw;case rel=>
      refine⟨k+ch.length,some ⟨bb,off,none⟩,av HL.out,?_,?_,?_,?_,?_⟩;·have:=HL.out;have:=I0.out;rw[show l.length-(k+ch.length)=L-ch.length by omega,show c-(k+ch.length)=ck-ch.length by omega,show ck-ch.length=0 by omega]
      ·rw[<-AK,HD.out];exact hBn
      ·intro _ a e;injection e with e;subst e;exact hbg
      ·rw[HQ.out];exact Mu
      ·exact dm.trans U' ah
     case measure=>simp[lenOf];omega
    ·rw[au sX]at hBn;simp only[Option.map_some,Addr.add_mid]at hBn;go_wp2_with (refine wpList_copy_own rfl (.tmp 21) (.tmp 22) 22 22 rfl 5 underlying22 Pu g (8+o) (64-o) (64-o) ⟨bb,off,none⟩ L ck rfl rfl t.cells.toArray 279 cZ (ch.map B8) FA iO bY (nM ch) ?_;rw[Mt.out];generalize wr.setRow g cs1.toArray=w1 at*)
     go_roundw;case rel=>
      refine⟨k+ch.length,some ⟨bb,off+ch.length,none⟩,av HL.out,?_,?_,?_,?_,?_⟩;·have:=HL.out;have:=I0.out;rw[show l.length-(k+ch.length)=L-ch.length by omega,show c-(k+ch.length)=ck-ch.length by omega]
      ·rw[<-AK,HD.out];exact hBn
      ·intro _ a e;injection e with e;subst e;exact hbg
      ·rw[HQ.out];exact Mu
      ·exact dm.trans U' ah
     case measure=>simp[lenOf];omega
  ·obtain rfl:k=l.length:=(by omega);have da:s.fI (l.take l.length)=s.fI l:=(by rw[List.take_length]);rw[da]at hHk;go_wp2_with fail;go_end0;exact⟨rfl,hHk,dm⟩
def Eo(x:BitVec 32):List UInt8:=[UInt8.ofNat (x.toNat/16777216%256),UInt8.ofNat (x.toNat/65536%256),UInt8.ofNat (x.toNat/256%256),UInt8.ofNat (x.toNat%256)]
theorem ui(n:Nat):((UInt8.ofNat (n%256)).toNat:Nat)=n%256:=by have:n%256<256:=aa;simp[Nat.mod_eq_of_lt this]
def zx(L:List Value)(o:Nat)(vs:List Value):List Value:=L.take o++(vs++L.drop (o+vs.length))
theorem Z'(R t:List Value)(a x:Value)(o:Nat)(h:R.length=o):(R++a::t).set o x=R++x::t:=by subst h;simp
theorem api(L:List Value)(o:Nat)(a b c d:Value)(h:o+4<=L.length):((((L.set o a).set (o+1) b).set (o+2) c).set (o+3) d)=zx L o [a,b,c,d]:=by
 have hl:(L.drop o).length=L.length-o:=fZ ..;obtain⟨x0,x1,x2,x3,t,e⟩: ∃x0 x1 x2 x3 t,L.drop o=x0::x1::x2::x3::t:=by
  match hd:L.drop o with
  | x0::x1::x2::x3::t=>exact⟨x0,x1,x2,x3,t,rfl⟩
  | []=>rw[hd]at hl;simp at hl;omega
  | [_]=>rw[hd]at hl;simp at hl;omega
  | [_,_]=>rw[hd]at hl;simp at hl;omega
  | [_,_,_]=>rw[hd]at hl;simp at hl;omega
 have hL:L=L.take o++x0::x1::x2::x3::t:=by rw[<-e,OQ]
 have ht:(L.take o).length=o:=tY;have bu:L.drop (o+4)=t:=by rw[<-AK,e];rfl
 unfold zx;rw[show o+[a,b,c,d].length=o+4 from rfl,bu];generalize L.take o=R at*;subst hL;subst ht;simp
theorem I7(L vs:List Value)(o:Nat)(h:o+vs.length<=L.length):(zx L o vs).length=L.length:=by unfold zx;simp;omega
theorem rm(g off n c:Nat)(x:BitVec 32)(L:List Value)(t:TypeId)(w:Lo)(hg:w.heap[g]? =some (.cells L.toArray t (0,0)))(h4:off+4<=L.length)(hn:4<=n):
  Calls prog 201 #[.slice (some ⟨g,off,none⟩) n c,.int .u32 x.toNat] w λe w'=>e= .returned (.tuple #[])/\w'.heap[g]? =some (.cells (zx L off ((Eo x).map B8)).toArray t (0,0))/\aM [g] w w':=by
 have hx:=x.isLt;have hc: ∀j,j<L.length-> ∃v,w.cell? ⟨g,j,none⟩=some v:=λj hj=>⟨_,by rw[aC _ _ _ _ _ _ hg,List.getElem?_toArray,dS hj]⟩
 have hf: ∀j,w.frozen? ⟨g,j,none⟩=false:=λj=>by simp[World.frozen?,hg]
 obtain⟨y0,h0⟩:=hc off aa;obtain⟨y1,h1⟩:=hc (off+1) aa;obtain⟨y2,h2⟩:=hc (off+2) aa;obtain⟨y3,h3⟩:=hc (off+3) aa;have f0:=hf off;have f1:=hf (off+1);have f2:=hf (off+2);have f3:=hf (off+3);have hbe:Eo x=[UInt8.ofNat (x.toNat/16777216%256),UInt8.ofNat (x.toNat/65536%256),UInt8.ofNat (x.toNat/256%256),UInt8.ofNat (x.toNat%256)]:=rfl;have e0:(x.toNat:Int)/16777216%256=((UInt8.ofNat (x.toNat/16777216%256)).toNat:Int):=by rw[ui (x.toNat/16777216)];omega
 have e0':(x.toNat:Int)/16777216=((UInt8.ofNat (x.toNat/16777216%256)).toNat:Int):=by rw[ui (x.toNat/16777216)];omega
 have e1:(x.toNat:Int)/65536%256=((UInt8.ofNat (x.toNat/65536%256)).toNat:Int):=by rw[ui (x.toNat/65536)];omega
 have e2:(x.toNat:Int)/256%256=((UInt8.ofNat (x.toNat/256%256)).toNat:Int):=by rw[ui (x.toNat/256)];omega
 have e3:(x.toNat:Int)%256=((UInt8.ofNat (x.toNat%256)).toNat:Int):=by rw[ui x.toNat];omega
 generalize UInt8.ofNat (x.toNat/16777216%256)=b0 at*;generalize UInt8.ofNat (x.toNat/65536%256)=b1 at*;generalize UInt8.ofNat (x.toNat/256%256)=b2 at*;generalize UInt8.ofNat (x.toNat%256)=b3 at*;have q0:=heap_set hg off (B8 b0);have q1:=heap_set q0 (off+1) (B8 b1);have q2:=heap_set q1 (off+2) (B8 b2);have q3:=heap_set q2 (off+3) (B8 b3);rw[api L off _ _ _ _ h4]at q3;have HQ:=ae q3
 have dm:aM [g] w ((((w.setCell ⟨g,off,none⟩ (B8 b0)).setCell ⟨g,off+1,none⟩ (B8 b1)).setCell ⟨g,off+2,none⟩ (B8 b2)).setCell ⟨g,off+3,none⟩ (B8 b3)):=
  ((((aM.refl [g] w).setCell ah _).setCell ah _).setCell ah _).setCell ah _
 rw[hbe];clear hbe hc hf hg q0 q1 q2 q3;go_enter func201,ntmps201;go_wp2_with fail;go_end0;exact⟨rfl,HQ.out,dm⟩
def eu(n:Nat):Nat:=(119-n%64)%64
def padding(n:Nat):List UInt8:=128::(List.replicate (eu n) 0++(Eo (BitVec.ofNat 32 (8*n/4294967296))++Eo (BitVec.ofNat 32 (8*n))))
theorem uj(n:Nat):eu n<64:=by unfold eu;omega
theorem jv(x:BitVec 32):(Eo x).length=4:=rfl
theorem mz(n:Nat):(padding n).length=9+eu n:=by unfold padding;simp[jv];omega
theorem vE{base:Nat}{xs:List Value}(h:w.ownsRow base t 1 (.slice (some ⟨g,0,none⟩) n n) n xs):w.heap[g]? =some (.cells xs.toArray t (0,0)):=by
 obtain⟨hl,⟨h,_⟩|⟨g',cap,cur,e,_,hg,_,_,dF,ht⟩⟩:=h;·cases h
 ·injection e with e1 _ e3;injection e1 with e1;injection e1 with e1;subst e1;subst e3;rw[Nat.mul_one]at hl dF ht;have:cur.toList=xs:=by rw[<-ht,mZ aH]
  rw[hg,<-this]
theorem Ve(n:Nat):(madeCells (Value.int .u8 0).cells (n*1)).toList=List.replicate n (Value.int .u8 0):=by rw[Nat.mul_one,show(Value.int .u8 0).cells= #[Value.int .u8 0]from rfl,toList_madeCells_one]
theorem Vf(z:Nat)(x y:BitVec 32):zx (zx ((List.replicate (1+z+8) (Value.int .u8 0)).set 0 (.int .u8 128)) (1+z) ((Eo x).map B8)) (1+z+4) ((Eo y).map B8)=(128::(List.replicate z 0++(Eo x++Eo y)):An).map B8:=by
 have e:(List.replicate (1+z+8) (Value.int .u8 0)).set 0 (.int .u8 128)=(.int .u8 128:Value)::(List.replicate z (.int .u8 0)++List.replicate 8 (.int .u8 0)):=by rw[show 1+z+8=(z+8)+1 by omega,List.replicate_succ,List.set_cons_zero,<-List.replicate_append_replicate]
 rw[e];have h1:zx ((.int .u8 128:Value)::(List.replicate z (.int .u8 0)++List.replicate 8 (.int .u8 0))) (1+z) ((Eo x).map B8)=(.int .u8 128:Value)::(List.replicate z (.int .u8 0)++((Eo x).map B8++List.replicate 4 (.int .u8 0))):=by unfold zx;rw[cX,jv,show 1+z=z+1 by omega,show z+1+4=(z+4)+1 by omega,List.take_succ_cons,List.drop_succ_cons,List.take_append_of_le_length ah,List.drop_append];simp[List.take_of_length_le]
 rw[h1];unfold zx;rw[cX,jv,show 1+z+4=(z+4)+1 by omega,show z+4+1+4=(z+8)+1 by omega,List.take_succ_cons,List.drop_succ_cons,List.take_append,List.drop_append];simp[jv,List.drop_eq_nil_of_le,List.take_of_length_le]
theorem QM(h:w.heap[g]? =some (.cells (List.replicate n (Value.int .u8 0)).toArray t (0,0)))(hn:0<n):w.cell? ⟨g,0,none⟩=some (.int .u8 0):=by rw[aC _ _ _ _ _ _ h,List.getElem?_toArray,List.getElem?_replicate,ax hn]
theorem yy{C:Array Value}(h:w.heap[g]? =some (.cells C t (0,0)))(j:Nat):w.frozen? ⟨g,j,none⟩=false:=by simp[World.frozen?,h]
theorem jw{o:Obj}(h:w.heap[g]? =some o):g<w.heap.size:=by
 rcases dN g w.heap.size with h'|h';·exact h'
 ·rw[lI h']at h;cases h
theorem a_(g:Nat)(s:St)(w:Lo)(hH:dH w g s)(hg:g<w.heap.size)(hK: ∀i,i<64->w.cell? ⟨2,i,none⟩=some (aJ (Kc i)))(h1:2<g)(hn:s.n<=100000000):
  Calls prog 200 #[.pointer (some ⟨g,0,none⟩)] w λe w'=>e= .returned (.tuple #[])/\dH w' g (s.fI (padding s.n))/\aM [g] w w':=by
 obtain⟨i,hi,qw,kC,me⟩:=info_parts tz;have aiJ:=(hH.cellAt 72).trans (s.Mr hH.len);have hz:(119-(s.n:Int)%64)%64=((eu s.n:Nat):Int):=by unfold eu;omega
 have hzl:=uj s.n;have xe:=mz s.n;have Ge:Hid (padding s.n=128::(List.replicate (eu s.n) 0++(Eo (BitVec.ofNat 32 (8*s.n/4294967296))++Eo (BitVec.ofNat 32 (8*s.n))))):=ae rfl;have uX:((BitVec.ofNat 32 (8*s.n/4294967296)).toNat:Int)=(s.n:Int)*8/4294967296:=FB;have ks:((BitVec.ofNat 32 (8*s.n)).toNat:Int)=(s.n:Int)*8:=FB;generalize BitVec.ofNat 32 (8*s.n/4294967296)=x0 at*;generalize BitVec.ofNat 32 (8*s.n)=x1 at*;generalize eu s.n=z at*;have LN:=ae uX;have HX1:=ae ks;have HK:=ae hK;have HZ:=ae hz;have hnn:(s.n:Int)<=100000000:=aa;have b_:0<=(s.n:Int):=aa;have Zd:i.bytes*(1+z+8)<=281474976710656:=qL;have vu:1+z+8<=maxLen:=iJ;clear uX ks hK hn;go_enter func200,ntmps200;go_wp2_with (refine wpList_make_full _ rfl _ _ 22 rfl w.heap.size 5 i (.int .u8 0) 1 underlying22 hi qw kC _ _ _ _ (1+z+8) rfl rfl aa aa Zd vu (aF _) ?_;intro w1 eh lN;rw[Ve]at eh;have TN:=vE eh;have c0:=QM TN aa;have f0:=yy TN 0)
 have aI:aq w w1:=am (aP _ _) lN (aF _) ah;have hh2:=heap_set TN 0 (.int .u8 128);have aK:=aI.setCell (p:=⟨w.heap.size,0,none⟩) (aF _) (.int .u8 128);have qx:w.heap.size<(w1.setCell ⟨w.heap.size,0,none⟩ (.int .u8 128)).heap.size:=jw hh2;clear TN c0 f0 eh lN aI;generalize w1.setCell ⟨w.heap.size,0,none⟩ (.int .u8 128)=w2 at*;rw[<-LN.out];refine(rm _ _ _ _ x0 _ _ w2 hh2 ah aa).mono ?_;rintro e w3 ⟨rfl,hh3,dU⟩;go_wp2_with fail;rw[<-HX1.out];refine(rm _ _ _ _ x1 _ _ w3 hh3 (by rw[I7 _ _ _ (by simp[jv])];simp) aa).mono ?_;rintro e w4 ⟨rfl,hh4,bM⟩;rw[Vf,<-Ge.out]at hh4;have bm:=aK.trans (dU.below aa ah);have bc:=bm.trans (bM.below bm.size ah);have Vd:=hH.Gc bc hg;have lx:Bytes w4 (some ⟨w.heap.size,0,none⟩) (padding s.n):=by refine .inr ⟨_,_,rfl,jw hh4,λk hk=> ?_⟩;rw[aC _ _ _ _ _ _ hh4,Nat.zero_add,List.getElem?_toArray,List.getElem?_map,dS hk];rfl
 have e9:1+z+8=(padding s.n).length:=aa;have HWR:=ae (En g s _ (padding s.n) (padding s.n).length w4 Vd lx (λ_ a e=>by injection e with e;subst e;simp;omega) (db hg bc.size) (λi hi=>(bc.cell (p:=⟨2,i,none⟩) (by show 2<w.heap.size;omega)).trans (HK i hi)) h1 (aF _) aa aa);have lq:aM [g] w w4:=⟨bc.os,bc.tape,bc.output,bc.size,λi hi _=>bc.block i hi⟩
 have E9:=ae e9;clear e9 hh3 hh4 dU bM bm hh2 aK aiJ xe Ge lx Vd;go_wp2_with fail;rw[E9.out];refine HWR.mono ?_;rintro e w5 ⟨rfl,hH5,gU⟩;go_wp2_with fail;go_end0;exact⟨rfl,hH5,lq.trans gU ah⟩
def dP:R8:=⟨1779033703,3144134277,1013904242,2773480762,1359893119,2600822924,528734635,1541459225⟩
def St.new:St:=⟨dP,List.replicate 64 0,0⟩
def vF:Array Value:=(List.replicate 8 (Value.int .u32 0)++(List.replicate 64 (Value.int .u8 0)++[Value.int .u64 0])).toArray
theorem abR:(prog.info? 279).map (λi=>(i.zero,i.size))=some (some (.agg vF),73):=ak
theorem BB:vF.size=73:=by simp[vF]
theorem QN:((((((((vF.setIfInBounds 0 (aJ dP.a)).setIfInBounds 1 (aJ dP.b)).setIfInBounds 2 (aJ dP.c)).setIfInBounds 3 (aJ dP.d)).setIfInBounds 4 (aJ dP.e)).setIfInBounds 5 (aJ dP.f)).setIfInBounds 6 (aJ dP.g)).setIfInBounds 7 (aJ dP.h))=St.new.cells.toArray:=by simp[vF,St.cells,St.new,B8,List.replicate]
theorem QO(tt:TypeId)(fr:Nat×Nat)(w:Lo)(hf:w.heap[1]? =some (.cells dP.agg tt fr)):
  Calls prog 156 #[] w λe w'=>e= .returned (.pointer (some ⟨w.heap.size,0,none⟩))/\dH w' w.heap.size St.new/\Below w.heap.size w w':=by
 have hz:=(zero_of_info abR).1;have Ze:=BB;have HNC:=ae QN;generalize vF=Z at*;go_enter func156,ntmps156;go_wp2_with (refine wpList_load_row rfl 276 _ rfl 1 rfl tt dP.agg _ _ hf underlying276 rfl tX ?_)
 rw[HNC.out];go_ret;exact⟨rfl,⟨bz _ _,by simp[St.new]⟩,bq _ _⟩
def ik(r:R8):Nat->List UInt8
 | 0=>[]
 | k+1=>ik r k++Eo (r.get k)
theorem jX(r:R8)(k:Nat):(ik r k).length=4*k:=by
 induction k with
 | zero=>rfl
 | succ k ih=>simp only[ik,aG,ih,jv];omega
def St.gN(s:St):List UInt8:=ik (s.fI (padding s.n)).ws 8
theorem nT(s:St):s.gN.length=32:=jX _ 8
def bI:Array Value:=(List.replicate 32 (Value.int .u8 0)).toArray
theorem BC:(prog.info? 148).map (λi=>(i.zero,i.size))=some (some (.agg bI),32):=ak
theorem sG:(prog.info? 148).map (·.size)=some 32:=ak
theorem Vg:(prog.info? 279).map (·.size)=some 73:=ak
theorem aiM(g o:Nat)(h:o<32)(w:Lo):(Instr.sliceAt 148 (.pointer (some ⟨g,0,none⟩)) (some (.int .i64 o)) none none).run prog w= .ok (.slice (some ⟨g,o,none⟩) (32-o) (32-o)) w:=by have ha:prog.arrayLen 148=32:=ak;have hu:prog.underlying 148=some (.array (prog.arrayLen 148) (prog.elem 148)):=ak;have hs:(sizeOf (prog.elem 148)).run prog w= .ok 1 w:=ak;rw[run_sliceAt_array_l w 148 ⟨g,0,none⟩ hu .i64 o aa (by rw[ha];omega),hs,ha];simp only[Result.andThen,slicedAt,Int.toNat_natCast,Nat.mul_one];rw[au aa,Addr.add_mid,Nat.zero_add]
theorem Vh(r:R8)(k:Nat)(hk:k<8):zx ((ik r k).map B8++List.replicate (32-4*k) (Value.int .u8 0)) (4*k) ((Eo (r.get k)).map B8)=(ik r (k+1)).map B8++List.replicate (32-4*(k+1)) (Value.int .u8 0):=by
 have hl:=jX r k;obtain⟨m,hm⟩: ∃m,32-4*k=4+m:=⟨28-4*k,aa⟩
 unfold zx;rw[cX,jv,List.take_append_of_le_length (by simp[hl]),mZ (by simp[hl]),List.drop_append,hm];simp only[ik,iI,eY,cX,hl];rw[pT (by simp[hl]),show 4*k+4-4*k=4 by omega,show 32-4*(k+1)=m by omega];simp
theorem vG(g:Nat)(s:St)(w:Lo)(hH:dH w g s)(hg:g<w.heap.size)(hK: ∀i,i<64->w.cell? ⟨2,i,none⟩=some (aJ (Kc i)))(h1:2<g)(hn:s.n<=100000000):
  Calls prog 158 #[.pointer (some ⟨g,0,none⟩)] w λe w'=>e= .returned (.agg (s.gN.map B8).toArray)/\Below w.heap.size w w':=by
 have aiN:=(zero_of_info BC).1;have hzH:=(zero_of_info abR).1;have sF:=bq w (.cells bI 148);have eA:(w.alloc (.cells bI 148)).heap.size=w.heap.size+1:=ah;have hcs:(w.alloc (.cells bI 148)).heap[g]? =some (.cells s.cells.toArray 279 (0,0)):=(sF.block g hg).trans hH.at_;have jC:=bz (w.alloc (.cells bI 148)) (.cells vF 279);rw[eA]at jC;have Li:dH ((w.alloc (.cells bI 148)).alloc (.cells s.cells.toArray 279)) (w.heap.size+1) s:=by have h:=bz (w.alloc (.cells bI 148)) (.cells s.cells.toArray 279);rw[eA]at h;exact⟨h,hH.len⟩
 have xM:((w.alloc (.cells bI 148)).alloc (.cells s.cells.toArray 279)).heap[w.heap.size]? =some (.cells bI 148 (0,0)):=
  ((bq _ _).block _ (by rw[eA];omega)).trans (bz _ _)
 have bm:Below w.heap.size w ((w.alloc (.cells bI 148)).alloc (.cells s.cells.toArray 279)):=sF.trans ((bq _ _).mono sF.size);have Hv:((w.alloc (.cells bI 148)).alloc (.cells s.cells.toArray 279)).heap.size=w.heap.size+1+1:=ah;have Mv:=World.setRow_alloc_new (w.alloc (.cells bI 148)) vF s.cells.toArray 279;rw[eA]at Mv;have d_:=ae Mv;have f_:=s.pn hH.len;have mS:s.cells.toArray.all (·.oneCell')=true:=all_oneCell_toArray s.one;have Mw:=ae (fun(w':Lo) (h:dH w' (w.heap.size+1) s) h2 h3=>a_ (w.heap.size+1) s w' h h2 h3 aa hn);have HK:=ae hK;clear Mv sF eA hK hn hH;go_enter func158,ntmps158;go_wp2_with (first|(refine wpList_load_row rfl 279 _ rfl g rfl 279 s.cells.toArray _ _ hcs underlying279 rfl (by rw[Vg];simp[f_]) ?_)|(refine wpList_store_row rfl 279 _ _ rfl (w.heap.size+1) s.cells.toArray rfl rfl 279 vF jC (by rw[Vg];simp[f_]) (by rw[BB];simp[f_]) mS ?_;rw[d_.out]))
 have hKW: ∀i,i<64->((w.alloc (.cells bI 148)).alloc (.cells s.cells.toArray 279)).cell? ⟨2,i,none⟩=some (aJ (Kc i)):=λi hi=>(bm.cell (p:=⟨2,i,none⟩) (by show 2<w.heap.size;omega)).trans (HK i hi);have HKW:=ae hKW;have Hm:=ae Hv;have HN:Hid (s.fI (padding s.n)=s.fI (padding s.n)):=ae rfl;generalize(w.alloc (.cells bI 148)).alloc (.cells s.cells.toArray 279)=w3 at*;clear Hv hcs jC d_ hKW mS f_;refine(Mw w3 Li (av Hm.out) HKW.out).mono ?_;rintro e w4 ⟨rfl,Vd,bM⟩;have QP:w4.heap[w.heap.size]? =some (.cells bI 148 (0,0)):=(bM.block _ (av Hm.out) ah).trans xM;have bc:Below w.heap.size w w4:=bm.trans (bM.below bm.size ah);have Ik:=jw Vd.at_;have HD:Hid (s.gN=ik (s.fI (padding s.n)).ws 8):=ae rfl;generalize hP:s.fI (padding s.n)=P at*;clear hP Mw HKW xM bm bM HN;have hR0:=Vd.Gb;have e0:(w4.alloc (.cells bI 148)).heap.size=w4.heap.size+1:=ah;have lr:(w4.alloc (.cells bI 148)).rangeAt (w.heap.size+1) 0 P.ws.agg.toList:=(Vd.Gc (bq _ _) Ik).Gb;have Zf:(w4.alloc (.cells bI 148)).heap[w.heap.size]? =some (.cells bI 148 (0,0)):=((bq _ _).block _ aa).trans QP;have hh5:(w4.alloc (.cells bI 148)).heap[w4.heap.size]? =some (.cells bI 148 (0,0)):=bz _ _;have eS:Below w.heap.size w (w4.alloc (.cells bI 148)):=bc.trans ((bq _ _).mono bc.size);have fJ:=ae bc.size;clear e0 bc QP hR0;go_wp2_with (refine wpList_load_mid rfl 276 _ rfl (w.heap.size+1) 0 rfl P.ws.agg.toList _ lr underlying276 rfl tX ?_)
 generalize w4.alloc (.cells bI 148)=w5 at*;go_loopw [17] (λv wr=> ∃k:Nat,k<=8/\v= .int .i64 k/\wr.heap[w4.heap.size]? =some (.cells ((ik P.ws k).map B8++List.replicate (32-4*k) (Value.int .u8 0)).toArray 148 (0,0))/\wr.heap[w.heap.size]? =some (.cells bI 148 (0,0))/\Below w.heap.size w wr) (λv _=>(8-intOf v).toNat);·exact⟨0,aa,rfl,by simpa [ik,bI]using hh5,Zf,eS⟩
 ·
  obtain⟨k,hk,rfl,hd,hr,hb⟩:=hrel;clear hh5 Zf eS lr Vd Li;by_cases aV:k<8
  ·have Al: ∀w,(Instr.index 276 (.agg P.ws.agg) (.int .i64 k)).run prog w= .ok (aJ (P.ws.get k)) w:=λw=>f9 P.ws k aV w;have hlen:((ik P.ws k).map B8++List.replicate (32-4*k) (Value.int .u8 0)).length=32:=(by simp[jX];omega);have hcut: ∀w,(Instr.sliceAt 148 (.pointer (some ⟨w4.heap.size,0,none⟩)) (some (.int .i64 (4*(k:Int)))) none none).run prog w= .ok (.slice (some ⟨w4.heap.size,4*k,none⟩) (32-4*k) (32-4*k)) w:=λw=>aiM w4.heap.size (4*k) aa w;have ia:=ae (Vh P.ws k aV);have Hw:=ae (λwx hx=>rm w4.heap.size (4*k) (32-4*k) (32-4*k) (P.ws.get k) _ 148 wx hx (by rw[hlen];omega) aa);clear hlen;go_wp2_with fail;refine(Hw wr hd).mono ?_;rintro e w6 ⟨rfl,hd6,lf⟩;rw[ia.out]at hd6;have T9:=(lf.block _ (jw hr) (by have:=fJ.out;simp;omega)).trans hr;have oq:=hb.trans (lf.below hb.size (by simp;exact fJ.out));clear Hw hd lf;go_wp2_with fail;go_roundw;case rel=>exact⟨k+1,aa,aA,hd6,T9,oq⟩
   case measure=>simp[intOf];omega
  ·obtain rfl:k=8:=(by omega);have hD8:((ik P.ws 8).map B8++List.replicate (32-4*8) (Value.int .u8 0))=(ik P.ws 8).map B8:=ah;rw[hD8]at hd;have I8:((ik P.ws 8).map B8).length=32:=(by rw[cX,jX]);have mS:((ik P.ws 8).map B8).toArray.all (·.oneCell')=true:=all_oneCell_toArray (nM _);have hDD:s.gN.map B8=(ik P.ws 8).map B8:=(by rw[HD.out]);have Pw:=ae hDD;clear hDD;generalize(ik P.ws 8).map B8=D8 at*;clear hD8;go_wp2_with (first|(refine wpList_load_row rfl 148 _ rfl w4.heap.size rfl 148 D8.toArray _ _ hd underlying148 rfl ?c1 ?_)|(refine wpList_store_row rfl 148 _ _ rfl w.heap.size D8.toArray rfl rfl 148 bI hr ?c2 ?c3 ?c4 ?_))
   case c1=>rw[sG];simp[I8]
   case c2=>rw[sG];simp[I8]
   case c3=>simp[I8,bI]
   case c4=>exact mS
   refine bA (results_cell_row rfl _ _ w.heap.size 148 D8.toArray _ _ rfl (setRow_heap _ _ _ _ _ _ hr) underlying148 rfl (by rw[sG];simp[I8])) rfl ?_;exact⟨by rw[Pw.out],below_setRow hb aa _⟩
theorem Bytes.aE{A:As}{l:An}(h:Bytes w A l)(hl:0<l.length)(a:Addr)(e:A=some a):a.block<w.heap.size:=by obtain⟨b,off,rfl,hb,_⟩:=h.addr hl;injection e with e;subst e;exact hb
structure jx(w:Lo):Prop where
 first: ∃tt fr,w.heap[1]? =some (.cells dP.agg tt fr)
 round: ∀i,i<64->w.cell? ⟨2,i,none⟩=some (aJ (Kc i))
 two:2<w.heap.size
theorem jx.only(h:jx w)(ho:aM X w w')(hX: ∀i∈X,2<i):jx w':=by
 refine⟨?_,λi hi=> ?_,db h.two ho.size⟩;·obtain⟨tt,fr,hf⟩:=h.first;exact⟨tt,fr,(ho.block 1 (av h.two) (λhm=>av (hX 1 hm))).trans hf⟩
 ·rw[<-h.round i hi];unfold World.cell?;rw[ho.block 2 h.two (λhm=>av (hX 2 hm))]
theorem jx.below(h:jx w)(hb:Below w.heap.size w w'):jx w':=h.only (uh hb) ah
theorem QQ(A:As)(l:An)(c:Nat)(w:Lo)(hT:jx w)(hB:Bytes w A l)(hc:l.length<=c)(hm:c<=9223372036854775807)(hn:l.length<=100000000):
  Calls prog 117 #[.slice A l.length c] w λe w'=>e= .returned (.agg ((St.new.fI l).gN.map B8).toArray)/\Below w.heap.size w w':=by
 obtain⟨tt,fr,hf⟩:=hT.first;have aiN:=(zero_of_info BC).1;have HT:=ae hT;have sF:=bq w (.cells bI 148);have eA:(w.alloc (.cells bI 148)).heap.size=w.heap.size+1:=ah;have qj:(w.alloc (.cells bI 148)).heap[w.heap.size]? =some (.cells bI 148 (0,0)):=bz _ _;have h2:=hT.two;have ZJ:(w.alloc (.cells bI 148)).heap[1]? =some (.cells dP.agg tt fr):=(sF.block 1 aa).trans hf;have i9:=hB.below sF;have aiO:=hB.aE;have HR1:=ae qj;have HF1:=ae ZJ;have DK:=ae sF;have g_:=ae eA;clear hT sF eA qj ZJ hf hB;have Qu:Hid (jx (w.alloc (.cells bI 148))):=ae (HT.below DK.out);go_enter func117,ntmps117;go_wp2_with fail;generalize w.alloc (.cells bI 148)=w1 at*;refine(QO tt fr w1 HF1.out).mono ?_;rintro e w2 ⟨rfl,Mu,aK⟩;have ua:=Qu.below aK;have nR:w2.heap[w.heap.size]? =some (.cells bI 148 (0,0)):=(aK.block _ (by rw[g_.out];omega)).trans HR1.out;have fE:Below w.heap.size w w2:=DK.trans (aK.mono (by rw[g_.out];omega));have aV:=jw Mu.at_;have fq:=i9.below aK;have HWR:=ae (En w1.heap.size St.new A l c w2 Mu fq (λh a e=>by have:=aiO h a e;have:=g_.out;omega) aV ua.round (av g_.out) hc hm (by show 0+l.length<=_;omega));have Zg:Hid (w.heap.size<w2.heap.size):=ae (av g_.out);have qy:=ae nR;have nK:=ae ua;have zm:=ae aV;clear Mu aK nR fq i9 aiO ua aV;go_wp2_with fail;refine HWR.mono ?_;rintro e w3 ⟨rfl,Li,dU⟩;have hT3:=nK.only dU (by simp;have:=g_.out;omega);have xM:=(dU.block _ Zg.out (by simp;have:=g_.out;omega)).trans qy.out;have bm:Below w.heap.size w w3:=fE.trans (dU.below (Nat.le_of_lt Zg.out) (by simp;have:=g_.out;omega));have Hv:=dU.size;have HS:=ae (vG w1.heap.size (St.new.fI l) w3 Li (jw Li.at_) hT3.round (av g_.out) (by rw[St.Ga];show 0+l.length<=_;omega));have Lj:=ae xM;have HL3:Hid (w.heap.size<w3.heap.size):=ae (av Zg.out);clear Li dU xM fE;go_wp2_with fail;refine HS.mono ?_;rintro e w4 ⟨rfl,bc⟩;have QP:=(bc.block _ HL3.out).trans Lj.out;have I8:((St.new.fI l).gN.map B8).length=32:=by rw[cX,nT]
 have mS:((St.new.fI l).gN.map B8).toArray.all (·.oneCell')=true:=all_oneCell_toArray (nM _);have eS:Below w.heap.size w w4:=bm.trans (bc.mono (Nat.le_of_lt HL3.out));generalize hD:(St.new.fI l).gN.map B8=D8 at*;have HD:=ae hD;clear hD bm bc Hv;go_wp2_with (refine wpList_store_row rfl 148 _ _ rfl w.heap.size D8.toArray rfl rfl 148 bI QP ?c2 ?c3 ?c4 ?_)
 case c2=>rw[sG];simp[I8]
 case c3=>simp[I8,bI]
 case c4=>exact mS
 refine bA (results_cell_row rfl _ _ w.heap.size 148 D8.toArray _ _ rfl (setRow_heap _ _ _ _ _ _ QP) underlying148 rfl (by rw[sG];simp[I8])) rfl ?_;exact⟨by rw[HD.out],below_setRow eS aa _⟩
section
open Go.ChangeShapes Go.WideShapes Go.ChangeAt Go.RowKit
theorem tH{H:Type}{enc:TypeId×Value->H}{W:Lo}{base:Nat}{sp:Nat->Bool}{held:Bool}{fuel:Nat}{t e:TypeId}{cs:List Value}{k:IntKind}{n:Nat}{ls:List Int}{ps:List MemPlace}
  (ht:prog.underlying t=some (.array n e)) (he:prog.underlying e=some (.int k)) (ce:prog.cellsOf e=1) (ct:prog.cellsOf t=n)
  (h:DataW.trod enc prog W base sp held fuel t cs=some (.agg (ls.map λx=> .lit (.int k x)),ps)):cs=ls.map λx=> .int k x:=by
 obtain⟨xs,m,rfl,hx,hlen,hn,hel⟩:=DataW.trod_array ht h;rw[ct]at hlen;simp only[Prod.mk.injEq,DataW.agg.injEq]at hx;have xa:ls.length=n:=by have:=aR List.length hx.1;simpa [hn]using this
 refine List.ext_getElem (by simp[hlen,xa]) λi h1 h2=> ?_;have hi:=hel i aa;rw[ce,Nat.mul_one,dS aa]at hi;obtain⟨z,e1,e2,_⟩:=DataW.trod_int he hi;have h3:xs[i].1= .lit (.int k ls[i]):=by have:=aR (λl:List (DataW H)=>l[i]?) hx.1;simp only[List.getElem?_map]at this;rw[dS (show i<ls.length by omega),dS (show i<xs.length by omega)]at this;simpa using this.symm
 rw[e2]at h3;have hz:z=ls[i]:=by simpa using h3
 have h4:(cs.drop i).take 1=[cs[i]]:=by rw[List.drop_eq_getElem_cons h1];rfl
 rw[h4]at e1;rw[List.getElem_map,<-hz];simpa using e1
theorem adE:prog.globalNamed "winepress/sha256.firstWords" =some 1:=ak
theorem adF:prog.globalNamed "winepress/sha256.roundWords" =some 2:=ak
theorem adG:(prog.globals[1]?).map (·.type)=some 276:=ak
theorem adH:(prog.globals[2]?).map (·.type)=some 305:=ak
abbrev I9:List (String×DataW Unit):=[("winepress/sha256.firstWords",Rows.laid_winepress_sha256_firstWords),("winepress/sha256.roundWords",Rows.laid_winepress_sha256_roundWords)]
def Vi:List Int:=[1779033703,3144134277,1013904242,2773480762,1359893119,2600822924,528734635,1541459225]
theorem lens:dP.agg.toList=Vi.map λx=> .int .u32 x:=by rfl
theorem aiS:Rows.laid_winepress_sha256_firstWords (H:=Unit)= .agg (Vi.map λx=> .lit (.int .u32 x)):=by rfl
def Mx:List Int:=Bx.map λx=>(x.toNat:Int)
theorem aiT:Rows.laid_winepress_sha256_roundWords (H:=Unit)= .agg (Mx.map λx=> .lit (.int .u32 x)):=by rfl
theorem Gf{W:Lo}(h:laidMet prog I9 W):jx W:=by
 obtain⟨ps,⟨g0,t0,cs0,f0,p0,q0,zy,ht0,Lk,hd0,⟨g1,t1,cs1,f1,p1,q1,lN,ht1,Ja,Dl,_,_⟩,_⟩,_,_⟩:=h;obtain rfl:=Option.some.inj (adE.symm.trans zy);obtain rfl:=Option.some.inj (adF.symm.trans lN);obtain rfl:=Option.some.inj (adG.symm.trans ht0);obtain rfl:=Option.some.inj (adH.symm.trans ht1);rw[aiS]at hd0;rw[aiT]at Dl;have xz:=tH (n:=8) ak underlying24 ak ak hd0;have dE:=tH (n:=64) ak underlying24 ak ak Dl;refine⟨?_,λi hi=> ?_,?_⟩
 ·unfold World.var? at Lk;rw[zy]at Lk;simp only[Option.bind_some]at Lk;split at Lk;·rename_i cs t fr hh;refine⟨t,fr,?_⟩;rw[hh];injection Lk with Lk;subst Lk;rw[<-lens]at xz;rw[show cs=dP.agg from Array.toList_inj.1 xz]
  ·cases Lk
 ·rw[World.var?_cell lN Ja i];obtain⟨l⟩:=cs1;simp only at dE;subst dE;unfold Mx;have hk:i<Bx.length:=hi;simp only[List.getElem?_toArray,List.getElem?_map,dS hk,Option.map_some];unfold Kc;rw[qD,dS hk];rfl
 ·unfold World.var? at Ja;rw[lN]at Ja;simp only[Option.bind_some]at Ja;split at Ja;·rename_i hh;exact jw hh
  ·cases Ja
noncomputable def Ep(os:Os):World:=
 let w0:=World.holding prog os ⟨#[],#[],[]⟩
 let lay (l:List Int):Obj->Obj
  | .cells _ t frozen=> .cells (l.map λx=> .int .u32 x).toArray t frozen
  | o=>o
 {w0 with heap:=(w0.heap.modify 1 (lay Vi)).modify 2 (lay Mx)}
theorem DL(os:Os)(args:Array Value):laidMet prog I9 ((Ep os).forCall (λ_ _=>0) ⟨#[],args,[]⟩).memory:=
 laidMet_of_run' 8 ak ak
end
def bV(w:Lo)(L:An)(e:Ending)(w':Lo):Prop:= ∃A c,e= .returned (.slice A L.length c)/\L.length<=c/\c<=9223372036854775807/\Bytes w' A L/\Below w.heap.size w w'
def T5(i:Nat):Nat:=if i<8 then 256^(7-i)else 0
theorem aaw(i:Nat)(h:i<8):T5 i/256=T5 (i+1):=by
 match i,h with
 | 0,_|1,_|2,_|3,_|4,_|5,_|6,_|7,_=>rfl
theorem aax(i:Nat)(h:i<8):0<T5 i/\T5 i<=72057594037927936:=by
 match i,h with
 | 0,_|1,_|2,_|3,_|4,_|5,_|6,_|7,_=>decide
def T6(M:Nat):List UInt8:=(List.range 8).map λi=>UInt8.ofNat (M/T5 i%256)
theorem Xp(M i:Nat)(h:i<8):(T6 M).take (i+1)=(T6 M).take i++[UInt8.ofNat (M/T5 i%256)]:=by rw[lE (by simpa [T6]using h)];simp[T6]
theorem aeW(M:Nat):T6 M=Eo (BitVec.ofNat 32 (M/4294967296))++Eo (BitVec.ofNat 32 M):=by
 have key: ∀a b:Nat,a%256=b%256->UInt8.ofNat a=UInt8.ofNat b:=λa b h=>by apply UInt8.toNat_inj.1;simp[UInt8.toNat_ofNat'];exact h
 have e:T6 M=[UInt8.ofNat (M/72057594037927936%256),UInt8.ofNat (M/281474976710656%256),UInt8.ofNat (M/1099511627776%256),UInt8.ofNat (M/4294967296%256),UInt8.ofNat (M/16777216%256),UInt8.ofNat (M/65536%256),UInt8.ofNat (M/256%256),UInt8.ofNat (M/1%256)]:=rfl;rw[e];unfold Eo;simp only[lG,List.cons_append,fL];simp only[List.cons.injEq,and_true];refine⟨key _ _ ?_,key _ _ ?_,key _ _ ?_,key _ _ ?_,key _ _ ?_,key _ _ ?_,key _ _ ?_,key _ _ ?_⟩<;>omega
theorem Nx(n:Nat):padding n=128::(List.replicate (eu n) 0++T6 (8*n)):=by unfold padding;rw[aeW]
def qa(l:An)(z:Nat):List UInt8:=l++[128]++List.replicate z 0
theorem wz(l:An)(z:Nat):(qa l z).length=l.length+1+z:=by simp[qa];omega
theorem Ny(l:An)(z:Nat):qa l (z+1)=qa l z++[0]:=by simp[qa,List.replicate_succ']
theorem Si(l:An):qa l (eu l.length)++(T6 (8*l.length)).take 8=l++padding l.length:=by rw[Nx,mZ (by simp[T6])];simp[qa]
theorem Nz(A:As)(l:An)(c:Nat)(w:Lo)(hB:Bytes w A l)(hn:l.length<=100000000):
  Calls prog 134 #[.slice A l.length c] w (bV w (l++padding l.length)):=by
 have HE:=ae (Si l);have HZ:=ae (uj l.length);have fV:=bq w (.cells #[] 5);have Kk:Own w.heap.size (w.alloc (.cells #[] 5)) (.slice (some ⟨w.heap.size,0,none⟩) 0 0) []:=Own.lit (base:=w.heap.size) w [] (aF _) ah;have PV:=hB.below fV;have HN:=ae hn;have NA:([]:An).length+l.length<=140737488355328:=aH;have qV:(l.length:Int)<=100000000:=aa;clear hn hB;go_enter func134,ntmps134
 go_wp2_with (first
  | (refine aj rfl _ _ rfl w.heap.size _ (.slice (some ⟨w.heap.size,0,none⟩) 0 0) [] rfl Kk A l c rfl PV NA fV.size ?_;intro v1 w1 eh lN;have aI:=am fV lN fV.size (λg e=>(jO Kk g e).1);rw[fL]at eh;have cG:=eh.alloc (.cells #[.int .u8 128] 5);have fq:Bytes (w1.alloc (.cells #[.int .u8 128] 5)) (some ⟨w1.heap.size,0,none⟩) [128]:=Bytes.one w1 128;have aK:=aI.alloc aI.size (.cells #[.int .u8 128] 5);clear eh)
  | (refine aj rfl _ _ rfl w.heap.size _ v1 l rfl cG _ [128] 1 rfl fq (by have:=HN.out;simp;omega) aK.size ?_;intro v2 w2 bJ kg;have bm:=am aK kg aK.size (λg e=>(jO cG g e).1)))
 go_loopw [3] (λv wr=> ∃z:Nat,z<=eu l.length/\Own w.heap.size wr v (qa l z)/\Below w.heap.size w wr) (λv _=>eu l.length+l.length+1-(match v with|.slice _ n _=>n|_=>0));·exact⟨0,aa,by simpa [qa]using bJ,bm⟩
 ·
  obtain⟨z,hz,aL,hb⟩:=hrel;clear bJ kg bm fq cG aK lN aI Kk fV PV;obtain⟨Az,cz,rfl,hcz,hmz,hBz⟩:=aL.read;have hlen:=wz l z;rw[hlen]at hcz aL ⊢;have hzi:(z:Int)<=(eu l.length:Int):=aa;have hNN:=HN.out;have rk:((l.length+1+z:Nat):Int)%64=56↔z=eu l.length:=by unfold eu at hz ⊢;omega
  have adt:=HZ.out;by_cases aV:z<eu l.length
  ·have fj:((l.length+1+z:Nat):Int)%64≠56:=λh=>av (rk.1 h);have HS:=ae (Ny l z);have xo:=ae hlen;have cG:=aL.alloc (.cells #[.int .u8 0] 5);have fq:Bytes (wr.alloc (.cells #[.int .u8 0] 5)) (some ⟨wr.heap.size,0,none⟩) [0]:=Bytes.one wr 0;have aK:=hb.alloc hb.size (.cells #[.int .u8 0] 5);have dF:(qa l z).length+[(0:UInt8)].length<=140737488355328:=(by rw[hlen];simp;omega);have⟨m,hm⟩:=ex (l.length+1+z);rw[hm]at fj aL cG hcz ⊢;have HM:=ae hm;have tF:(m:Int)<=100000100:=aa;have ajh:((m:Int)%64==56)=false:=(by simpa using fj);clear rk hlen fj hm adt hNN;generalize qa l z=L at*;go_wp2_with (refine aj rfl _ _ rfl w.heap.size _ (.slice Az m cz) L rfl cG _ [0] 1 rfl fq dF aK.size ?_;intro v2 w2 bJ kg;rw[<-HS.out]at bJ;have bm:=am aK kg aK.size (λg e=>(jO cG g e).1))
   obtain⟨A3,c3,rfl,_,_,_⟩:=bJ.read;have tJ:=wz l (z+1);go_roundw;case rel=>exact⟨z+1,aa,bJ,bm⟩
   case measure=>have:=HM.out;simp[tJ];omega
  ·obtain rfl:z=eu l.length:=(by omega);have heq:=rk.2 rfl;clear rk;have⟨m,hm⟩:=ex (l.length+1+eu l.length);rw[hm]at heq aL hcz hlen ⊢;have HM:=ae hm;have xo:=ae hlen;have tF:(m:Int)<=100000100:=aa;clear hlen hm;have HEO:=HE.out;generalize qa l (eu l.length)=L at*;generalize l++padding l.length=LL at*;have HEE:=ae HEO;clear HEO HE;have LP:=ae (λi h=>Xp (8*l.length) i h);have hM:8*(l.length:Int)=((8*l.length:Nat):Int):=aa;have hMb:8*l.length<=800000000:=aa;have HBL:Hid ((T6 (8*l.length)).length=8):=ae (by simp[T6]);generalize 8*l.length=M at*;generalize T6 M=E at*;go_wp2_with fail;clear heq;go_loopw [3,5,6] (λv p i wx=> ∃k:Nat,k<=8/\i= .int .i64 k/\p= .int .u64 (T5 k:Nat)/\Own w.heap.size wx v (L++E.take k)/\Below w.heap.size w wx) (λ_ _ i _=>(8-intOf i).toNat);·exact⟨0,aa,rfl,rfl,by simpa using aL,hb⟩
   ·
    obtain⟨k,hk,rfl,rfl,Xq,nk⟩:=hrel;by_cases hk8:k<8
    ·obtain⟨p0,p1⟩:=aax k hk8;have VY:=aaw k hk8;obtain⟨p2,t8⟩: ∃p,T5 (k+1)=p:=⟨_,rfl⟩
     rw[t8]at VY;have TZ:=ae t8;have HS:=ae (LP k hk8);obtain⟨B,hB⟩: ∃b,UInt8.ofNat (M/T5 k%256)=b:=⟨_,rfl⟩
     rw[hB]at HS;have hBn:(M:Int)/(T5 k:Int)%256=(B.toNat:Int):=(by rw[<-hB,fN];rw[<-Int.natCast_ediv];omega);have Kg:=Nat.div_le_self M (T5 k);clear t8 hB;generalize T5 k=p at*;have Jt:(M:Int)/(p:Int)=((M/p:Nat):Int):=(Int.natCast_ediv M p).symm;generalize M/p=q at*;have hp0:0<(p:Int):=aa;have hpm:(p:Int)<=72057594037927936:=aa;have hq:(q:Int)<=800000000:=aa;have akK:(p:Int)/256=(p2:Int):=aa;rw[Jt]at hBn;have az5:IntKind.u8.wrap ((q:Int)%256)=(B.toNat:Int):=(by rw[IntKind.wrap_u8,hBn];have:=B.toNat_lt;omega);have cG:=Xq.alloc (.cells #[B8 B] 5);have fq:Bytes (wr.alloc (.cells #[B8 B] 5)) (some ⟨wr.heap.size,0,none⟩) [B]:=Bytes.one wr B;have aK:=nk.alloc nk.size (.cells #[B8 B] 5);have dF:(L++E.take k).length+[B].length<=140737488355328:=(by rw[aG,xo.out,eZ];simp;omega);have Mw:=ae akK;clear VY akK;go_wp2_with (refine aj rfl _ _ rfl w.heap.size _ u3 _ rfl cG _ [B] 1 rfl fq dF aK.size ?_;intro v2 w2 bJ kg;rw[eY,<-HS.out]at bJ;have bm:=am aK kg aK.size (λg e=>(jO cG g e).1))
     go_roundw;case rel=>exact⟨k+1,aa,aA,by rw[TZ.out,<-Mw.out],bJ,bm⟩
     case measure=>simp[intOf];omega
    ·obtain rfl:k=8:=(by omega);rw[HEE.out]at Xq;obtain⟨Aw,cw,rfl,hcw,hmw,hBw⟩:=Xq.read;go_wp2;go_ret;exact⟨Aw,cw,rfl,hcw,hmw,hBw,nk⟩
def gG(v:Nat):Nat->List UInt8
 | 0=>[]
 | n+1=>UInt8.ofNat (v%256)::gG (v/256) n
theorem fw(n:Nat): ∀v,(gG v n).length=n:=by
 induction n with
 | zero=>intro v;rfl
 | succ n ih=>intro v;simp[gG,ih]
theorem Xr(n:Nat): ∀(v i:Nat) (h:i<(gG v n).length),(gG v n)[i]=UInt8.ofNat (v/2^(8*i)%256):=by
 induction n with
 | zero=>intro v i h;simp[gG]at h
 | succ n ih=>
  intro v i h;cases i with
  | zero=>simp[gG]
  | succ i=>
   simp only[gG,List.getElem_cons_succ];rw[ih (v/256) i (by simpa [gG]using h),kW,show 8*(i+1)=8*i+8 by omega,Nat.pow_add,dR]
def GO:List UInt8->Nat
 | []=>0
 | b::l=>b.toNat+256*GO l
def eM(w:Lo)(L:An)(e:Ending)(w':Lo):Prop:= ∃v,e= .returned v/\Own w.heap.size w' v L/\Below w.heap.size w w'
theorem eM.bytes{e:Ending}(h:eM w L e w'):bV w L e w':=by obtain⟨v,rfl,ho,hb⟩:=h;obtain⟨A,c,rfl,h1,h2,h3⟩:=ho.read;exact⟨A,c,rfl,h1,h2,h3,hb⟩
theorem Xs{k:Nat}(h:w.heap[g]? =some (.cells ((L.take k).map B8++List.replicate (n-k) (Value.int .u8 0)).toArray 5 (0,0)))(hL:L.length=n)(hk:k<n):
  (w.setCell ⟨g,k,none⟩ (B8 (L[k]'aa))).heap[g]? =some (.cells ((L.take (k+1)).map B8++List.replicate (n-(k+1)) (Value.int .u8 0)).toArray 5 (0,0)):=by
 rw[heap_set h k];congr 3;have hl:((L.take k).map B8).length=k:=by rw[cX,eZ];omega
 obtain⟨m,hm⟩: ∃m,n-k=m+1:=⟨n-k-1,aa⟩
 rw[hm,List.replicate_succ,show n-(k+1)=m by omega,lE aa,iI,eY];have:=Z' ((L.take k).map B8) (List.replicate m (Value.int .u8 0)) (.int .u8 0) (B8 (L[k]'aa)) k hl;rw[this];rfl
theorem mJ(v n:Nat)(hv:v<18446744073709551616)(hn:n<=8)(w:Lo):
  Calls prog 47 #[.int .u64 v,.int .i64 n] w (eM w (gG v n)):=by
 obtain⟨i,hi,qw,kC,me⟩:=info_parts tz;have Zd:i.bytes*n<=281474976710656:=qL;have vu:n<=maxLen:=iJ;have HG:=ae (Xr n v);have HL:=ae (fw n v);generalize hLL:gG v n=L at*;clear hLL;have qV:(n:Int)<=8:=aa;have Lk:0<=(v:Int):=aa;have Ja:(v:Int)<18446744073709551616:=aa;go_enter func47,ntmps47;go_wp2_with (refine wpList_make_full _ rfl _ _ 22 rfl w.heap.size 5 i (.int .u8 0) 1 underlying22 hi qw kC _ _ _ _ n rfl rfl aa aa Zd vu (aF _) ?_;intro w1 eh lN;rw[Ve]at eh;have TN:=vE eh)
 have aI:aq w w1:=am (aP _ _) lN (aF _) ah;go_loopw [11] (λa wr=> ∃k:Nat,k<=n/\a= .int .i64 k/\wr.heap[w.heap.size]? =some (.cells ((L.take k).map B8++List.replicate (n-k) (Value.int .u8 0)).toArray 5 (0,0))/\aq w wr) (λa _=>(n-intOf a).toNat);·exact⟨0,aa,rfl,by simpa using TN,aI⟩
 ·
  clear TN eh lN aI;obtain⟨k,hk,rfl,hh,hb⟩:=hrel;by_cases aV:k<n
  ·have iU:=Xs hh HL.out aV;have Ir:=HG.out k (by rw[HL.out];exact aV);rw[Ir]at iU;have⟨b,hbv⟩:=ex (UInt8.ofNat (v/2^(8*k)%256));rw[hbv]at iU;have hx:(v:Int)/2^(8*k)%256=(b.toNat:Int):=(by rw[<-hbv,fN];have e:((2:Int)^(8*k))=((2^(8*k):Nat):Int):=(by rw[Int.natCast_pow];rfl);rw[e,<-Int.natCast_ediv];generalize v/2^(8*k)=q;omega);have hc:wr.cell? ⟨w.heap.size,k,none⟩=some (.int .u8 0):=(by rw[aC _ _ _ _ _ _ hh,List.getElem?_toArray,lH aH];simp only[cX,eZ];rw[Nat.min_eq_left (by rw[HL.out];omega),lJ,List.getElem?_replicate,ax aa]);have hf:=yy hh k;have aK:=hb.setCell (p:=⟨w.heap.size,k,none⟩) (aF _) (B8 b);have ia:=ae iU;have xO:(k:Int)<n:=aa;have ht:(8*(k:Int)).toNat=8*k:=aa;have h64:8*(k:Int)<=64:=aa;have az7:0<=8*(k:Int):=aa;clear iU Ir hbv hh;go_wp2_with fail;go_roundw;case rel=>exact⟨k+1,aa,aA,ia.out,aK⟩
   case measure=>simp[intOf];omega
  ·obtain rfl:k=n:=(by omega);have Pv:(L.take k).map B8++List.replicate (k-k) (Value.int .u8 0)=L.map B8:=(by rw[mZ (by rw[HL.out];exact aF _)];simp);rw[Pv]at hh;go_wp2;go_ret;refine⟨_,rfl,⟨?_,.inr ⟨w.heap.size,k,(L.map B8).toArray,?_,aF _,hh,?_,vu,?_,?_⟩⟩,hb⟩;·simp
   ·rw[HL.out];rfl
   ·rw[HL.out];exact aF _
   ·simp[HL.out]
   ·rw[mZ ah]
theorem GP(n:Nat): ∀(v:Nat) (w:Lo),v<18446744073709551616->n<=8->Calls prog 62 #[.int .u64 v,.int .i64 n] w (eM w (gG v n)):=by
 induction n with
 | zero=>
  intro v w _ _;go_enter func62,ntmps62;go_wp2;go_ret;exact⟨_,rfl,Own.nil _ _,aP _ _⟩
 | succ n ih=>
  intro v w hv hn;have qV:((n+1:Nat):Int)<=8:=aa;have hnz:(((n+1:Nat):Int)==0)=false:=aH;have⟨b,hb⟩:=ex (UInt8.ofNat (v%256));obtain⟨v2,U8⟩: ∃x,v/256=x:=⟨_,rfl⟩
  have hbv:(v:Int)%256=(b.toNat:Int):=by rw[<-hb,fN];omega
  have hvv:(v:Int)/256=(v2:Int):=aa;have fc:((n+1:Nat):Int)-1=(n:Int):=aa;have HL:Hid (gG v (n+1)=[b]++gG v2 n):=ae (by rw[<-hb,<-U8];rfl);have vk:=ae (fw n v2);have HIH:=ae (λw=>ih v2 w aa aa);have Kk:Own w.heap.size (w.alloc (.cells #[B8 b] 5)) (.slice (some ⟨w.heap.size,0,none⟩) 1 1) [b]:=Own.lit (base:=w.heap.size) w [b] (aF _) ah;have fV:=bq w (.cells #[B8 b] 5);have Lk:0<=(v:Int):=aa;have Ja:(v:Int)<18446744073709551616:=aa;generalize hN:((n+1:Nat):Int)=N at*;clear hN hb U8 ih;go_enter func62,ntmps62;go_wp2_with fail;refine(HIH _).mono ?_;rintro e w1 ⟨v1,rfl,kE,aI⟩;obtain⟨A1,c1,rfl,dE,az8,i9⟩:=kE.read;have eh:=Kk.below aI;have fE:=aQ fV aI;have dF:[b].length+(gG v2 n).length<=140737488355328:=by rw[vk.out];simp;omega
  go_wp2_with (refine aj rfl _ _ rfl w.heap.size _ (.slice (some ⟨w.heap.size,0,none⟩) 1 1) [b] rfl eh A1 (gG v2 n) c1 rfl i9 dF fE.size ?_;intro v' w2 cG gB)
  go_ret;exact⟨_,rfl,by rw[HL.out];exact cG,am fE gB fE.size (λg e=>(jO eh g e).1)⟩
def yb(k x:Nat):Nat:=x/2^k+x%2^k*2^(32-k)
theorem Sj(x:Nat):yb 0 x=x:=by simp[yb,Nat.mod_one]
theorem aay(k x:Nat)(hk:k<32)(hx:x<4294967296):yb k x<4294967296:=by
 unfold yb;have e:2^k*2^(32-k)=4294967296:=by rw[<-Nat.pow_add,show k+(32-k)=32 by omega]
 have hP:0<2^k:=Nat.pow_pos aa;have h1:x/2^k<2^(32-k):=by rw[Nat.div_lt_iff_lt_mul hP,dR,e];exact hx
 have h2:x%2^k<2^k:=Nat.mod_lt _ hP;generalize 2^k=P at*;generalize 2^(32-k)=Q at*;have h3:(x%P+1)*Q<=P*Q:=qF Q h2;rw[Nat.add_mul,e]at h3;omega
theorem Sk(k x:Nat)(hk:k<31):yb k x/2+yb k x%2*2147483648=yb (k+1) x:=by
 unfold yb;have e:2^k*2^(32-(k+1))=2147483648:=by rw[<-Nat.pow_add,show k+(32-(k+1))=31 by omega]
 have eQ:2^(32-k)=2*2^(32-(k+1)):=by rw[show 32-k=(32-(k+1))+1 by omega,cS];omega
 rw[eQ,cS];have hP:0<2^k:=Nat.pow_pos aa;generalize 2^k=P at*;generalize 2^(32-(k+1))=Q at*;have h1:x/(P*2)=x/P/2:=by rw[kW]
 have h2:x%(P*2)=x%P+P*(x/P%2):=Nat.mod_mul;rw[h1,h2];generalize x/P=d at*;generalize x%P=c at*;have h3:(d+c*(2*Q))/2=d/2+c*Q:=by rw[show c*(2*Q)=2*(c*Q) by rw[Nat.mul_left_comm]];omega
 have h4:(d+c*(2*Q))%2=d%2:=by rw[show c*(2*Q)=2*(c*Q) by rw[Nat.mul_left_comm]];omega
 rw[h3,h4,Nat.add_mul,<-e];have h5:P*(d%2)*Q=d%2*(P*Q):=by rw[dR P,qG]
 rw[h5];omega
theorem Sl(n:Nat)(hn:n<32)(x:BitVec 32):(lg n x).toNat=yb n x.toNat:=by
 have hx:=x.isLt;unfold lg yb;rw[BitVec.toNat_or,BitVec.toNat_shiftLeft,BitVec.toNat_ushiftRight,Nat.shiftLeft_eq,qC];have e:2^n*2^(32-n)=2^32:=by rw[<-Nat.pow_add,show n+(32-n)=32 by omega]
 have hP:0<2^n:=Nat.pow_pos aa;have h1:x.toNat/2^n<2^(32-n):=by rw[Nat.div_lt_iff_lt_mul hP,dR,e];exact hx
 have h2:x.toNat*2^(32-n)%2^32=x.toNat%2^n*2^(32-n):=by rw[<-e,Nat.mul_mod_mul_right]
 rw[h2,mv _ _ (32-n) h1];omega
theorem kU(n:Nat)(hn:n<32)(x:BitVec 32)(w:Lo):Calls prog 136 #[.int .u32 x.toNat,.int .i64 n] w λe w'=>e= .returned (.int .u32 (lg n x).toNat)/\w=w':=by
 have hx:=x.isLt;have HN:=ae (Sl n hn x);have HZ:=ae (Sj x.toNat);have HB:=ae (λk hk=>aay k x.toNat hk hx);have HS:=ae (λk hk=>Sk k x.toNat hk);go_enter func136,ntmps136;go_wp2_with fail;go_loop [0,5] (λv i=> ∃k:Nat,k<=n/\i= .int .i64 k/\v= .int .u32 (yb k x.toNat:Nat)) (λ_ i=>n-(intOf i).toNat);·exact⟨0,aa,rfl,by rw[HZ.out]⟩
 ·
  obtain⟨k,hk,rfl,rfl⟩:=hrel;by_cases aV:k<n
  ·have hb:=HB.out k aa;have hs:=HS.out k aa;obtain⟨r2,nR⟩: ∃r,yb (k+1) x.toNat=r:=⟨_,rfl⟩
   rw[nR]at hs;have qy:=ae nR;have xO:(k:Int)<n:=aa;generalize yb k x.toNat=r at*;have hri:(r:Int)<4294967296:=aa;have Lh:0<=(r:Int):=aa;have Jb:(r:Int)/2+(r:Int)%2*2147483648=(r2:Int):=aa;have HSI:=ae Jb;clear hs nR Jb;go_wp2_with fail;go_round;case rel=>exact⟨k+1,aa,aA,by rw[qy.out,<-HSI.out]⟩
   case measure=>simp[intOf];omega
  ·obtain rfl:k=n:=(by omega);go_wp2;go_ret;exact⟨qM,rfl⟩
end Go.Proofs.YtfcaoggfnkhfiaaGreatDoor
