import Derived.Deep.RegionHeld3
import Derived.Test.YtgfpocdiojifoaaGreatDoorZ02
namespace Go.Proofs.YtgfpocdiojifoaaGreatDoor
set_option maxRecDepth 100000
set_option maxHeartbeats 8000000
open Go.RowKit Go.Proofs.Tryz
variable{cs:Array Value}
theorem mu(a b:BitVec 32):bits .xor .u32 (a.toNat:Int) (b.toNat:Int)=((a ^^^ b).toNat:Int):=by rw[u32_xor_nat _ _ a.isLt b.isLt,BitVec.toNat_xor]
theorem yV(a b:BitVec 32):bits .and .u32 (a.toNat:Int) (b.toNat:Int)=((a &&& b).toNat:Int):=by rw[u32_and_nat _ _ a.isLt b.isLt,BitVec.toNat_and]
theorem aiS(a b:BitVec 32):bits .or .u32 (a.toNat:Int) (b.toNat:Int)=((a ||| b).toNat:Int):=by rw[u32_or_nat _ _ a.isLt b.isLt,BitVec.toNat_or]
theorem fQ(a b:BitVec 32):IntKind.u32.wrap ((a.toNat:Int)+(b.toNat:Int))=((a+b).toNat:Int):=by rw[IntKind.wrap_u32,BitVec.toNat_add];omega
def jn(n:Nat)(x:BitVec 32):BitVec 32:=(x <<< (32-n)) ||| (x >>> n)
theorem iX(n:Nat)(x:BitVec 32):bits .or .u32 ((x.toNat:Int)*((2^(32-n):Nat):Int)%4294967296) ((x.toNat:Int)/((2^n:Nat):Int))=((jn n x).toNat:Int):=by
 have h1:(x.toNat:Int)*((2^(32-n):Nat):Int)%4294967296=((x <<< (32-n)).toNat:Int):=by rw[BitVec.toNat_shiftLeft,Nat.shiftLeft_eq];show _=((x.toNat*2^(32-n)%4294967296:Nat):Int);rw[Int.natCast_emod,Int.natCast_mul];rfl
 have h2:(x.toNat:Int)/((2^n:Nat):Int)=((x >>> n).toNat:Int):=by rw[BitVec.toNat_ushiftRight,Nat.shiftRight_eq_div_pow,Int.natCast_ediv]
 rw[h1,h2,aiS];rfl
theorem Uy(x:BitVec 32)(w:World):Calls prog 209 #[.int .u32 x.toNat,.int .i64 2] w fun e w'=>e= .returned (.int .u32 (jn 2 x).toNat)∧w=w':=by have hx:=x.isLt;have e1:bits .and .u64 (IntKind.u64.wrap (-2)) 31=30:=an;have hr:=iX 2 x;simp only[Nat.reducePow,Nat.reduceSub,Int.cast_ofNat_Int]at hr;go_enter func209,ntmps209;go_wp2;go_ret;exact⟨rfl,rfl⟩
theorem Uz(x:BitVec 32)(w:World):Calls prog 209 #[.int .u32 x.toNat,.int .i64 6] w fun e w'=>e= .returned (.int .u32 (jn 6 x).toNat)∧w=w':=by have hx:=x.isLt;have e1:bits .and .u64 (IntKind.u64.wrap (-6)) 31=26:=an;have hr:=iX 6 x;simp only[Nat.reducePow,Nat.reduceSub,Int.cast_ofNat_Int]at hr;go_enter func209,ntmps209;go_wp2;go_ret;exact⟨rfl,rfl⟩
theorem UA(x:BitVec 32)(w:World):Calls prog 209 #[.int .u32 x.toNat,.int .i64 7] w fun e w'=>e= .returned (.int .u32 (jn 7 x).toNat)∧w=w':=by have hx:=x.isLt;have e1:bits .and .u64 (IntKind.u64.wrap (-7)) 31=25:=an;have hr:=iX 7 x;simp only[Nat.reducePow,Nat.reduceSub,Int.cast_ofNat_Int]at hr;go_enter func209,ntmps209;go_wp2;go_ret;exact⟨rfl,rfl⟩
theorem Pa(x:BitVec 32)(w:World):Calls prog 209 #[.int .u32 x.toNat,.int .i64 11] w fun e w'=>e= .returned (.int .u32 (jn 11 x).toNat)∧w=w':=by have hx:=x.isLt;have e1:bits .and .u64 (IntKind.u64.wrap (-11)) 31=21:=an;have hr:=iX 11 x;simp only[Nat.reducePow,Nat.reduceSub,Int.cast_ofNat_Int]at hr;go_enter func209,ntmps209;go_wp2;go_ret;exact⟨rfl,rfl⟩
theorem Pb(x:BitVec 32)(w:World):Calls prog 209 #[.int .u32 x.toNat,.int .i64 13] w fun e w'=>e= .returned (.int .u32 (jn 13 x).toNat)∧w=w':=by have hx:=x.isLt;have e1:bits .and .u64 (IntKind.u64.wrap (-13)) 31=19:=an;have hr:=iX 13 x;simp only[Nat.reducePow,Nat.reduceSub,Int.cast_ofNat_Int]at hr;go_enter func209,ntmps209;go_wp2;go_ret;exact⟨rfl,rfl⟩
theorem Pc(x:BitVec 32)(w:World):Calls prog 209 #[.int .u32 x.toNat,.int .i64 17] w fun e w'=>e= .returned (.int .u32 (jn 17 x).toNat)∧w=w':=by have hx:=x.isLt;have e1:bits .and .u64 (IntKind.u64.wrap (-17)) 31=15:=an;have hr:=iX 17 x;simp only[Nat.reducePow,Nat.reduceSub,Int.cast_ofNat_Int]at hr;go_enter func209,ntmps209;go_wp2;go_ret;exact⟨rfl,rfl⟩
theorem Pd(x:BitVec 32)(w:World):Calls prog 209 #[.int .u32 x.toNat,.int .i64 18] w fun e w'=>e= .returned (.int .u32 (jn 18 x).toNat)∧w=w':=by have hx:=x.isLt;have e1:bits .and .u64 (IntKind.u64.wrap (-18)) 31=14:=an;have hr:=iX 18 x;simp only[Nat.reducePow,Nat.reduceSub,Int.cast_ofNat_Int]at hr;go_enter func209,ntmps209;go_wp2;go_ret;exact⟨rfl,rfl⟩
theorem Pe(x:BitVec 32)(w:World):Calls prog 209 #[.int .u32 x.toNat,.int .i64 19] w fun e w'=>e= .returned (.int .u32 (jn 19 x).toNat)∧w=w':=by have hx:=x.isLt;have e1:bits .and .u64 (IntKind.u64.wrap (-19)) 31=13:=an;have hr:=iX 19 x;simp only[Nat.reducePow,Nat.reduceSub,Int.cast_ofNat_Int]at hr;go_enter func209,ntmps209;go_wp2;go_ret;exact⟨rfl,rfl⟩
theorem Pf(x:BitVec 32)(w:World):Calls prog 209 #[.int .u32 x.toNat,.int .i64 22] w fun e w'=>e= .returned (.int .u32 (jn 22 x).toNat)∧w=w':=by have hx:=x.isLt;have e1:bits .and .u64 (IntKind.u64.wrap (-22)) 31=10:=an;have hr:=iX 22 x;simp only[Nat.reducePow,Nat.reduceSub,Int.cast_ofNat_Int]at hr;go_enter func209,ntmps209;go_wp2;go_ret;exact⟨rfl,rfl⟩
theorem Pg(x:BitVec 32)(w:World):Calls prog 209 #[.int .u32 x.toNat,.int .i64 25] w fun e w'=>e= .returned (.int .u32 (jn 25 x).toNat)∧w=w':=by have hx:=x.isLt;have e1:bits .and .u64 (IntKind.u64.wrap (-25)) 31=7:=an;have hr:=iX 25 x;simp only[Nat.reducePow,Nat.reduceSub,Int.cast_ofNat_Int]at hr;go_enter func209,ntmps209;go_wp2;go_ret;exact⟨rfl,rfl⟩
abbrev ay(x:BitVec 32):Value:= .int .u32 (x.toNat:Nat)
def be(a b c d:UInt8):BitVec 32:=BitVec.ofNat 32 (a.toNat*16777216+b.toNat*65536+c.toNat*256+d.toNat)
theorem Ph(a b c d:UInt8):(be a b c d).toNat=a.toNat*16777216+b.toNat*65536+c.toNat*256+d.toNat:=by have h1:=a.toNat_lt;have h2:=b.toNat_lt;have h3:=c.toNat_lt;have h4:=d.toNat_lt;unfold be;rw[BitVec.toNat_ofNat];omega
theorem rF(a b k:Nat)(ha:a<2^k):b*2^k ||| a=b*2^k+a:=by rw[←Nat.shiftLeft_eq,←Nat.shiftLeft_add_eq_or_of_lt ha]
theorem acL(a b c d:UInt8):
  bits .or .u32 (bits .or .u32 (bits .or .u32 (IntKind.u32.wrap (IntKind.u32.wrap (a.toNat:Int)*16777216)) (IntKind.u32.wrap (IntKind.u32.wrap (b.toNat:Int)*65536))) (IntKind.u32.wrap (IntKind.u32.wrap (c.toNat:Int)*256))) (IntKind.u32.wrap (d.toNat:Int))=((be a b c d).toNat:Int):=by
 have h1:=a.toNat_lt;have h2:=b.toNat_lt;have h3:=c.toNat_lt;have h4:=d.toNat_lt;rw[Ph];generalize a.toNat=a at*;generalize b.toNat=b at*;generalize c.toNat=c at*;generalize d.toNat=d at*;have w0: ∀x:Nat,x<256→IntKind.u32.wrap (x:Int)=(x:Int):=fun x hx=>l9;rw[w0 a aa,w0 b aa,w0 c aa,w0 d aa];have e1:IntKind.u32.wrap ((a:Int)*16777216)=((a*2^24:Nat):Int):=l9;have e2:IntKind.u32.wrap ((b:Int)*65536)=((b*2^16:Nat):Int):=l9;have e3:IntKind.u32.wrap ((c:Int)*256)=((c*2^8:Nat):Int):=l9;have o1:a*2^24 ||| b*2^16=(a*256+b)*2^16:=by rw[rF _ _ 24 aa];omega
 have o2:(a*256+b)*2^16 ||| c*2^8=(a*65536+b*256+c)*2^8:=by rw[rF _ _ 16 aa];omega
 have o3:(a*65536+b*256+c)*2^8 ||| d=(a*65536+b*256+c)*2^8+d:=rF _ _ 8 aa;rw[e1,e2,e3,u32_or_nat _ _ aa aa,o1,u32_or_nat _ _ aa aa,o2,u32_or_nat _ _ aa aa,o3];omega
def s0(x:BitVec 32):BitVec 32:=jn 7 x ^^^ jn 18 x ^^^ (x >>> 3)
def s1(x:BitVec 32):BitVec 32:=jn 17 x ^^^ jn 19 x ^^^ (x >>> 10)
def wE(ax:List UInt8)(i:Nat):BitVec 32:=be (ax.getD (4*i) 0) (ax.getD (4*i+1) 0) (ax.getD (4*i+2) 0) (ax.getD (4*i+3) 0)
def rG(ax:List UInt8)(l:List (BitVec 32))(n:Nat):BitVec 32:=if n<16 then wE ax n else l.getD (n-16) 0+s0 (l.getD (n-15) 0)+l.getD (n-7) 0+s1 (l.getD (n-2) 0)
def aS(ax:List UInt8):Nat→List (BitVec 32)
 | 0=>[]
 | n+1=>aS ax n++[rG ax (aS ax n) n]
theorem ik(ax:List UInt8)(n:Nat):(aS ax n).length=n:=by
 induction n with
 | zero=>rfl
 | succ n ih=>simp[aS,ih]
def j7(ax:List UInt8)(n i:Nat):Value:=ay ((aS ax n).getD i 0)
theorem zH(ax:List UInt8)(n:Nat): ∀i,(if i=n then ay (rG ax (aS ax n) n)else j7 ax n i)=j7 ax (n+1) i:=by
 intro i;have hl:=ik ax n;unfold j7;simp only[aS];by_cases h:i=n;·subst h;rw[if_pos rfl,List.getD_eq_getElem?_getD,List.getElem?_append_right aa,hl,Nat.sub_self];rfl
 ·rw[if_neg h,List.getD_eq_getElem?_getD,List.getD_eq_getElem?_getD];by_cases h2:i<n;·rw[List.getElem?_append_left aa]
  ·rw[List.getElem?_eq_none aa,List.getElem?_eq_none av]
def words(ax:List UInt8):Array Value:=((List.range 64).map fun i=>j7 ax 64 i).toArray
def dU:Array Value:=Array.replicate 64 (.int .u32 0)
theorem Xn:(prog.info? 277).map (fun i=>(i.zero,i.size))=some (some (.agg dU),64):=ak
theorem wF:(prog.info? 277).map (·.size)=some 64:=ak
theorem DU(ax:List UInt8)(w:World):(w.alloc (.cells dU 277)).rowIs w.heap.size 277 64 (j7 ax 0):=by
 have h:=World.rowIs_alloc w dU 277 (j7 ax 0) (fun i hi=>by
  unfold dU at hi ⊢;rw[Array.getElem?_replicate,if_pos jp];simp[j7,aS])
 have e:dU.size=64:=by simp[dU]
 rwa [e]at h
theorem Pi(ax:List UInt8)(hn:cs.size=64)(hv: ∀i,i<64→cs[i]? =some (j7 ax 64 i)):cs=words ax:=by
 apply Array.ext_getElem?;intro i;by_cases hi:i<64;·rw[hv i hi];unfold words;rw[List.getElem?_toArray,List.getElem?_map,List.getElem?_range hi];rfl
 ·rw[Array.getElem?_eq_none aa,Array.getElem?_eq_none (by simp[words];omega)]
theorem zI(ax:List UInt8):(words ax).all (·.oneCell')=true:=by unfold words;rw[List.all_toArray,List.all_map,List.all_eq_true];intro x _;rfl
theorem zJ(ax:List UInt8)(l:List (BitVec 32))(n:Nat)(h:16≤n):rG ax l n=l.getD (n-16) 0+s0 (l.getD (n-15) 0)+l.getD (n-7) 0+s1 (l.getD (n-2) 0):=by unfold rG;rw[if_neg aa]
theorem J1(x:BitVec 32)(n q:Nat)(hq:q=2^n):(x.toNat:Int)/(q:Int)=((x >>> n).toNat:Int):=by subst hq;rw[BitVec.toNat_ushiftRight,Nat.shiftRight_eq_div_pow,Int.natCast_ediv]
theorem Pj(x:BitVec 32):bits .xor .u32 (bits .xor .u32 ((jn 7 x).toNat:Int) ((jn 18 x).toNat:Int)) ((x.toNat:Int)/8)=((s0 x).toNat:Int):=by have h:(x.toNat:Int)/(8:Int)=((x >>> 3).toNat:Int):=J1 x 3 8 rfl;rw[h,mu,mu];rfl
theorem Pm(x:BitVec 32):bits .xor .u32 (bits .xor .u32 ((jn 17 x).toNat:Int) ((jn 19 x).toNat:Int)) ((x.toNat:Int)/1024)=((s1 x).toNat:Int):=by have h:(x.toNat:Int)/(1024:Int)=((x >>> 10).toNat:Int):=J1 x 10 1024 rfl;rw[h,mu,mu];rfl
theorem Zf(ax:List UInt8)(i:Nat)(h:i<ax.length):(ax.map B8).toArray[i]? =some (B8 (ax.getD i 0)):=by rw[List.getElem?_toArray,List.getElem?_map,List.getElem?_eq_getElem h];simp[List.getD,h]
theorem GK(ax:List UInt8)(nh:ax.length=64)(w:World):
  Calls prog 208 #[.agg (ax.map B8).toArray] w fun e w'=>e= .returned (.agg (words ax))∧Below w.heap.size w w':=by
 have hz:=(zero_of_info Xn).1;have hcell: ∀i,i<64→(ax.map B8).toArray[i]? =some (B8 (ax.getD i 0)):=fun i hi=>Zf ax i aa;have HC:=hdd hcell;clear hcell;have HW:=hdd (fun k (h:k<16)=>(show rG ax (aS ax k) k=be (ax.getD (4*k) 0) (ax.getD (4*k+1) 0) (ax.getD (4*k+2) 0) (ax.getD (4*k+3) 0) by unfold rG;rw[if_pos h];rfl));have pq:(ax.map B8).toArray.size=64:=by simpa using nh
 generalize fF:(ax.map B8).toArray=bl at*;have jS:=hdd pq;clear pq;have Xo:=hdd fF;clear fF;go_enter func208,ntmps208;go_wp2_with fail;have eA:(w.alloc (.cells bl 251)).heap.size=w.heap.size+1:=ae;have eB:((w.alloc (.cells bl 251)).alloc (.cells dU 277)).heap.size=w.heap.size+1+1:=ae;have rb0:(((w.alloc (.cells bl 251)).alloc (.cells dU 277)).alloc (.cells dU 277)).rowIs w.heap.size 251 64 (fun i=>B8 (ax.getD i 0)):=by have h:=World.rowIs_alloc w bl 251 (fun i=>B8 (ax.getD i 0)) (fun i hi=>HC.out i (by rw[←jS.out];exact hi));rw[jS.out]at h;exact(h.alloc _).alloc _
 have r00:(((w.alloc (.cells bl 251)).alloc (.cells dU 277)).alloc (.cells dU 277)).rowIs (w.heap.size+1) 277 64 (j7 ax 0):=by have h:=DU ax (w.alloc (.cells bl 251));rw[eA]at h;exact h.alloc _
 have r10:(((w.alloc (.cells bl 251)).alloc (.cells dU 277)).alloc (.cells dU 277)).rowIs (w.heap.size+1+1) 277 64 (j7 ax 0):=by have h:=DU ax ((w.alloc (.cells bl 251)).alloc (.cells dU 277));rw[eB]at h;exact h
 have eH:Below w.heap.size w (((w.alloc (.cells bl 251)).alloc (.cells dU 277)).alloc (.cells dU 277)):=((ap).alloc ae _).alloc av _;clear eA eB HC;generalize((w.alloc (.cells bl 251)).alloc (.cells dU 277)).alloc (.cells dU 277)=w1 at*;generalize iY:w.heap.size+1=g1 at*;generalize iV:g1+1=g2 at*;have wq:w.heap.size<g1:=aa;have qT:g1<g2:=aa;have aiT:g2≠w.heap.size:=aa;clear iY iV;go_loopw [10] (fun i wr=> ∃k:Nat,k≤16∧i= .int .i64 k∧wr.rowIs w.heap.size 251 64 (fun i=>B8 (ax.getD i 0))∧wr.rowIs g1 277 64 (j7 ax 0)∧wr.rowIs g2 277 64 (j7 ax k)∧Below w.heap.size w wr) (fun i _=>16-(intOf i).toNat);case atStart=>exact⟨0,aa,rfl,rb0,r00,r10,eH⟩
 case round=>
  clear rb0 r00 r10 eH;obtain⟨k,hk,rfl,rb,r0,r1,hb⟩:=hrel;by_cases aF:k<16
  ·have uB:wr.cell? ⟨w.heap.size,4*k,none⟩=some (B8 (ax.getD (4*k) 0)):=rb.cell aa;have fY:wr.cell? ⟨w.heap.size,4*k+1,none⟩=some (B8 (ax.getD (4*k+1) 0)):=rb.cell aa;have fS:wr.cell? ⟨w.heap.size,4*k+2,none⟩=some (B8 (ax.getD (4*k+2) 0)):=rb.cell aa;have lu:wr.cell? ⟨w.heap.size,4*k+3,none⟩=some (B8 (ax.getD (4*k+3) 0)):=rb.cell aa;have hn:=HW.out k aF;generalize ax.getD (4*k) 0=b0 at*;generalize ax.getD (4*k+1) 0=b1 at*;generalize ax.getD (4*k+2) 0=b2 at*;generalize ax.getD (4*k+3) 0=b3 at*;have hw:=r1.cell (i:=k) aa;have hf:=r1.frozen k;have wG:=hdd (acL b0 b1 b2 b3);generalize be b0 b1 b2 b3=v at*;have HN:=hdd hn;clear hn;have mv: ∀j,(wr.setCell ⟨g2,k,none⟩ (ay v)).drew.cell? ⟨w.heap.size,j,none⟩=wr.cell? ⟨w.heap.size,j,none⟩:=fun j=>World.cell?_setCell_other _ _ _ _ (by intro e;injection e with e;exact aiT e)
   have Bx:Hid ((wr.setCell ⟨g2,k,none⟩ (ay v)).drew.cell? ⟨w.heap.size,4*k,none⟩=some (B8 b0)∧(wr.setCell ⟨g2,k,none⟩ (ay v)).drew.cell? ⟨w.heap.size,4*k+1,none⟩=some (B8 b1)∧(wr.setCell ⟨g2,k,none⟩ (ay v)).drew.cell? ⟨w.heap.size,4*k+2,none⟩=some (B8 b2)∧(wr.setCell ⟨g2,k,none⟩ (ay v)).drew.cell? ⟨w.heap.size,4*k+3,none⟩=some (B8 b3)):=
    hdd ⟨(mv _).trans uB,(mv _).trans fY,(mv _).trans fS,(mv _).trans lu⟩
   have k0:wr.drew.cell? ⟨w.heap.size,4*k,none⟩=some (B8 b0):=uB;have k1:wr.drew.cell? ⟨w.heap.size,4*k+1,none⟩=some (B8 b1):=fY;have k2:wr.drew.cell? ⟨w.heap.size,4*k+2,none⟩=some (B8 b2):=fS;have k3:wr.drew.cell? ⟨w.heap.size,4*k+3,none⟩=some (B8 b3):=lu;clear mv uB fY fS lu;go_wp2_with fail;refine wp_region_held_drew (S:=fun w'=>w'.cell? ⟨w.heap.size,4*k,none⟩=some (B8 b0)∧w'.cell? ⟨w.heap.size,4*k+1,none⟩=some (B8 b1)∧w'.cell? ⟨w.heap.size,4*k+2,none⟩=some (B8 b2)∧w'.cell? ⟨w.heap.size,4*k+3,none⟩=some (B8 b3)) ak ⟨k0,k1,k2,k3⟩ (fun hS=> ?_);refine af 0 hS (h:=af 1 hS (h:=bT 2 rfl (fun w hSw=>by have q:=IntWalk.i64_in (4*(k:Int)) aa;go_simp;all_goals(with_reducible rfl)) hS (h:=bT 3 rfl (fun w hSw=>by have q0:(0:Int)≤4*(k:Int):=aa;have q1:4*(k:Int)<64:=aa;have q2:(4*(k:Int)).toNat=4*k:=aa;go_simp;all_goals(with_reducible rfl)) hS (h:=aZ 4 hS (h:=af 5 hS (h:=af 6 hS (h:=af 7 hS (h:=bT 8 rfl (fun w hSw=>by have q:=IntWalk.i64_in (4*(k:Int)) aa;go_simp;all_goals(with_reducible rfl)) hS (h:=bT 9 rfl (fun w hSw=>by have q:=IntWalk.i64_in (4*(k:Int)+1) aa;go_simp;all_goals(with_reducible rfl)) hS (h:=bT 10 rfl (fun w hSw=>by have q0:(0:Int)≤4*(k:Int)+1:=aa;have q1:4*(k:Int)+1<64:=aa;have q2:(4*(k:Int)+1).toNat=4*k+1:=aa;go_simp;all_goals(with_reducible rfl)) hS (h:=aZ 11 hS (h:= ?_))))))))))));refine af 12 hS (h:=af 13 hS (h:=af 14 hS (h:=af 15 hS (h:=bT 16 rfl (fun w hSw=>by have q:=IntWalk.i64_in (4*(k:Int)) aa;go_simp;all_goals(with_reducible rfl)) hS (h:=bT 17 rfl (fun w hSw=>by have q:=IntWalk.i64_in (4*(k:Int)+2) aa;go_simp;all_goals(with_reducible rfl)) hS (h:=bT 18 rfl (fun w hSw=>by have q0:(0:Int)≤4*(k:Int)+2:=aa;have q1:4*(k:Int)+2<64:=aa;have q2:(4*(k:Int)+2).toNat=4*k+2:=aa;go_simp;all_goals(with_reducible rfl)) hS (h:=aZ 19 hS (h:=af 20 hS (h:=af 21 hS (h:=af 22 hS (h:=af 23 hS (h:= ?_))))))))))));refine bT 24 rfl (fun w hSw=>by have q:=IntWalk.i64_in (4*(k:Int)) aa;go_simp;all_goals(with_reducible rfl)) hS (h:=bT 25 rfl (fun w hSw=>by have q:=IntWalk.i64_in (4*(k:Int)+3) aa;go_simp;all_goals(with_reducible rfl)) hS (h:=bT 26 rfl (fun w hSw=>by have q0:(0:Int)≤4*(k:Int)+3:=aa;have q1:4*(k:Int)+3<64:=aa;have q2:(4*(k:Int)+3).toNat=4*k+3:=aa;go_simp;all_goals(with_reducible rfl)) hS (h:=aZ 27 hS (h:=af 28 hS (h:=af 29 hS (h:= ?_))))));rw[wG.out];refine bT 30 rfl (fun w hSw=>by have q0:(0:Int)≤(k:Int):=aa;have q1:(k:Int)<64:=aa;go_simp;all_goals(with_reducible rfl)) hS (h:= ?_);refine aG 31 (fun K hK=> ?_);go_simp;refine hK.out _ _ Bx.out (fun _=> ?_);clear hK K;refine wpAnyH_done ak ?_ _;go_wp2_with fail;go_roundw;case rel=>refine⟨k+1,aa,aq,rb.setOther av _,r0.setOther av _,?_,(hb.setCell av _).drew⟩;exact(r1.set k _).congr fun i _=>by rw[←HN.out];exact zH ax k i
   case measure=>simp[intOf];omega
  ·obtain rfl:k=16:=(by omega);clear aF rb HW hk;rw[show((16:Nat):Int)=16 from rfl];go_wp2_with fail;go_loopw [5] (fun i wr=> ∃k:Nat,16≤k∧k≤64∧i= .int .i64 k∧wr.rowIs g1 277 64 (j7 ax 0)∧wr.rowIs g2 277 64 (j7 ax k)∧Below w.heap.size w wr) (fun i _=>64-(intOf i).toNat);case atStart=>exact⟨16,aa,aa,rfl,r0,r1,hb⟩
   case round=>
    clear r0 r1 hb;obtain⟨k,aiU,hk,rfl,r0,r1,hb⟩:=hrel;by_cases aF:k<64
    ·have fY:_:=r1.cell (i:=k-15) aa;have fS:_:=r1.cell (i:=k-2) aa;have lu:_:=r1.cell (i:=k-16) aa;have kJ:_:=r1.cell (i:=k-7) aa;have hw:=r1.cell (i:=k) aa;have hf:=r1.frozen k;have hn:=zJ ax (aS ax k) k aiU;unfold j7 at fY fS lu kJ;generalize(aS ax k).getD (k-15) 0=x at*;generalize(aS ax k).getD (k-2) 0=y at*;generalize(aS ax k).getD (k-16) 0=a at*;generalize(aS ax k).getD (k-7) 0=b at*;have HS0:=hdd (Pj x);have nu:=hdd (Pm y);generalize s0 x=p at*;generalize s1 y=q at*;have jb:=hdd hn;have Pn:=hdd (fQ a p);generalize a+p=v1 at*;have K8:=hdd (fQ v1 b);generalize v1+b=v2 at*;have HN3:=hdd (fQ v2 q);generalize v2+q=v at*;clear hn;have mv: ∀j,j<k→(wr.drew.setCell ⟨g2,k,none⟩ (ay v)).drew.cell? ⟨g2,j,none⟩=wr.cell? ⟨g2,j,none⟩:=fun j hj=>World.cell?_setCell_other _ _ _ _ (by intro e;injection e with _ e;omega)
     have Bx:Hid ((wr.drew.setCell ⟨g2,k,none⟩ (ay v)).drew.cell? ⟨g2,k-16,none⟩=some (ay a)∧(wr.drew.setCell ⟨g2,k,none⟩ (ay v)).drew.cell? ⟨g2,k-7,none⟩=some (ay b)):=
      hdd ⟨(mv _ aa).trans lu,(mv _ aa).trans kJ⟩
     have k1:wr.drew.cell? ⟨g2,k-15,none⟩=some (ay x):=fY;have k2:wr.drew.cell? ⟨g2,k-2,none⟩=some (ay y):=fS;have k3:wr.drew.drew.cell? ⟨g2,k-16,none⟩=some (ay a):=lu;have k4:wr.drew.drew.cell? ⟨g2,k-7,none⟩=some (ay b):=kJ;clear mv fY fS lu kJ;go_wp2_with fail;refine wp_region_held_drew (S:=fun w'=>w'.cell? ⟨g2,k-15,none⟩=some (ay x)∧w'.cell? ⟨g2,k-2,none⟩=some (ay y)) ak ⟨k1,k2⟩ (fun hS=> ?_);refine af 0 hS (h:=bT 1 rfl (fun w hSw=>by have q:=IntWalk.i64_in ((k:Int)-15) aa;go_simp;all_goals(with_reducible rfl)) hS (h:=bT 2 rfl (fun w hSw=>by have q0:(0:Int)≤(k:Int)-15:=aa;have q1:(k:Int)-15<64:=aa;have q2:((k:Int)-15).toNat=k-15:=aa;have q3:(15:Int)≤(k:Int):=aa;go_simp;all_goals(with_reducible rfl)) hS (h:=aZ 3 hS (h:=af 4 hS (h:=bT 5 rfl (fun w hSw=>by have q:=IntWalk.i64_in ((k:Int)-2) aa;go_simp;all_goals(with_reducible rfl)) hS (h:=bT 6 rfl (fun w hSw=>by have q0:(0:Int)≤(k:Int)-2:=aa;have q1:(k:Int)-2<64:=aa;have q2:((k:Int)-2).toNat=k-2:=aa;have q3:(2:Int)≤(k:Int):=aa;go_simp;all_goals(with_reducible rfl)) hS (h:=aZ 7 hS (h:=af 8 hS (h:=af 9 hS (h:= ?_))))))))));refine wpAnyH_done ak ?_ _;go_wp2_with fail;refine(UA x _).mono ?_;rintro e w' ⟨rfl,rfl⟩;go_wp2_with fail;refine(Pd x _).mono ?_;rintro e w' ⟨rfl,rfl⟩;go_wp2_with fail;refine(Pc y _).mono ?_;rintro e w' ⟨rfl,rfl⟩;go_wp2_with fail;refine(Pe y _).mono ?_;rintro e w' ⟨rfl,rfl⟩;go_wp2_with fail;rw[HS0.out,nu.out];refine wp_region_held_drew (S:=fun w'=>w'.cell? ⟨g2,k-16,none⟩=some (ay a)∧w'.cell? ⟨g2,k-7,none⟩=some (ay b)) ak ⟨k3,k4⟩ (fun hS=> ?_);refine af 0 hS (h:=af 1 hS (h:=bT 2 rfl (fun w hSw=>by have q:=IntWalk.i64_in ((k:Int)-16) aa;go_simp;all_goals(with_reducible rfl)) hS (h:=bT 3 rfl (fun w hSw=>by have q0:(0:Int)≤(k:Int)-16:=aa;have q1:(k:Int)-16<64:=aa;have q2:((k:Int)-16).toNat=k-16:=aa;have q3:(16:Int)≤(k:Int):=aa;go_simp;all_goals(with_reducible rfl)) hS (h:=aZ 4 hS (h:=af 5 hS (h:=af 6 hS (h:= ?_)))))));rw[Pn.out];refine af 7 hS (h:=bT 8 rfl (fun w hSw=>by have q:=IntWalk.i64_in ((k:Int)-7) aa;go_simp;all_goals(with_reducible rfl)) hS (h:=bT 9 rfl (fun w hSw=>by have q0:(0:Int)≤(k:Int)-7:=aa;have q1:(k:Int)-7<64:=aa;have q2:((k:Int)-7).toNat=k-7:=aa;have q3:(7:Int)≤(k:Int):=aa;go_simp;all_goals(with_reducible rfl)) hS (h:=aZ 10 hS (h:=af 11 hS (h:= ?_)))));rw[K8.out];refine af 12 hS (h:=af 13 hS (h:= ?_));rw[HN3.out];refine bT 14 rfl (fun w hSw=>by have q0:(0:Int)≤(k:Int):=aa;have q1:(k:Int)<64:=aa;go_simp;all_goals(with_reducible rfl)) hS (h:= ?_);refine aG 15 (fun K hK=> ?_);go_simp;refine hK.out _ _ Bx.out (fun _=> ?_);clear hK K;refine wpAnyH_done ak ?_ _;go_wp2_with fail;go_roundw;case rel=>refine⟨k+1,aa,aa,aq,r0.setOther av _,?_,(hb.setCell av _).drew.drew⟩;exact(r1.set k _).congr fun i _=>by rw[←zH ax k i,jb.out]
     case measure=>simp[intOf];omega
    ·obtain rfl:k=64:=(by omega);obtain⟨cs,hcs,hn,hv⟩:=r1;obtain⟨os,wH,pM,hvo⟩:=r0;obtain rfl:=Pi ax hn hv;go_wp2_with (first | (refine wpList_load_row rfl 277 _ rfl g2 rfl 277 (words ax) _ _ hcs underlying277 rfl ?c1 ?_) | (refine wpList_store_row rfl 277 _ _ rfl g1 (words ax) rfl rfl 277 os wH ?c2 ?c3 ?c4 ?_))
     case c1=>rw[wF,hn]
     case c2=>rw[wF,hn]
     case c3=>rw[pM,hn]
     case c4=>exact zI ax
     refine bodyPost_ret (results_cell_row rfl _ _ g1 277 (words ax) _ _ rfl (setRow_heap _ _ _ _ _ _ wH) underlying277 rfl (by rw[wF,hn])) rfl ?_;exact⟨rfl,below_setRow hb aa _⟩
structure R8 where
 a:BitVec 32
 b:BitVec 32
 c:BitVec 32
 d:BitVec 32
 e:BitVec 32
 f:BitVec 32
 g:BitVec 32
 h:BitVec 32
def wI:List (BitVec 32):=[1116352408,1899447441,3049323471,3921009573,961987163,1508970993,2453635748,2870763221,3624381080,310598401,607225278,1426881987,1925078388,2162078206,2614888103,3248222580,3835390401,4022224774,264347078,604807628,770255983,1249150122,1555081692,1996064986,2554220882,2821834349,2952996808,3210313671,3336571891,3584528711,113926993,338241895,666307205,773529912,1294757372,1396182291,1695183700,1986661051,2177026350,2456956037,2730485921,2820302411,3259730800,3345764771,3516065817,3600352804,4094571909,275423344,430227734,506948616,659060556,883997877,958139571,1322822218,1537002063,1747873779,1955562222,2024104815,2227730452,2361852424,2428436474,2756734187,3204031479,3329325298]
def Kc(i:Nat):BitVec 32:=wI.getD i 0
def Xp(r:R8)(k v:BitVec 32):BitVec 32:=r.h+(jn 6 r.e ^^^ jn 11 r.e ^^^ jn 25 r.e)+((r.e &&& r.f) ^^^ (~~~r.e &&& r.g))+k+v
def uOf(r:R8):BitVec 32:=(jn 2 r.a ^^^ jn 13 r.a ^^^ jn 22 r.a)+((r.a &&& r.b) ^^^ (r.a &&& r.c) ^^^ (r.b &&& r.c))
def roundOf(k v:BitVec 32)(r:R8):R8:=⟨Xp r k v+uOf r,r.a,r.b,r.c,r.d+Xp r k v,r.e,r.f,r.g⟩
def wd(ax:List UInt8)(i:Nat):BitVec 32:=(aS ax 64).getD i 0
def rounds(ax:List UInt8):Nat→R8→R8
 | 0,r=>r
 | n+1,r=>roundOf (Kc n) (wd ax n) (rounds ax n r)
def R8.get(r:R8)(i:Nat):BitVec 32:=if i=0 then r.a else if i=1 then r.b else if i=2 then r.c else if i=3 then r.d else if i=4 then r.e else if i=5 then r.f else if i=6 then r.g else r.h
def R8.add(r s:R8):R8:=⟨r.a+s.a,r.b+s.b,r.c+s.c,r.d+s.d,r.e+s.e,r.f+s.f,r.g+s.g,r.h+s.h⟩
def np(r:R8)(ax:List UInt8):R8:=r.add (rounds ax 64 r)
abbrev R8.agg(r:R8):Array Value:= #[ay r.a,ay r.b,ay r.c,ay r.d,ay r.e,ay r.f,ay r.g,ay r.h]
theorem R8.wJ(r:R8)(i:Nat)(h:i<8):r.agg[i]? =some (ay (r.get i)):=by
 match i,h with
 | 0,_ | 1,_ | 2,_ | 3,_ | 4,_ | 5,_ | 6,_ | 7,_=>rfl
def lH:Array Value:=Array.replicate 8 (.int .u32 0)
theorem Zg:(prog.info? 250).map (fun i=>(i.zero,i.size))=some (some (.agg lH),8):=ak
theorem Gb:(prog.info? 250).map (·.size)=some 8:=ak
theorem GL:(prog.info? 251).map (·.size)=some 64:=ak
theorem Po(ax:List UInt8)(i:Nat)(h:i<64):(words ax)[i]? =some (ay (wd ax i)):=by unfold words;rw[List.getElem?_toArray,List.getElem?_map,List.getElem?_range h];rfl
theorem GM(ax:List UInt8):(words ax).size=64:=by simp[words]
theorem DW(ax:List UInt8)(j:Nat)(hj:j<64)(w:World):(Instr.index 277 (.agg (words ax)) (.int .i64 j)).run prog w= .ok (ay (wd ax j)) w:=by
 have hs:(prog.info? 24).map (·.size)=some 1:=ak;have hg:=Po ax j hj;cases hq:prog.info? 24 with
 | none=>rw[hq]at hs;simp at hs
 | some i=>
  have dJ:i.size=1:=by rw[hq]at hs;simpa using hs
  simp[Instr.index,asIntOf,run_underlying underlying277,Sem.run_bind,sizeOf,typeInfo,hq,dJ,part,hg,hj]
theorem ew(r:R8)(j:Nat)(hj:j<8)(w:World):(Instr.index 250 (.agg r.agg) (.int .i64 j)).run prog w= .ok (ay (r.get j)) w:=by
 have hs:(prog.info? 24).map (·.size)=some 1:=ak;have hg:=r.wJ j hj;generalize r.agg=A at*;cases hq:prog.info? 24 with
 | none=>rw[hq]at hs;simp at hs
 | some i=>
  have dJ:i.size=1:=by rw[hq]at hs;simpa using hs
  simp[Instr.index,asIntOf,run_underlying underlying250,Sem.run_bind,sizeOf,typeInfo,hq,dJ,part,hg,hj]
theorem UB(r:R8)(hn:cs.size=8)(hv: ∀i,i<8→cs[i]? =some (ay (r.get i))):cs=r.agg:=by
 apply Array.ext_getElem?;intro i;by_cases hi:i<8;·rw[hv i hi,r.wJ i hi]
 ·rw[Array.getElem?_eq_none aa,Array.getElem?_eq_none av]
theorem add_get(r s:R8)(i:Nat):(r.add s).get i=r.get i+s.get i:=by
 unfold R8.get R8.add;simp only;repeat (split;rfl)
 rfl
theorem wK(r:R8):r.agg.all (·.oneCell')=true:=by simp[Value.oneCell']
theorem By(a:BitVec 32):bits .xor .u32 IntKind.u32.max (a.toNat:Int)=((~~~a).toNat:Int):=by
 have h:IntKind.u32.max=((4294967295#32).toNat:Int):=rfl;have e:4294967295#32 ^^^ a= ~~~a:=by rw[show(4294967295#32)=BitVec.allOnes 32 from rfl,BitVec.xor_comm,BitVec.xor_allOnes]
 rw[h,mu,e]
theorem UC(a:BitVec 32):bits .xor .u32 (if IntKind.u32.signed=true then -1 else IntKind.u32.max) (a.toNat:Int)=((~~~a).toNat:Int):=by rw[if_neg an];exact By a
structure St where
 ws:R8
 ax:List UInt8
 n:Nat
def St.put(s:St)(b:UInt8):St:=⟨if s.n%64=63 then np s.ws (s.ax.set (s.n%64) b)else s.ws,s.ax.set (s.n%64) b,s.n+1⟩
def St.dZ(s:St)(l:List UInt8):St:=l.foldl St.put s
theorem St.nK(s:St)(a b:List UInt8):s.dZ (a++b)=(s.dZ a).dZ b:=by unfold St.dZ;rw[List.foldl_append]
theorem St.Pp(s:St):s.dZ []=s:=rfl
theorem St.zK(s:St)(b:UInt8)(l:List UInt8):s.dZ (b::l)=(s.put b).dZ l:=rfl
def lay(ax:List UInt8)(o:Nat)(l:List UInt8):List UInt8:=ax.take o++(l++ax.drop (o+l.length))
theorem J2(ax:List UInt8)(o:Nat):lay ax o []=ax:=by simp[lay]
theorem GN(ax:List UInt8)(o:Nat)(l:List UInt8)(h:o+l.length≤ax.length):(lay ax o l).length=ax.length:=by unfold lay;simp;omega
theorem Pq(ax:List UInt8)(o:Nat)(b:UInt8)(l:List UInt8)(h:o<ax.length):lay (ax.set o b) (o+1) l=lay ax o (b::l):=by
 unfold lay;have h1:(ax.set o b).take (o+1)=ax.take o++[b]:=by rw[List.take_succ_eq_append_getElem l7,List.take_set_of_le (Nat.le_refl o)];simp
 have h2:(ax.set o b).drop (o+1+l.length)=ax.drop (o+1+l.length):=List.drop_set_of_lt aa;rw[h1,h2];simp[show o+1+l.length=o+(l.length+1) by omega]
theorem St.wL(l:List UInt8): ∀s:St,s.ax.length=64→s.n%64+l.length≤64→
  s.dZ l=⟨if s.n%64+l.length=64 then np s.ws (lay s.ax (s.n%64) l)else s.ws,lay s.ax (s.n%64) l,s.n+l.length⟩:=by
 induction l with
 | nil=>
  intro s hb hl;have: ¬(s.n%64+([]:List UInt8).length=64):=av;rw[if_neg this,J2];rfl
 | cons b l ih=>
  intro s hb hl;rw[St.zK];simp only[List.length_cons]at hl ⊢;have hc:=Pq s.ax (s.n%64) b l aa;by_cases NT:s.n%64=63;·have:l=[]:=List.eq_nil_of_length_eq_zero aa;subst this;rw[St.Pp,J2]at*;unfold St.put;rw[if_pos NT,if_pos av,←hc];simp
  ·have hp:s.put b=⟨s.ws,s.ax.set (s.n%64) b,s.n+1⟩:=(by unfold St.put;rw[if_neg NT]);have hn:(s.n+1)%64=s.n%64+1:=aa;have:=ih (s.put b) (by rw[hp];simpa using hb) (by rw[hp];simp only;omega);rw[this,hp];simp only;rw[hn,hc,show s.n%64+1+l.length=s.n%64+(l.length+1) by omega,show s.n+1+l.length=s.n+(l.length+1) by omega]
theorem St.Pr(l:List UInt8): ∀s:St,s.ax.length=64→(s.dZ l).ax.length=64:=by
 induction l with
 | nil=>intro s h;exact h
 | cons b l ih=>intro s h;exact ih _ (by unfold St.put;simpa using h)
theorem St.Bz(l:List UInt8): ∀s:St,(s.dZ l).n=s.n+l.length:=by
 induction l with
 | nil=>intro s;rfl
 | cons b l ih=>intro s;rw[St.zK,ih];simp[St.put];omega
def St.cells(s:St):List Value:=s.ws.agg.toList++(s.ax.map B8++[.int .u64 (s.n:Nat)])
theorem St.mw(s:St)(h:s.ax.length=64):s.cells.length=73:=by unfold St.cells;simp[h]
structure cN(w:World)(g:Nat)(s:St):Prop where
 at_:w.heap[g]? =some (.cells s.cells.toArray 253 (0,0))
 len:s.ax.length=64
theorem cN.cellAt{w:World}{g:Nat}{s:St}(h:cN w g s)(i:Nat):w.cell? ⟨g,i,none⟩=s.cells[i]? :=by rw[cell_of_row _ _ _ _ _ _ h.at_];simp
theorem St.GO(s:St)(h:s.ax.length=64):s.cells[72]? =some (.int .u64 (s.n:Nat)):=by unfold St.cells;rw[List.getElem?_append_right ae,List.getElem?_append_right dS];simp[h]
theorem St.one(s:St): ∀v∈s.cells,v.oneCell'=true:=by
 intro v hv;unfold St.cells at hv;simp only[List.mem_append,List.mem_map]at hv;rcases hv with h | ⟨b,_,rfl⟩ | h;·simp at h;rcases h with rfl | rfl | rfl | rfl | rfl | rfl | rfl | rfl<;>rfl
 ·rfl
 ·simp at h;subst h;rfl
theorem bF(w:World)(o:Obj):Below w.heap.size w (w.alloc o):=ap
theorem il(a b:BitVec 32):((a.toNat:Int)+(b.toNat:Int))%4294967296=((a+b).toNat:Int):=by rw[BitVec.toNat_add];omega
theorem Ps(w:World):(w.alloc (.cells lH 250)).rowIs w.heap.size 250 8 (fun _=> .int .u32 0):=by
 have h:=World.rowIs_alloc w lH 250 (fun _=> .int .u32 0) (fun i hi=>by
  unfold lH at hi ⊢;rw[Array.getElem?_replicate,if_pos jp])
 have e:lH.size=8:=by simp[lH]
 rwa [e]at h
theorem UD(ws:R8)(ax:List UInt8)(nh:ax.length=64)(w:World)(hK: ∀i,i<64→w.cell? ⟨2,i,none⟩=some (ay (Kc i)))(h1:2<w.heap.size):
  Calls prog 168 #[.agg ws.agg,.agg (ax.map B8).toArray] w fun e w'=>e= .returned (.agg (np ws ax).agg)∧Below w.heap.size w w':=by
 have Zh:=(zero_of_info Xn).1;have hz8:=(zero_of_info Zg).1;have HK:=hdd hK;have HSP:=hdd (GK ax nh);have pq:(ax.map B8).toArray.size=64:=by simpa using nh
 have HWI:=hdd (DW ax);have UE:=hdd (zI ax);have HWS:=hdd (GM ax);have HRN:Hid (∀n r,rounds ax (n+1) r=roundOf (Kc n) (wd ax n) (rounds ax n r)):=hdd (fun _ _=>rfl);have HMX:Hid (np ws ax=ws.add (rounds ax 64 ws)):=hdd rfl;generalize fF:(ax.map B8).toArray=bl at*;have jS:=hdd pq;clear pq fF hK nh;generalize words ax=W at*;go_enter func168,ntmps168;have eA:(w.alloc (.cells ws.agg 250)).heap.size=w.heap.size+1:=ae;have eB:((w.alloc (.cells ws.agg 250)).alloc (.cells bl 251)).heap.size=w.heap.size+1+1:=ae;have pN:=bF w (.cells ws.agg 250);have N3:=bF (w.alloc (.cells ws.agg 250)) (.cells bl 251);have UF:=bF ((w.alloc (.cells ws.agg 250)).alloc (.cells bl 251)) (.cells lH 250)
 have lf:(((w.alloc (.cells ws.agg 250)).alloc (.cells bl 251)).alloc (.cells lH 250)).rowIs w.heap.size 250 8 (fun i=>ay (ws.get i)):=
  ((World.rowIs_alloc w ws.agg 250 (fun i=>ay (ws.get i)) (fun i hi=>ws.wJ i hi)).alloc _).alloc _
 have FW:(((w.alloc (.cells ws.agg 250)).alloc (.cells bl 251)).alloc (.cells lH 250)).rowIs (w.heap.size+1+1) 250 8 (fun _=> .int .u32 0):=by have h:=Ps ((w.alloc (.cells ws.agg 250)).alloc (.cells bl 251));rw[eB]at h;exact h
 have hcB:(((w.alloc (.cells ws.agg 250)).alloc (.cells bl 251)).alloc (.cells lH 250)).heap[w.heap.size+1]? =some (.cells bl 251 (0,0)):=by rw[UF.block _ ae,←eA];exact heap_alloc_last _ _
 have aW:Below w.heap.size w (((w.alloc (.cells ws.agg 250)).alloc (.cells bl 251)).alloc (.cells lH 250)):=(aO pN N3).trans (UF.mono av);have eC:(((w.alloc (.cells ws.agg 250)).alloc (.cells bl 251)).alloc (.cells lH 250)).heap.size=w.heap.size+1+1+1:=ae;have Tt:Hid (∀i,i<8→ws.agg[i]? =some (ay (ws.get i))):=hdd ws.wJ;clear eA eB pN N3 UF;go_wp2_with (refine wpList_load_row rfl 251 _ rfl (w.heap.size+1) rfl 251 bl _ _ hcB underlying251 rfl (by rw[GL,jS.out]) ?_)
 generalize((w.alloc (.cells ws.agg 250)).alloc (.cells bl 251)).alloc (.cells lH 250)=w3 at*;refine(HSP.out w3).mono ?_;rintro e w4 ⟨rfl,bc⟩;have acP:=lf.of_block (bc.block _ aa);have acQ:=FW.of_block (bc.block _ aa);have g4:=aO aW bc;have wM:=bc.size;have gF:=heap_alloc_last w4 (.cells dU 277);clear lf FW hcB bc aW;go_wp2_with (refine wpList_store_row rfl 277 _ _ rfl w4.heap.size W rfl rfl 277 dU gF (by rw[wF,HWS.out]) (by rw[HWS.out];simp[dU]) UE.out ?_)
 rw[World.setRow_alloc_new];have Pt:=heap_alloc_last w4 (.cells W 277);have fj:=bF w4 (.cells W 277);have yW:=acP.alloc (.cells W 277);have acR:=acQ.alloc (.cells W 277);have g5:=aO g4 fj;clear gF fj acP acQ g4;generalize w4.alloc (.cells W 277)=w5 at*;have k0:w5.drew.cell? ⟨w.heap.size,0,none⟩=some (ay ws.a):=yW.cell (i:=0) aa;have k1:w5.drew.cell? ⟨w.heap.size,1,none⟩=some (ay ws.b):=yW.cell (i:=1) aa;have k2:w5.drew.cell? ⟨w.heap.size,2,none⟩=some (ay ws.c):=yW.cell (i:=2) aa;have k3:w5.drew.cell? ⟨w.heap.size,3,none⟩=some (ay ws.d):=yW.cell (i:=3) aa;refine wp_region_held_drew (S:=fun w'=>w'.cell? ⟨w.heap.size,0,none⟩=some (ay ws.a)∧w'.cell? ⟨w.heap.size,1,none⟩=some (ay ws.b)∧w'.cell? ⟨w.heap.size,2,none⟩=some (ay ws.c)∧w'.cell? ⟨w.heap.size,3,none⟩=some (ay ws.d)) ak ⟨k0,k1,k2,k3⟩ (fun hS=> ?_);refine af 0 hS (h:=aZ 1 hS (h:=af 2 hS (h:=aZ 3 hS (h:=af 4 hS (h:=aZ 5 hS (h:=af 6 hS (h:=aZ 7 hS (h:=af 8 hS (h:=af 9 hS (h:=af 10 hS (h:=af 11 hS (h:= ?_))))))))))));refine wpAnyH_done ak ?_ _;have k4:w5.drew.drew.cell? ⟨w.heap.size,4,none⟩=some (ay ws.e):=yW.cell (i:=4) aa;have k5:w5.drew.drew.cell? ⟨w.heap.size,5,none⟩=some (ay ws.f):=yW.cell (i:=5) aa;have k6:w5.drew.drew.cell? ⟨w.heap.size,6,none⟩=some (ay ws.g):=yW.cell (i:=6) aa;have k7:w5.drew.drew.cell? ⟨w.heap.size,7,none⟩=some (ay ws.h):=yW.cell (i:=7) aa;clear k0 k1 k2 k3 hS;go_wp2_with fail;refine wp_region_held_drew (S:=fun w'=>w'.cell? ⟨w.heap.size,4,none⟩=some (ay ws.e)∧w'.cell? ⟨w.heap.size,5,none⟩=some (ay ws.f)∧w'.cell? ⟨w.heap.size,6,none⟩=some (ay ws.g)∧w'.cell? ⟨w.heap.size,7,none⟩=some (ay ws.h)) ak ⟨k4,k5,k6,k7⟩ (fun hS=> ?_);refine af 0 hS (h:=aZ 1 hS (h:=af 2 hS (h:=aZ 3 hS (h:=af 4 hS (h:=aZ 5 hS (h:=af 6 hS (h:=aZ 7 hS (h:=af 8 hS (h:=af 9 hS (h:=af 10 hS (h:=af 11 hS (h:= ?_))))))))))));refine wpAnyH_done ak ?_ _;clear k4 k5 k6 k7 hS;have Pu:w5.drew.drew.heap[w4.heap.size]? =some (.cells W 277 (0,0)):=Pt;go_wp2_with (refine wpList_load_row rfl 277 _ rfl w4.heap.size rfl 277 W _ _ Pu underlying277 rfl (by rw[wF,HWS.out]) ?_)
 have acS:w5.drew.drew.rowIs w.heap.size 250 8 (fun i=>ay (ws.get i)):=yW;have acT:w5.drew.drew.rowIs (w.heap.size+1+1) 250 8 (fun _=> .int .u32 0):=acR;have g6:Below w.heap.size w w5.drew.drew:=g5.drew.drew;clear Pt Pu yW acR g5;generalize w5.drew.drew=w6 at*;go_loopw [6,7,8,9,10,11,12,13,39] (fun s6 s7 s8 s9 N0 s11 GP s13 i wr=> ∃(k:Nat) (a b c d e f g h:BitVec 32),k≤64∧rounds ax k ws=⟨a,b,c,d,e,f,g,h⟩∧s6=ay a∧s7=ay b∧s8=ay c∧s9=ay d∧N0=ay e∧s11=ay f∧GP=ay g∧s13=ay h∧i= .int .i64 k∧wr.rowIs w.heap.size 250 8 (fun i=>ay (ws.get i))∧wr.rowIs (w.heap.size+1+1) 250 8 (fun _=> .int .u32 0)∧Below w.heap.size w wr) (fun _ _ _ _ _ _ _ _ i _=>64-(intOf i).toNat);case atStart=>exact⟨0,ws.a,ws.b,ws.c,ws.d,ws.e,ws.f,ws.g,ws.h,aa,rfl,rfl,rfl,rfl,rfl,rfl,rfl,rfl,rfl,rfl,acS,acT,g6⟩
 case round=>
  clear acS acT g6;obtain⟨k,a,b,c,d,e,f,g,h,hk,hr,rfl,rfl,rfl,rfl,rfl,rfl,rfl,rfl,rfl,lf,FW,hb⟩:=hrel;by_cases aF:k<64
  ·have hn:=HRN.out k ws;rw[hr]at hn;have hu:uOf ⟨a,b,c,d,e,f,g,h⟩=(jn 2 a ^^^ jn 13 a ^^^ jn 22 a)+((a &&& b) ^^^ (a &&& c) ^^^ (b &&& c)):=rfl;have ht:Xp ⟨a,b,c,d,e,f,g,h⟩ (Kc k) (wd ax k)=h+(jn 6 e ^^^ jn 11 e ^^^ jn 25 e)+((e &&& f) ^^^ (~~~e &&& g))+Kc k+wd ax k:=rfl;have kp:roundOf (Kc k) (wd ax k) ⟨a,b,c,d,e,f,g,h⟩=⟨Xp ⟨a,b,c,d,e,f,g,h⟩ (Kc k) (wd ax k)+uOf ⟨a,b,c,d,e,f,g,h⟩,a,b,c,d+Xp ⟨a,b,c,d,e,f,g,h⟩ (Kc k) (wd ax k),e,f,g⟩:=rfl;rw[kp,hu,ht]at hn;have GQ:=HWI.out k aF;have kK:wr.drew.cell? ⟨2,k,none⟩=some (ay (Kc k)):=(hb.cell (p:=⟨2,k,none⟩) h1).trans (HK.out k aF);generalize wd ax k=wv at*;generalize Kc k=kk at*;have HR6:=hdd (Uz e);have Zi:=hdd (Pa e);have Zj:=hdd (Pg e);have pK:=hdd (Uy a);have Zk:=hdd (Pb a);have Zl:=hdd (Pf a);clear hu ht kp hr;generalize jn 6 e=r6 at*;generalize jn 11 e=r11 at*;generalize jn 25 e=r25 at*;generalize jn 2 a=r2 at*;generalize jn 13 a=r13 at*;generalize jn 22 a=r22 at*;have YB:=hdd (mu r6 r11);generalize r6 ^^^ r11=x1 at*;have HX2:=hdd (mu x1 r25);generalize x1 ^^^ r25=x2 at*;have HV1:=hdd (fQ h x2);generalize h+x2=v1 at*;have Zm:=hdd (yV e f);generalize e &&& f=a1 at*;have N4:=hdd (UC e);generalize ~~~e=n1 at*;have HA2:=hdd (yV n1 g);generalize n1 &&& g=a2 at*;have yX:=hdd (mu a1 a2);generalize a1 ^^^ a2=c1 at*;have HV2:=hdd (fQ v1 c1);generalize v1+c1=v2 at*;have HV3:=hdd (fQ v2 kk);generalize v2+kk=v3 at*;have HV4:=hdd (fQ v3 wv);generalize v3+wv=t at*;have Pv:=hdd (mu r2 r13);generalize r2 ^^^ r13=y1 at*;have N5:=hdd (mu y1 r22);generalize y1 ^^^ r22=y2 at*;have jd:=hdd (yV a b);generalize a &&& b=m1 at*;have ry:=hdd (yV a c);generalize a &&& c=m2 at*;have CZ:=hdd (mu m1 m2);generalize m1 ^^^ m2=m3 at*;have yM:=hdd (yV b c);generalize b &&& c=m4 at*;have OZ:=hdd (mu m3 m4);generalize m3 ^^^ m4=m5 at*;have HU:=hdd (il y2 m5);generalize y2+m5=u at*;have HDT:=hdd (il d t);generalize d+t=dt at*;have HTU:=hdd (il t u);generalize t+u=tu at*;have HN:=hdd hn;clear hn;go_wp2_with fail;refine wp_region_held_drew (S:=fun w'=>w'.cell? ⟨2,k,none⟩=some (ay kk)) ak kK (fun hS=> ?_);refine af 0 hS (h:=af 1 hS (h:=af 3 hS (h:=af 6 hS (h:=af 10 hS (h:=af 11 hS (h:=af 12 hS (h:= ?_)))))));rw[Zm.out];refine af 13 hS (h:=af 14 hS (h:= ?_));rw[N4.out];refine af 15 hS (h:=af 16 hS (h:= ?_));rw[HA2.out];refine af 17 hS (h:= ?_);rw[yX.out];refine af 19 hS (h:=bT 20 rfl (fun w hSw=>by have q0:(0:Int)≤(k:Int):=aa;have q1:(k:Int)<64:=aa;go_simp;all_goals(with_reducible rfl)) hS (h:=aZ 21 hS (h:=af 23 hS (h:= ?_))));refine aG 2 (fun K hK=> ?_);go_simp;refine(HR6.out _).mono ?_;rintro e w' ⟨rfl,rfl⟩;go_wp2_with fail;refine hK.out _ _ hS (fun _=> ?_);clear hK K;refine aG 4 (fun K hK=> ?_);go_simp;refine(Zi.out _).mono ?_;rintro e w' ⟨rfl,rfl⟩;go_wp2_with fail;refine hK.out _ _ hS (fun _=> ?_);clear hK K;refine af 5 hS (h:= ?_);rw[YB.out]
   refine aG 7 (fun K hK=> ?_);go_simp;refine(Zj.out _).mono ?_;rintro e w' ⟨rfl,rfl⟩;go_wp2_with fail;refine hK.out _ _ hS (fun _=> ?_);clear hK K;refine af 8 hS (h:= ?_);rw[HX2.out];refine af 9 hS (h:= ?_);rw[HV1.out];refine af 18 hS (h:= ?_);rw[HV2.out];refine af 22 hS (h:= ?_);rw[HV3.out];refine af 24 hS (h:= ?_);rw[HV4.out];refine af 25 hS (h:= ?_);refine wpAnyH_done ak ?_ _;clear kK GQ;have q1:=Pv.out;have q2:=N5.out;have q3:=jd.out;have q4:=ry.out;have q5:=CZ.out;have q6:=yM.out;have q7:=OZ.out;have q8:=HU.out;have q9:=HDT.out;have q10:=HTU.out;go_wp2_with fail;refine(pK.out _).mono ?_;rintro e w' ⟨rfl,rfl⟩;go_wp2_with fail;refine(Zk.out _).mono ?_;rintro e w' ⟨rfl,rfl⟩;go_wp2_with fail;refine(Zl.out _).mono ?_;rintro e w' ⟨rfl,rfl⟩;go_wp2_with fail;go_roundw;case rel=>exact⟨k+1,tu,a,b,c,dt,e,f,g,aa,HN.out,(by first | rfl | exact congrArg (Value.int .u32) HTU.out),rfl,rfl,rfl,(by first | rfl | exact congrArg (Value.int .u32) HDT.out),rfl,rfl,rfl,aq,lf,FW,hb.drew⟩
   case measure=>simp[intOf];omega
  ·obtain rfl:k=64:=(by omega);have hm:=HMX.out;rw[hr]at hm;have HM:=hdd hm;clear hm hr aF hk HWI HRN HSP Zh hz8;rw[show((64:Nat):Int)=64 from rfl];go_wp2_with fail;go_loopw [110] (fun i wr=> ∃(k:Nat),k≤8∧i= .int .i64 k∧wr.rowIs w.heap.size 250 8 (fun i=>if i<k then ay (ws.get i+(R8.mk a b c d e f g h).get i)else ay (ws.get i))∧wr.rowIs (w.heap.size+1+1) 250 8 (fun _=> .int .u32 0)∧Below w.heap.size w wr) (fun i _=>8-(intOf i).toNat);case atStart=>exact⟨0,aa,rfl,lf.congr fun i _=>by rw[if_neg aa],FW,hb⟩
   case round=>
    clear lf FW hb;obtain⟨k,hk,rfl,lf,FW,hb⟩:=hrel;have lI:k=0∨k=1∨k=2∨k=3∨k=4∨k=5∨k=6∨k=7∨k=8:=aa;rcases lI with rfl | rfl | rfl | rfl | rfl | rfl | rfl | rfl | rfl
    ·have hc:wr.cell? ⟨w.heap.size,0,none⟩=some (ay ws.a):=lf.cell (i:=0) aa;have hf:=lf.frozen 0;have HA:=hdd (il ws.a a);have GQ: ∀w,(Instr.index 250 (.agg #[ay a,ay b,ay c,ay d,ay e,ay f,ay g,ay h]) (.int .i64 0)).run prog w= .ok (ay a) w:=fun w=>ew ⟨a,b,c,d,e,f,g,h⟩ 0 aa w;rw[show((0:Nat):Int)=0 from rfl];generalize wN:ws.a=xx at*;have zL:=hdd wN;clear wN;go_wp2_with fail;go_roundw;case rel=>
      refine⟨1,aa,rfl,?_,FW.setOther av _,hb.setCell ae _⟩;exact(lf.set 0 _).congr fun i _=>by
       by_cases h:i=0;·subst h;rw[if_pos rfl,if_pos aa];rw[HA.out,←zL.out];rfl
       ·rw[if_neg h];by_cases h2:i<0;·rw[if_pos h2,if_pos aa]
        ·rw[if_neg h2,if_neg aa]
     case measure=>simp[intOf]
    ·have hc:wr.cell? ⟨w.heap.size,1,none⟩=some (ay ws.b):=lf.cell (i:=1) aa;have hf:=lf.frozen 1;have HA:=hdd (il ws.b b);have GQ: ∀w,(Instr.index 250 (.agg #[ay a,ay b,ay c,ay d,ay e,ay f,ay g,ay h]) (.int .i64 1)).run prog w= .ok (ay b) w:=fun w=>ew ⟨a,b,c,d,e,f,g,h⟩ 1 aa w;rw[show((1:Nat):Int)=1 from rfl];generalize wN:ws.b=xx at*;have zL:=hdd wN;clear wN;go_wp2_with fail;go_roundw;case rel=>
      refine⟨2,aa,rfl,?_,FW.setOther av _,hb.setCell ae _⟩;exact(lf.set 1 _).congr fun i _=>by
       by_cases h:i=1;·subst h;rw[if_pos rfl,if_pos aa];rw[HA.out,←zL.out];rfl
       ·rw[if_neg h];by_cases h2:i<1;·rw[if_pos h2,if_pos aa]
        ·rw[if_neg h2,if_neg aa]
     case measure=>simp[intOf]
    ·have hc:wr.cell? ⟨w.heap.size,2,none⟩=some (ay ws.c):=lf.cell (i:=2) aa;have hf:=lf.frozen 2;have HA:=hdd (il ws.c c);have GQ: ∀w,(Instr.index 250 (.agg #[ay a,ay b,ay c,ay d,ay e,ay f,ay g,ay h]) (.int .i64 2)).run prog w= .ok (ay c) w:=fun w=>ew ⟨a,b,c,d,e,f,g,h⟩ 2 aa w;rw[show((2:Nat):Int)=2 from rfl];generalize wN:ws.c=xx at*;have zL:=hdd wN;clear wN;go_wp2_with fail;go_roundw;case rel=>
      refine⟨3,aa,rfl,?_,FW.setOther av _,hb.setCell ae _⟩;exact(lf.set 2 _).congr fun i _=>by
       by_cases h:i=2;·subst h;rw[if_pos rfl,if_pos aa];rw[HA.out,←zL.out];rfl
       ·rw[if_neg h];by_cases h2:i<2;·rw[if_pos h2,if_pos aa]
        ·rw[if_neg h2,if_neg aa]
     case measure=>simp[intOf]
    ·have hc:wr.cell? ⟨w.heap.size,3,none⟩=some (ay ws.d):=lf.cell (i:=3) aa;have hf:=lf.frozen 3;have HA:=hdd (il ws.d d);have GQ: ∀w,(Instr.index 250 (.agg #[ay a,ay b,ay c,ay d,ay e,ay f,ay g,ay h]) (.int .i64 3)).run prog w= .ok (ay d) w:=fun w=>ew ⟨a,b,c,d,e,f,g,h⟩ 3 aa w;rw[show((3:Nat):Int)=3 from rfl];generalize wN:ws.d=xx at*;have zL:=hdd wN;clear wN;go_wp2_with fail;go_roundw;case rel=>
      refine⟨4,aa,rfl,?_,FW.setOther av _,hb.setCell ae _⟩;exact(lf.set 3 _).congr fun i _=>by
       by_cases h:i=3;·subst h;rw[if_pos rfl,if_pos aa];rw[HA.out,←zL.out];rfl
       ·rw[if_neg h];by_cases h2:i<3;·rw[if_pos h2,if_pos aa]
        ·rw[if_neg h2,if_neg aa]
     case measure=>simp[intOf]
    ·have hc:wr.cell? ⟨w.heap.size,4,none⟩=some (ay ws.e):=lf.cell (i:=4) aa;have hf:=lf.frozen 4;have HA:=hdd (il ws.e e);have GQ: ∀w,(Instr.index 250 (.agg #[ay a,ay b,ay c,ay d,ay e,ay f,ay g,ay h]) (.int .i64 4)).run prog w= .ok (ay e) w:=fun w=>ew ⟨a,b,c,d,e,f,g,h⟩ 4 aa w;rw[show((4:Nat):Int)=4 from rfl];generalize wN:ws.e=xx at*;have zL:=hdd wN;clear wN;go_wp2_with fail;go_roundw;case rel=>
      refine⟨5,aa,rfl,?_,FW.setOther av _,hb.setCell ae _⟩;exact(lf.set 4 _).congr fun i _=>by
       by_cases h:i=4;·subst h;rw[if_pos rfl,if_pos aa];rw[HA.out,←zL.out];rfl
       ·rw[if_neg h];by_cases h2:i<4;·rw[if_pos h2,if_pos aa]
        ·rw[if_neg h2,if_neg aa]
     case measure=>simp[intOf]
    ·have hc:wr.cell? ⟨w.heap.size,5,none⟩=some (ay ws.f):=lf.cell (i:=5) aa;have hf:=lf.frozen 5;have HA:=hdd (il ws.f f);have GQ: ∀w,(Instr.index 250 (.agg #[ay a,ay b,ay c,ay d,ay e,ay f,ay g,ay h]) (.int .i64 5)).run prog w= .ok (ay f) w:=fun w=>ew ⟨a,b,c,d,e,f,g,h⟩ 5 aa w;rw[show((5:Nat):Int)=5 from rfl];generalize wN:ws.f=xx at*;have zL:=hdd wN;clear wN;go_wp2_with fail;go_roundw;case rel=>
      refine⟨6,aa,rfl,?_,FW.setOther av _,hb.setCell ae _⟩;exact(lf.set 5 _).congr fun i _=>by
       by_cases h:i=5;·subst h;rw[if_pos rfl,if_pos aa];rw[HA.out,←zL.out];rfl
       ·rw[if_neg h];by_cases h2:i<5;·rw[if_pos h2,if_pos aa]
        ·rw[if_neg h2,if_neg aa]
     case measure=>simp[intOf]
    ·have hc:wr.cell? ⟨w.heap.size,6,none⟩=some (ay ws.g):=lf.cell (i:=6) aa;have hf:=lf.frozen 6;have HA:=hdd (il ws.g g);have GQ: ∀w,(Instr.index 250 (.agg #[ay a,ay b,ay c,ay d,ay e,ay f,ay g,ay h]) (.int .i64 6)).run prog w= .ok (ay g) w:=fun w=>ew ⟨a,b,c,d,e,f,g,h⟩ 6 aa w;rw[show((6:Nat):Int)=6 from rfl];generalize wN:ws.g=xx at*;have zL:=hdd wN;clear wN;go_wp2_with fail;go_roundw;case rel=>
      refine⟨7,aa,rfl,?_,FW.setOther av _,hb.setCell ae _⟩;exact(lf.set 6 _).congr fun i _=>by
       by_cases h:i=6;·subst h;rw[if_pos rfl,if_pos aa];rw[HA.out,←zL.out];rfl
       ·rw[if_neg h];by_cases h2:i<6;·rw[if_pos h2,if_pos aa]
        ·rw[if_neg h2,if_neg aa]
     case measure=>simp[intOf]
    ·have hc:wr.cell? ⟨w.heap.size,7,none⟩=some (ay ws.h):=lf.cell (i:=7) aa;have hf:=lf.frozen 7;have HA:=hdd (il ws.h h);have GQ: ∀w,(Instr.index 250 (.agg #[ay a,ay b,ay c,ay d,ay e,ay f,ay g,ay h]) (.int .i64 7)).run prog w= .ok (ay h) w:=fun w=>ew ⟨a,b,c,d,e,f,g,h⟩ 7 aa w;rw[show((7:Nat):Int)=7 from rfl];generalize wN:ws.h=xx at*;have zL:=hdd wN;clear wN;go_wp2_with fail;go_roundw;case rel=>
      refine⟨8,aa,rfl,?_,FW.setOther av _,hb.setCell ae _⟩;exact(lf.set 7 _).congr fun i _=>by
       by_cases h:i=7;·subst h;rw[if_pos rfl,if_pos aa];rw[HA.out,←zL.out];rfl
       ·rw[if_neg h];by_cases h2:i<7;·rw[if_pos h2,if_pos aa]
        ·rw[if_neg h2,if_neg aa]
     case measure=>simp[intOf]
    ·obtain⟨cs,hcs,hn,hv⟩:=lf;obtain⟨os,wH,pM,hvo⟩:=FW;have Pw: ∀i,i<8→cs[i]? =some (ay ((ws.add ⟨a,b,c,d,e,f,g,h⟩).get i)):=fun i hi=>(by rw[add_get];rw[hv i hi];simp only[hi,if_true]);obtain rfl:=UB _ hn Pw;rw[←HM.out]at hcs;rw[show((8:Nat):Int)=8 from rfl];clear hv hvo hn Pw HM HMX;go_wp2_with (first | (refine wpList_load_row rfl 250 _ rfl w.heap.size rfl 250 (np ws ax).agg _ _ hcs underlying250 rfl ?c1 ?_) | (refine wpList_store_row rfl 250 _ _ rfl (w.heap.size+1+1) (np ws ax).agg rfl rfl 250 os wH ?c2 ?c3 ?c4 ?_))
     case c1=>rw[Gb];rfl
     case c2=>rw[Gb];rfl
     case c3=>rw[pM];rfl
     case c4=>exact wK (np ws ax)
     refine bodyPost_ret (results_cell_row rfl _ _ (w.heap.size+1+1) 250 (np ws ax).agg _ _ rfl (setRow_heap _ _ _ _ _ _ wH) underlying250 rfl p9) rfl ?_;exact⟨rfl,below_setRow hb aa _⟩
end Go.Proofs.YtgfpocdiojifoaaGreatDoor
