import Derived.Deep.RegionHeld3
import Derived.Test.YtfcaoggfnkhfiaaGreatDoorZ02
namespace Go.Proofs.YtfcaoggfnkhfiaaGreatDoor
set_option maxRecDepth 100000
set_option maxHeartbeats 8000000
open Go.RowKit Go.Proofs.Tryz
variable{cs:Array Value}
theorem wq(a b:BitVec 32):bits .xor .u32 (a.toNat:Int) (b.toNat:Int)=((a ^^^ b).toNat:Int):=by rw[u32_xor_nat _ _ a.isLt b.isLt,BitVec.toNat_xor]
theorem Ro(a b:BitVec 32):bits .and .u32 (a.toNat:Int) (b.toNat:Int)=((a &&& b).toNat:Int):=by rw[u32_and_nat _ _ a.isLt b.isLt,BitVec.toNat_and]
theorem alr(a b:BitVec 32):bits .or .u32 (a.toNat:Int) (b.toNat:Int)=((a ||| b).toNat:Int):=by rw[u32_or_nat _ _ a.isLt b.isLt,BitVec.toNat_or]
theorem xW(a b:BitVec 32):IntKind.u32.wrap ((a.toNat:Int)+(b.toNat:Int))=((a+b).toNat:Int):=by rw[IntKind.wrap_u32,BitVec.toNat_add];omega
def om(n:Nat)(x:BitVec 32):BitVec 32:=(x <<< (32-n)) ||| (x >>> n)
theorem ju(n:Nat)(x:BitVec 32):bits .or .u32 ((x.toNat:Int)*((2^(32-n):Nat):Int)%4294967296) ((x.toNat:Int)/((2^n:Nat):Int))=((om n x).toNat:Int):=by
 have h1:(x.toNat:Int)*((2^(32-n):Nat):Int)%4294967296=((x <<< (32-n)).toNat:Int):=by rw[BitVec.toNat_shiftLeft,Nat.shiftLeft_eq];show _=((x.toNat*2^(32-n)%4294967296:Nat):Int);rw[Int.natCast_emod,Int.natCast_mul];rfl
 have h2:(x.toNat:Int)/((2^n:Nat):Int)=((x >>> n).toNat:Int):=by rw[BitVec.toNat_ushiftRight,Nat.shiftRight_eq_div_pow,Int.natCast_ediv]
 rw[h1,h2,alr];rfl
theorem Xa(x:BitVec 32)(w:World):Calls prog 239 #[.int .u32 x.toNat,.int .i64 2] w fun e w'=>e= .returned (.int .u32 (om 2 x).toNat)∧w=w':=by have hx:=x.isLt;have e1:bits .and .u64 (IntKind.u64.wrap (-2)) 31=30:=ak;have hr:=ju 2 x;simp only[Nat.reducePow,Nat.reduceSub,Int.cast_ofNat_Int]at hr;go_enter func239,ntmps239;go_wp2;go_ret;exact⟨rfl,rfl⟩
theorem Xb(x:BitVec 32)(w:World):Calls prog 239 #[.int .u32 x.toNat,.int .i64 6] w fun e w'=>e= .returned (.int .u32 (om 6 x).toNat)∧w=w':=by have hx:=x.isLt;have e1:bits .and .u64 (IntKind.u64.wrap (-6)) 31=26:=ak;have hr:=ju 6 x;simp only[Nat.reducePow,Nat.reduceSub,Int.cast_ofNat_Int]at hr;go_enter func239,ntmps239;go_wp2;go_ret;exact⟨rfl,rfl⟩
theorem Xc(x:BitVec 32)(w:World):Calls prog 239 #[.int .u32 x.toNat,.int .i64 7] w fun e w'=>e= .returned (.int .u32 (om 7 x).toNat)∧w=w':=by have hx:=x.isLt;have e1:bits .and .u64 (IntKind.u64.wrap (-7)) 31=25:=ak;have hr:=ju 7 x;simp only[Nat.reducePow,Nat.reduceSub,Int.cast_ofNat_Int]at hr;go_enter func239,ntmps239;go_wp2;go_ret;exact⟨rfl,rfl⟩
theorem Rp(x:BitVec 32)(w:World):Calls prog 239 #[.int .u32 x.toNat,.int .i64 11] w fun e w'=>e= .returned (.int .u32 (om 11 x).toNat)∧w=w':=by have hx:=x.isLt;have e1:bits .and .u64 (IntKind.u64.wrap (-11)) 31=21:=ak;have hr:=ju 11 x;simp only[Nat.reducePow,Nat.reduceSub,Int.cast_ofNat_Int]at hr;go_enter func239,ntmps239;go_wp2;go_ret;exact⟨rfl,rfl⟩
theorem Rq(x:BitVec 32)(w:World):Calls prog 239 #[.int .u32 x.toNat,.int .i64 13] w fun e w'=>e= .returned (.int .u32 (om 13 x).toNat)∧w=w':=by have hx:=x.isLt;have e1:bits .and .u64 (IntKind.u64.wrap (-13)) 31=19:=ak;have hr:=ju 13 x;simp only[Nat.reducePow,Nat.reduceSub,Int.cast_ofNat_Int]at hr;go_enter func239,ntmps239;go_wp2;go_ret;exact⟨rfl,rfl⟩
theorem Rr(x:BitVec 32)(w:World):Calls prog 239 #[.int .u32 x.toNat,.int .i64 17] w fun e w'=>e= .returned (.int .u32 (om 17 x).toNat)∧w=w':=by have hx:=x.isLt;have e1:bits .and .u64 (IntKind.u64.wrap (-17)) 31=15:=ak;have hr:=ju 17 x;simp only[Nat.reducePow,Nat.reduceSub,Int.cast_ofNat_Int]at hr;go_enter func239,ntmps239;go_wp2;go_ret;exact⟨rfl,rfl⟩
theorem Rs(x:BitVec 32)(w:World):Calls prog 239 #[.int .u32 x.toNat,.int .i64 18] w fun e w'=>e= .returned (.int .u32 (om 18 x).toNat)∧w=w':=by have hx:=x.isLt;have e1:bits .and .u64 (IntKind.u64.wrap (-18)) 31=14:=ak;have hr:=ju 18 x;simp only[Nat.reducePow,Nat.reduceSub,Int.cast_ofNat_Int]at hr;go_enter func239,ntmps239;go_wp2;go_ret;exact⟨rfl,rfl⟩
theorem Rt(x:BitVec 32)(w:World):Calls prog 239 #[.int .u32 x.toNat,.int .i64 19] w fun e w'=>e= .returned (.int .u32 (om 19 x).toNat)∧w=w':=by have hx:=x.isLt;have e1:bits .and .u64 (IntKind.u64.wrap (-19)) 31=13:=ak;have hr:=ju 19 x;simp only[Nat.reducePow,Nat.reduceSub,Int.cast_ofNat_Int]at hr;go_enter func239,ntmps239;go_wp2;go_ret;exact⟨rfl,rfl⟩
theorem Ru(x:BitVec 32)(w:World):Calls prog 239 #[.int .u32 x.toNat,.int .i64 22] w fun e w'=>e= .returned (.int .u32 (om 22 x).toNat)∧w=w':=by have hx:=x.isLt;have e1:bits .and .u64 (IntKind.u64.wrap (-22)) 31=10:=ak;have hr:=ju 22 x;simp only[Nat.reducePow,Nat.reduceSub,Int.cast_ofNat_Int]at hr;go_enter func239,ntmps239;go_wp2;go_ret;exact⟨rfl,rfl⟩
theorem Rv(x:BitVec 32)(w:World):Calls prog 239 #[.int .u32 x.toNat,.int .i64 25] w fun e w'=>e= .returned (.int .u32 (om 25 x).toNat)∧w=w':=by have hx:=x.isLt;have e1:bits .and .u64 (IntKind.u64.wrap (-25)) 31=7:=ak;have hr:=ju 25 x;simp only[Nat.reducePow,Nat.reduceSub,Int.cast_ofNat_Int]at hr;go_enter func239,ntmps239;go_wp2;go_ret;exact⟨rfl,rfl⟩
abbrev aX(x:BitVec 32):Value:= .int .u32 (x.toNat:Nat)
def be(a b c d:UInt8):BitVec 32:=BitVec.ofNat 32 (a.toNat*16777216+b.toNat*65536+c.toNat*256+d.toNat)
theorem aaG(a b c d:UInt8):(be a b c d).toNat=a.toNat*16777216+b.toNat*65536+c.toNat*256+d.toNat:=by have h1:=a.toNat_lt;have h2:=b.toNat_lt;have h3:=c.toNat_lt;have h4:=d.toNat_lt;unfold be;rw[BitVec.toNat_ofNat];omega
theorem mC(a b k:Nat)(ha:a<2^k):b*2^k ||| a=b*2^k+a:=by rw[←Nat.shiftLeft_eq,←Nat.shiftLeft_add_eq_or_of_lt ha]
theorem aeP(a b c d:UInt8):
  bits .or .u32 (bits .or .u32 (bits .or .u32 (IntKind.u32.wrap (IntKind.u32.wrap (a.toNat:Int)*16777216)) (IntKind.u32.wrap (IntKind.u32.wrap (b.toNat:Int)*65536))) (IntKind.u32.wrap (IntKind.u32.wrap (c.toNat:Int)*256))) (IntKind.u32.wrap (d.toNat:Int))=((be a b c d).toNat:Int):=by
 have h1:=a.toNat_lt;have h2:=b.toNat_lt;have h3:=c.toNat_lt;have h4:=d.toNat_lt;rw[aaG];generalize a.toNat=a at*;generalize b.toNat=b at*;generalize c.toNat=c at*;generalize d.toNat=d at*;have w0: ∀x:Nat,x<256→IntKind.u32.wrap (x:Int)=(x:Int):=fun x hx=>eE;rw[w0 a aa,w0 b aa,w0 c aa,w0 d aa];have e1:IntKind.u32.wrap ((a:Int)*16777216)=((a*2^24:Nat):Int):=eE;have e2:IntKind.u32.wrap ((b:Int)*65536)=((b*2^16:Nat):Int):=eE;have e3:IntKind.u32.wrap ((c:Int)*256)=((c*2^8:Nat):Int):=eE;have o1:a*2^24 ||| b*2^16=(a*256+b)*2^16:=by rw[mC _ _ 24 aa];omega
 have o2:(a*256+b)*2^16 ||| c*2^8=(a*65536+b*256+c)*2^8:=by rw[mC _ _ 16 aa];omega
 have o3:(a*65536+b*256+c)*2^8 ||| d=(a*65536+b*256+c)*2^8+d:=mC _ _ 8 aa;rw[e1,e2,e3,u32_or_nat _ _ aa aa,o1,u32_or_nat _ _ aa aa,o2,u32_or_nat _ _ aa aa,o3];omega
def s0(x:BitVec 32):BitVec 32:=om 7 x ^^^ om 18 x ^^^ (x >>> 3)
def s1(x:BitVec 32):BitVec 32:=om 17 x ^^^ om 19 x ^^^ (x >>> 10)
def aaH(ay:List UInt8)(i:Nat):BitVec 32:=be (ay.getD (4*i) 0) (ay.getD (4*i+1) 0) (ay.getD (4*i+2) 0) (ay.getD (4*i+3) 0)
def BW(ay:List UInt8)(l:List (BitVec 32))(n:Nat):BitVec 32:=if n<16 then aaH ay n else l.getD (n-16) 0+s0 (l.getD (n-15) 0)+l.getD (n-7) 0+s1 (l.getD (n-2) 0)
def eU(ay:List UInt8):Nat→List (BitVec 32)
 | 0=>[]
 | n+1=>eU ay n++[BW ay (eU ay n) n]
theorem xX(ay:List UInt8)(n:Nat):(eU ay n).length=n:=by
 induction n with
 | zero=>rfl
 | succ n ih=>simp[eU,ih]
def kQ(ay:List UInt8)(n i:Nat):Value:=aX ((eU ay n).getD i 0)
theorem BZ(ay:List UInt8)(n:Nat): ∀i,(if i=n then aX (BW ay (eU ay n) n)else kQ ay n i)=kQ ay (n+1) i:=by
 intro i;have hl:=xX ay n;unfold kQ;simp only[eU];by_cases h:i=n;·subst h;rw[if_pos rfl,List.getD_eq_getElem?_getD,List.getElem?_append_right aa,hl,Nat.sub_self];rfl
 ·rw[if_neg h,List.getD_eq_getElem?_getD,List.getD_eq_getElem?_getD];by_cases h2:i<n;·rw[List.getElem?_append_left aa]
  ·rw[List.getElem?_eq_none aa,List.getElem?_eq_none av]
def words(ay:List UInt8):Array Value:=((List.range 64).map fun i=>kQ ay 64 i).toArray
def em:Array Value:=Array.replicate 64 (.int .u32 0)
theorem ZY:(prog.info? 305).map (fun i=>(i.zero,i.size))=some (some (.agg em),64):=ai
theorem xY:(prog.info? 305).map (·.size)=some 64:=ai
theorem FI(ay:List UInt8)(w:World):(w.alloc (.cells em 305)).rowIs w.heap.size 305 64 (kQ ay 0):=by
 have h:=World.rowIs_alloc w em 305 (kQ ay 0) (fun i hi=>by
  unfold em at hi ⊢;rw[Array.getElem?_replicate,if_pos iZ];simp[kQ,eU])
 have e:em.size=64:=by simp[em]
 rwa [e]at h
theorem Rw(ay:List UInt8)(hn:cs.size=64)(hv: ∀i,i<64→cs[i]? =some (kQ ay 64 i)):cs=words ay:=by
 apply Array.ext_getElem?;intro i;by_cases hi:i<64;·rw[hv i hi];unfold words;rw[List.getElem?_toArray,List.getElem?_map,List.getElem?_range hi];rfl
 ·rw[Array.getElem?_eq_none aa,Array.getElem?_eq_none (by simp[words];omega)]
theorem B5(ay:List UInt8):(words ay).all (·.oneCell')=true:=by unfold words;rw[List.all_toArray,List.all_map,List.all_eq_true];intro x _;rfl
theorem M5(ay:List UInt8)(l:List (BitVec 32))(n:Nat)(h:16≤n):BW ay l n=l.getD (n-16) 0+s0 (l.getD (n-15) 0)+l.getD (n-7) 0+s1 (l.getD (n-2) 0):=by unfold BW;rw[if_neg aa]
theorem LA(x:BitVec 32)(n q:Nat)(hq:q=2^n):(x.toNat:Int)/(q:Int)=((x >>> n).toNat:Int):=by subst hq;rw[BitVec.toNat_ushiftRight,Nat.shiftRight_eq_div_pow,Int.natCast_ediv]
theorem aaI(x:BitVec 32):bits .xor .u32 (bits .xor .u32 ((om 7 x).toNat:Int) ((om 18 x).toNat:Int)) ((x.toNat:Int)/8)=((s0 x).toNat:Int):=by have h:(x.toNat:Int)/(8:Int)=((x >>> 3).toNat:Int):=LA x 3 8 rfl;rw[h,wq,wq];rfl
theorem aaJ(x:BitVec 32):bits .xor .u32 (bits .xor .u32 ((om 17 x).toNat:Int) ((om 19 x).toNat:Int)) ((x.toNat:Int)/1024)=((s1 x).toNat:Int):=by have h:(x.toNat:Int)/(1024:Int)=((x >>> 10).toNat:Int):=LA x 10 1024 rfl;rw[h,wq,wq];rfl
theorem aaK(ay:List UInt8)(i:Nat)(h:i<ay.length):(ay.map B8).toArray[i]? =some (B8 (ay.getD i 0)):=by rw[List.getElem?_toArray,List.getElem?_map,List.getElem?_eq_getElem h];simp[List.getD,h]
theorem I5(ay:List UInt8)(mY:ay.length=64)(w:World):
  Calls prog 238 #[.agg (ay.map B8).toArray] w fun e w'=>e= .returned (.agg (words ay))∧Below w.heap.size w w':=by
 have hz:=(zero_of_info ZY).1;have hcell: ∀i,i<64→(ay.map B8).toArray[i]? =some (B8 (ay.getD i 0)):=fun i hi=>aaK ay i aa;have HC:=ae hcell;clear hcell;have HW:=ae (fun k (h:k<16)=>(show BW ay (eU ay k) k=be (ay.getD (4*k) 0) (ay.getD (4*k+1) 0) (ay.getD (4*k+2) 0) (ay.getD (4*k+3) 0) by unfold BW;rw[if_pos h];rfl));have oq:(ay.map B8).toArray.size=64:=by simpa using mY
 generalize gZ:(ay.map B8).toArray=bl at*;have iN:=ae oq;clear oq;have HBL:=ae gZ;clear gZ;go_enter func238,ntmps238;go_wp2_with fail;have eA:(w.alloc (.cells bl 277)).heap.size=w.heap.size+1:=ag;have eB:((w.alloc (.cells bl 277)).alloc (.cells em 305)).heap.size=w.heap.size+1+1:=ag;have rb0:(((w.alloc (.cells bl 277)).alloc (.cells em 305)).alloc (.cells em 305)).rowIs w.heap.size 277 64 (fun i=>B8 (ay.getD i 0)):=by have h:=World.rowIs_alloc w bl 277 (fun i=>B8 (ay.getD i 0)) (fun i hi=>HC.out i (by rw[←iN.out];exact hi));rw[iN.out]at h;exact(h.alloc _).alloc _
 have r00:(((w.alloc (.cells bl 277)).alloc (.cells em 305)).alloc (.cells em 305)).rowIs (w.heap.size+1) 305 64 (kQ ay 0):=by have h:=FI ay (w.alloc (.cells bl 277));rw[eA]at h;exact h.alloc _
 have r10:(((w.alloc (.cells bl 277)).alloc (.cells em 305)).alloc (.cells em 305)).rowIs (w.heap.size+1+1) 305 64 (kQ ay 0):=by have h:=FI ay ((w.alloc (.cells bl 277)).alloc (.cells em 305));rw[eB]at h;exact h
 have oo:Below w.heap.size w (((w.alloc (.cells bl 277)).alloc (.cells em 305)).alloc (.cells em 305)):=((ar).alloc ag _).alloc av _;clear eA eB HC;generalize((w.alloc (.cells bl 277)).alloc (.cells em 305)).alloc (.cells em 305)=w1 at*;generalize kz:w.heap.size+1=g1 at*;generalize gI:g1+1=g2 at*;have xT:w.heap.size<g1:=aa;have wY:g1<g2:=aa;have alt:g2≠w.heap.size:=aa;clear kz gI;go_loopw [10] (fun i wr=> ∃k:Nat,k≤16∧i= .int .i64 k∧wr.rowIs w.heap.size 277 64 (fun i=>B8 (ay.getD i 0))∧wr.rowIs g1 305 64 (kQ ay 0)∧wr.rowIs g2 305 64 (kQ ay k)∧Below w.heap.size w wr) (fun i _=>16-(intOf i).toNat);case atStart=>exact⟨0,aa,rfl,rb0,r00,r10,oo⟩
 case round=>
  clear rb0 r00 r10 oo;obtain⟨k,hk,rfl,rb,r0,r1,hb⟩:=hrel;by_cases aH:k<16
  ·have Dz:wr.cell? ⟨w.heap.size,4*k,none⟩=some (B8 (ay.getD (4*k) 0)):=rb.cell aa;have cC:wr.cell? ⟨w.heap.size,4*k+1,none⟩=some (B8 (ay.getD (4*k+1) 0)):=rb.cell aa;have cU:wr.cell? ⟨w.heap.size,4*k+2,none⟩=some (B8 (ay.getD (4*k+2) 0)):=rb.cell aa;have oj:wr.cell? ⟨w.heap.size,4*k+3,none⟩=some (B8 (ay.getD (4*k+3) 0)):=rb.cell aa;have hn:=HW.out k aH;generalize ay.getD (4*k) 0=b0 at*;generalize ay.getD (4*k+1) 0=b1 at*;generalize ay.getD (4*k+2) 0=b2 at*;generalize ay.getD (4*k+3) 0=b3 at*;have hw:=r1.cell (i:=k) aa;have hf:=r1.frozen k;have ZZ:=ae (aeP b0 b1 b2 b3);generalize be b0 b1 b2 b3=v at*;have HN:=ae hn;clear hn;have nb: ∀j,(wr.setCell ⟨g2,k,none⟩ (aX v)).drew.cell? ⟨w.heap.size,j,none⟩=wr.cell? ⟨w.heap.size,j,none⟩:=fun j=>World.cell?_setCell_other _ _ _ _ (by intro e;injection e with e;exact alt e)
   have xZ:Hid ((wr.setCell ⟨g2,k,none⟩ (aX v)).drew.cell? ⟨w.heap.size,4*k,none⟩=some (B8 b0)∧(wr.setCell ⟨g2,k,none⟩ (aX v)).drew.cell? ⟨w.heap.size,4*k+1,none⟩=some (B8 b1)∧(wr.setCell ⟨g2,k,none⟩ (aX v)).drew.cell? ⟨w.heap.size,4*k+2,none⟩=some (B8 b2)∧(wr.setCell ⟨g2,k,none⟩ (aX v)).drew.cell? ⟨w.heap.size,4*k+3,none⟩=some (B8 b3)):=
    ae ⟨(nb _).trans Dz,(nb _).trans cC,(nb _).trans cU,(nb _).trans oj⟩
   have k0:wr.drew.cell? ⟨w.heap.size,4*k,none⟩=some (B8 b0):=Dz;have k1:wr.drew.cell? ⟨w.heap.size,4*k+1,none⟩=some (B8 b1):=cC;have k2:wr.drew.cell? ⟨w.heap.size,4*k+2,none⟩=some (B8 b2):=cU;have k3:wr.drew.cell? ⟨w.heap.size,4*k+3,none⟩=some (B8 b3):=oj;clear nb Dz cC cU oj;go_wp2_with fail;refine wp_region_held_drew (S:=fun w'=>w'.cell? ⟨w.heap.size,4*k,none⟩=some (B8 b0)∧w'.cell? ⟨w.heap.size,4*k+1,none⟩=some (B8 b1)∧w'.cell? ⟨w.heap.size,4*k+2,none⟩=some (B8 b2)∧w'.cell? ⟨w.heap.size,4*k+3,none⟩=some (B8 b3)) ai ⟨k0,k1,k2,k3⟩ (fun hS=> ?_);refine af 0 hS (h:=af 1 hS (h:=cw 2 rfl (fun w hSw=>by have q:=IntWalk.i64_in (4*(k:Int)) aa;go_simp;all_goals(with_reducible rfl)) hS (h:=cw 3 rfl (fun w hSw=>by have q0:(0:Int)≤4*(k:Int):=aa;have q1:4*(k:Int)<64:=aa;have q2:(4*(k:Int)).toNat=4*k:=aa;go_simp;all_goals(with_reducible rfl)) hS (h:=aL 4 hS (h:=af 5 hS (h:=af 6 hS (h:=af 7 hS (h:=cw 8 rfl (fun w hSw=>by have q:=IntWalk.i64_in (4*(k:Int)) aa;go_simp;all_goals(with_reducible rfl)) hS (h:=cw 9 rfl (fun w hSw=>by have q:=IntWalk.i64_in (4*(k:Int)+1) aa;go_simp;all_goals(with_reducible rfl)) hS (h:=cw 10 rfl (fun w hSw=>by have q0:(0:Int)≤4*(k:Int)+1:=aa;have q1:4*(k:Int)+1<64:=aa;have q2:(4*(k:Int)+1).toNat=4*k+1:=aa;go_simp;all_goals(with_reducible rfl)) hS (h:=aL 11 hS (h:= ?_))))))))))));refine af 12 hS (h:=af 13 hS (h:=af 14 hS (h:=af 15 hS (h:=cw 16 rfl (fun w hSw=>by have q:=IntWalk.i64_in (4*(k:Int)) aa;go_simp;all_goals(with_reducible rfl)) hS (h:=cw 17 rfl (fun w hSw=>by have q:=IntWalk.i64_in (4*(k:Int)+2) aa;go_simp;all_goals(with_reducible rfl)) hS (h:=cw 18 rfl (fun w hSw=>by have q0:(0:Int)≤4*(k:Int)+2:=aa;have q1:4*(k:Int)+2<64:=aa;have q2:(4*(k:Int)+2).toNat=4*k+2:=aa;go_simp;all_goals(with_reducible rfl)) hS (h:=aL 19 hS (h:=af 20 hS (h:=af 21 hS (h:=af 22 hS (h:=af 23 hS (h:= ?_))))))))))));refine cw 24 rfl (fun w hSw=>by have q:=IntWalk.i64_in (4*(k:Int)) aa;go_simp;all_goals(with_reducible rfl)) hS (h:=cw 25 rfl (fun w hSw=>by have q:=IntWalk.i64_in (4*(k:Int)+3) aa;go_simp;all_goals(with_reducible rfl)) hS (h:=cw 26 rfl (fun w hSw=>by have q0:(0:Int)≤4*(k:Int)+3:=aa;have q1:4*(k:Int)+3<64:=aa;have q2:(4*(k:Int)+3).toNat=4*k+3:=aa;go_simp;all_goals(with_reducible rfl)) hS (h:=aL 27 hS (h:=af 28 hS (h:=af 29 hS (h:= ?_))))));rw[ZZ.out];refine cw 30 rfl (fun w hSw=>by have q0:(0:Int)≤(k:Int):=aa;have q1:(k:Int)<64:=aa;go_simp;all_goals(with_reducible rfl)) hS (h:= ?_);refine aC 31 (fun K hK=> ?_);go_simp;refine hK.out _ _ xZ.out (fun _=> ?_);clear hK K;refine wpAnyH_done ai ?_ _;go_wp2_with fail;go_roundw;case rel=>refine⟨k+1,aa,aE,rb.setOther av _,r0.setOther av _,?_,(hb.setCell av _).drew⟩;exact(r1.set k _).congr fun i _=>by rw[←HN.out];exact BZ ay k i
   case measure=>simp[intOf];omega
  ·obtain rfl:k=16:=(by omega);clear aH rb HW hk;rw[show((16:Nat):Int)=16 from rfl];go_wp2_with fail;go_loopw [5] (fun i wr=> ∃k:Nat,16≤k∧k≤64∧i= .int .i64 k∧wr.rowIs g1 305 64 (kQ ay 0)∧wr.rowIs g2 305 64 (kQ ay k)∧Below w.heap.size w wr) (fun i _=>64-(intOf i).toNat);case atStart=>exact⟨16,aa,aa,rfl,r0,r1,hb⟩
   case round=>
    clear r0 r1 hb;obtain⟨k,alu,hk,rfl,r0,r1,hb⟩:=hrel;by_cases aH:k<64
    ·have cC:_:=r1.cell (i:=k-15) aa;have cU:_:=r1.cell (i:=k-2) aa;have oj:_:=r1.cell (i:=k-16) aa;have qE:_:=r1.cell (i:=k-7) aa;have hw:=r1.cell (i:=k) aa;have hf:=r1.frozen k;have hn:=M5 ay (eU ay k) k alu;unfold kQ at cC cU oj qE;generalize(eU ay k).getD (k-15) 0=x at*;generalize(eU ay k).getD (k-2) 0=y at*;generalize(eU ay k).getD (k-16) 0=a at*;generalize(eU ay k).getD (k-7) 0=b at*;have HS0:=ae (aaI x);have sk:=ae (aaJ y);generalize s0 x=p at*;generalize s1 y=q at*;have mg:=ae hn;have Z0:=ae (xW a p);generalize a+p=v1 at*;have nR:=ae (xW v1 b);generalize v1+b=v2 at*;have HN3:=ae (xW v2 q);generalize v2+q=v at*;clear hn;have nb: ∀j,j<k→(wr.drew.setCell ⟨g2,k,none⟩ (aX v)).drew.cell? ⟨g2,j,none⟩=wr.cell? ⟨g2,j,none⟩:=fun j hj=>World.cell?_setCell_other _ _ _ _ (by intro e;injection e with _ e;omega)
     have xZ:Hid ((wr.drew.setCell ⟨g2,k,none⟩ (aX v)).drew.cell? ⟨g2,k-16,none⟩=some (aX a)∧(wr.drew.setCell ⟨g2,k,none⟩ (aX v)).drew.cell? ⟨g2,k-7,none⟩=some (aX b)):=
      ae ⟨(nb _ aa).trans oj,(nb _ aa).trans qE⟩
     have k1:wr.drew.cell? ⟨g2,k-15,none⟩=some (aX x):=cC;have k2:wr.drew.cell? ⟨g2,k-2,none⟩=some (aX y):=cU;have k3:wr.drew.drew.cell? ⟨g2,k-16,none⟩=some (aX a):=oj;have k4:wr.drew.drew.cell? ⟨g2,k-7,none⟩=some (aX b):=qE;clear nb cC cU oj qE;go_wp2_with fail;refine wp_region_held_drew (S:=fun w'=>w'.cell? ⟨g2,k-15,none⟩=some (aX x)∧w'.cell? ⟨g2,k-2,none⟩=some (aX y)) ai ⟨k1,k2⟩ (fun hS=> ?_);refine af 0 hS (h:=cw 1 rfl (fun w hSw=>by have q:=IntWalk.i64_in ((k:Int)-15) aa;go_simp;all_goals(with_reducible rfl)) hS (h:=cw 2 rfl (fun w hSw=>by have q0:(0:Int)≤(k:Int)-15:=aa;have q1:(k:Int)-15<64:=aa;have q2:((k:Int)-15).toNat=k-15:=aa;have q3:(15:Int)≤(k:Int):=aa;go_simp;all_goals(with_reducible rfl)) hS (h:=aL 3 hS (h:=af 4 hS (h:=cw 5 rfl (fun w hSw=>by have q:=IntWalk.i64_in ((k:Int)-2) aa;go_simp;all_goals(with_reducible rfl)) hS (h:=cw 6 rfl (fun w hSw=>by have q0:(0:Int)≤(k:Int)-2:=aa;have q1:(k:Int)-2<64:=aa;have q2:((k:Int)-2).toNat=k-2:=aa;have q3:(2:Int)≤(k:Int):=aa;go_simp;all_goals(with_reducible rfl)) hS (h:=aL 7 hS (h:=af 8 hS (h:=af 9 hS (h:= ?_))))))))));refine wpAnyH_done ai ?_ _;go_wp2_with fail;refine(Xc x _).mono ?_;rintro e w' ⟨rfl,rfl⟩;go_wp2_with fail;refine(Rs x _).mono ?_;rintro e w' ⟨rfl,rfl⟩;go_wp2_with fail;refine(Rr y _).mono ?_;rintro e w' ⟨rfl,rfl⟩;go_wp2_with fail;refine(Rt y _).mono ?_;rintro e w' ⟨rfl,rfl⟩;go_wp2_with fail;rw[HS0.out,sk.out];refine wp_region_held_drew (S:=fun w'=>w'.cell? ⟨g2,k-16,none⟩=some (aX a)∧w'.cell? ⟨g2,k-7,none⟩=some (aX b)) ai ⟨k3,k4⟩ (fun hS=> ?_);refine af 0 hS (h:=af 1 hS (h:=cw 2 rfl (fun w hSw=>by have q:=IntWalk.i64_in ((k:Int)-16) aa;go_simp;all_goals(with_reducible rfl)) hS (h:=cw 3 rfl (fun w hSw=>by have q0:(0:Int)≤(k:Int)-16:=aa;have q1:(k:Int)-16<64:=aa;have q2:((k:Int)-16).toNat=k-16:=aa;have q3:(16:Int)≤(k:Int):=aa;go_simp;all_goals(with_reducible rfl)) hS (h:=aL 4 hS (h:=af 5 hS (h:=af 6 hS (h:= ?_)))))));rw[Z0.out];refine af 7 hS (h:=cw 8 rfl (fun w hSw=>by have q:=IntWalk.i64_in ((k:Int)-7) aa;go_simp;all_goals(with_reducible rfl)) hS (h:=cw 9 rfl (fun w hSw=>by have q0:(0:Int)≤(k:Int)-7:=aa;have q1:(k:Int)-7<64:=aa;have q2:((k:Int)-7).toNat=k-7:=aa;have q3:(7:Int)≤(k:Int):=aa;go_simp;all_goals(with_reducible rfl)) hS (h:=aL 10 hS (h:=af 11 hS (h:= ?_)))));rw[nR.out];refine af 12 hS (h:=af 13 hS (h:= ?_));rw[HN3.out];refine cw 14 rfl (fun w hSw=>by have q0:(0:Int)≤(k:Int):=aa;have q1:(k:Int)<64:=aa;go_simp;all_goals(with_reducible rfl)) hS (h:= ?_);refine aC 15 (fun K hK=> ?_);go_simp;refine hK.out _ _ xZ.out (fun _=> ?_);clear hK K;refine wpAnyH_done ai ?_ _;go_wp2_with fail;go_roundw;case rel=>refine⟨k+1,aa,aa,aE,r0.setOther av _,?_,(hb.setCell av _).drew.drew⟩;exact(r1.set k _).congr fun i _=>by rw[←BZ ay k i,mg.out]
     case measure=>simp[intOf];omega
    ·obtain rfl:k=64:=(by omega);obtain⟨cs,hcs,hn,hv⟩:=r1;obtain⟨os,B6,ya,hvo⟩:=r0;obtain rfl:=Rw ay hn hv;go_wp2_with (first | (refine wpList_load_row rfl 305 _ rfl g2 rfl 305 (words ay) _ _ hcs underlying305 rfl ?c1 ?_) | (refine wpList_store_row rfl 305 _ _ rfl g1 (words ay) rfl rfl 305 os B6 ?c2 ?c3 ?c4 ?_))
     case c1=>rw[xY,hn]
     case c2=>rw[xY,hn]
     case c3=>rw[ya,hn]
     case c4=>exact B5 ay
     refine bodyPost_ret (results_cell_row rfl _ _ g1 305 (words ay) _ _ rfl (setRow_heap _ _ _ _ _ _ B6) underlying305 rfl (by rw[xY,hn])) rfl ?_;exact⟨rfl,below_setRow hb aa _⟩
structure R8 where
 a:BitVec 32
 b:BitVec 32
 c:BitVec 32
 d:BitVec 32
 e:BitVec 32
 f:BitVec 32
 g:BitVec 32
 h:BitVec 32
def Rx:List (BitVec 32):=[1116352408,1899447441,3049323471,3921009573,961987163,1508970993,2453635748,2870763221,3624381080,310598401,607225278,1426881987,1925078388,2162078206,2614888103,3248222580,3835390401,4022224774,264347078,604807628,770255983,1249150122,1555081692,1996064986,2554220882,2821834349,2952996808,3210313671,3336571891,3584528711,113926993,338241895,666307205,773529912,1294757372,1396182291,1695183700,1986661051,2177026350,2456956037,2730485921,2820302411,3259730800,3345764771,3516065817,3600352804,4094571909,275423344,430227734,506948616,659060556,883997877,958139571,1322822218,1537002063,1747873779,1955562222,2024104815,2227730452,2361852424,2428436474,2756734187,3204031479,3329325298]
def Kc(i:Nat):BitVec 32:=Rx.getD i 0
def tOf(r:R8)(k v:BitVec 32):BitVec 32:=r.h+(om 6 r.e ^^^ om 11 r.e ^^^ om 25 r.e)+((r.e &&& r.f) ^^^ (~~~r.e &&& r.g))+k+v
def uOf(r:R8):BitVec 32:=(om 2 r.a ^^^ om 13 r.a ^^^ om 22 r.a)+((r.a &&& r.b) ^^^ (r.a &&& r.c) ^^^ (r.b &&& r.c))
def roundOf(k v:BitVec 32)(r:R8):R8:=⟨tOf r k v+uOf r,r.a,r.b,r.c,r.d+tOf r k v,r.e,r.f,r.g⟩
def wd(ay:List UInt8)(i:Nat):BitVec 32:=(eU ay 64).getD i 0
def rounds(ay:List UInt8):Nat→R8→R8
 | 0,r=>r
 | n+1,r=>roundOf (Kc n) (wd ay n) (rounds ay n r)
def R8.get(r:R8)(i:Nat):BitVec 32:=if i=0 then r.a else if i=1 then r.b else if i=2 then r.c else if i=3 then r.d else if i=4 then r.e else if i=5 then r.f else if i=6 then r.g else r.h
def R8.add(r s:R8):R8:=⟨r.a+s.a,r.b+s.b,r.c+s.c,r.d+s.d,r.e+s.e,r.f+s.f,r.g+s.g,r.h+s.h⟩
def rx(r:R8)(ay:List UInt8):R8:=r.add (rounds ay 64 r)
abbrev R8.agg(r:R8):Array Value:= #[aX r.a,aX r.b,aX r.c,aX r.d,aX r.e,aX r.f,aX r.g,aX r.h]
theorem R8.DB(r:R8)(i:Nat)(h:i<8):r.agg[i]? =some (aX (r.get i)):=by
 match i,h with
 | 0,_ | 1,_ | 2,_ | 3,_ | 4,_ | 5,_ | 6,_ | 7,_=>rfl
def mD:Array Value:=Array.replicate 8 (.int .u32 0)
theorem aaL:(prog.info? 276).map (fun i=>(i.zero,i.size))=some (some (.agg mD),8):=ai
theorem Ip:(prog.info? 276).map (·.size)=some 8:=ai
theorem I6:(prog.info? 277).map (·.size)=some 64:=ai
theorem Ry(ay:List UInt8)(i:Nat)(h:i<64):(words ay)[i]? =some (aX (wd ay i)):=by unfold words;rw[List.getElem?_toArray,List.getElem?_map,List.getElem?_range h];rfl
theorem I7(ay:List UInt8):(words ay).size=64:=by simp[words]
theorem FJ(ay:List UInt8)(j:Nat)(hj:j<64)(w:World):(Instr.index 305 (.agg (words ay)) (.int .i64 j)).run prog w= .ok (aX (wd ay j)) w:=by
 have hs:(prog.info? 24).map (·.size)=some 1:=ai;have hg:=Ry ay j hj;cases hq:prog.info? 24 with
 | none=>rw[hq]at hs;simp at hs
 | some i=>
  have dl:i.size=1:=by rw[hq]at hs;simpa using hs
  simp[Instr.index,asIntOf,run_underlying underlying305,Sem.run_bind,sizeOf,typeInfo,hq,dl,part,hg,hj]
theorem eV(r:R8)(j:Nat)(hj:j<8)(w:World):(Instr.index 276 (.agg r.agg) (.int .i64 j)).run prog w= .ok (aX (r.get j)) w:=by
 have hs:(prog.info? 24).map (·.size)=some 1:=ai;have hg:=r.DB j hj;generalize r.agg=A at*;cases hq:prog.info? 24 with
 | none=>rw[hq]at hs;simp at hs
 | some i=>
  have dl:i.size=1:=by rw[hq]at hs;simpa using hs
  simp[Instr.index,asIntOf,run_underlying underlying276,Sem.run_bind,sizeOf,typeInfo,hq,dl,part,hg,hj]
theorem Xd(r:R8)(hn:cs.size=8)(hv: ∀i,i<8→cs[i]? =some (aX (r.get i))):cs=r.agg:=by
 apply Array.ext_getElem?;intro i;by_cases hi:i<8;·rw[hv i hi,r.DB i hi]
 ·rw[Array.getElem?_eq_none aa,Array.getElem?_eq_none av]
theorem add_get(r s:R8)(i:Nat):(r.add s).get i=r.get i+s.get i:=by
 unfold R8.get R8.add;simp only;repeat (split;rfl)
 rfl
theorem yb(r:R8):r.agg.all (·.oneCell')=true:=by simp[Value.oneCell']
theorem DC(a:BitVec 32):bits .xor .u32 IntKind.u32.max (a.toNat:Int)=((~~~a).toNat:Int):=by
 have h:IntKind.u32.max=((4294967295#32).toNat:Int):=rfl;have e:4294967295#32 ^^^ a= ~~~a:=by rw[show(4294967295#32)=BitVec.allOnes 32 from rfl,BitVec.xor_comm,BitVec.xor_allOnes]
 rw[h,wq,e]
theorem Xe(a:BitVec 32):bits .xor .u32 (if IntKind.u32.signed=true then -1 else IntKind.u32.max) (a.toNat:Int)=((~~~a).toNat:Int):=by rw[if_neg ak];exact DC a
structure St where
 ws:R8
 ay:List UInt8
 n:Nat
def St.put(s:St)(b:UInt8):St:=⟨if s.n%64=63 then rx s.ws (s.ay.set (s.n%64) b)else s.ws,s.ay.set (s.n%64) b,s.n+1⟩
def St.fK(s:St)(l:List UInt8):St:=l.foldl St.put s
theorem St.FK(s:St)(a b:List UInt8):s.fK (a++b)=(s.fK a).fK b:=by unfold St.fK;rw[List.foldl_append]
theorem St.Rz(s:St):s.fK []=s:=rfl
theorem St.B7(s:St)(b:UInt8)(l:List UInt8):s.fK (b::l)=(s.put b).fK l:=rfl
def lay(ay:List UInt8)(o:Nat)(l:List UInt8):List UInt8:=ay.take o++(l++ay.drop (o+l.length))
theorem LB(ay:List UInt8)(o:Nat):lay ay o []=ay:=by simp[lay]
theorem I8(ay:List UInt8)(o:Nat)(l:List UInt8)(h:o+l.length≤ay.length):(lay ay o l).length=ay.length:=by unfold lay;simp;omega
theorem RA(ay:List UInt8)(o:Nat)(b:UInt8)(l:List UInt8)(h:o<ay.length):lay (ay.set o b) (o+1) l=lay ay o (b::l):=by
 unfold lay;have h1:(ay.set o b).take (o+1)=ay.take o++[b]:=by rw[List.take_succ_eq_append_getElem kJ,List.take_set_of_le (Nat.le_refl o)];simp
 have h2:(ay.set o b).drop (o+1+l.length)=ay.drop (o+1+l.length):=List.drop_set_of_lt aa;rw[h1,h2];simp[show o+1+l.length=o+(l.length+1) by omega]
theorem St.I9(l:List UInt8): ∀s:St,s.ay.length=64→s.n%64+l.length≤64→
  s.fK l=⟨if s.n%64+l.length=64 then rx s.ws (lay s.ay (s.n%64) l)else s.ws,lay s.ay (s.n%64) l,s.n+l.length⟩:=by
 induction l with
 | nil=>
  intro s hb hl;have: ¬(s.n%64+([]:List UInt8).length=64):=av;rw[if_neg this,LB];rfl
 | cons b l ih=>
  intro s hb hl;rw[St.B7];simp only[List.length_cons]at hl ⊢;have hc:=RA s.ay (s.n%64) b l aa;by_cases Fc:s.n%64=63;·have:l=[]:=List.eq_nil_of_length_eq_zero aa;subst this;rw[St.Rz,LB]at*;unfold St.put;rw[if_pos Fc,if_pos av,←hc];simp
  ·have hp:s.put b=⟨s.ws,s.ay.set (s.n%64) b,s.n+1⟩:=(by unfold St.put;rw[if_neg Fc]);have hn:(s.n+1)%64=s.n%64+1:=aa;have:=ih (s.put b) (by rw[hp];simpa using hb) (by rw[hp];simp only;omega);rw[this,hp];simp only;rw[hn,hc,show s.n%64+1+l.length=s.n%64+(l.length+1) by omega,show s.n+1+l.length=s.n+(l.length+1) by omega]
theorem St.RB(l:List UInt8): ∀s:St,(s.fK l).n=s.n+l.length:=by
 induction l with
 | nil=>intro s;rfl
 | cons b l ih=>intro s;rw[St.B7,ih];simp[St.put];omega
def St.cells(s:St):List Value:=s.ws.agg.toList++(s.ay.map B8++[.int .u64 (s.n:Nat)])
theorem St.nc(s:St)(h:s.ay.length=64):s.cells.length=73:=by unfold St.cells;simp[h]
structure cG(w:World)(g:Nat)(s:St):Prop where
 at_:w.heap[g]? =some (.cells s.cells.toArray 279 (0,0))
 len:s.ay.length=64
theorem cG.cellAt{w:World}{g:Nat}{s:St}(h:cG w g s)(i:Nat):w.cell? ⟨g,i,none⟩=s.cells[i]? :=by rw[cell_of_row _ _ _ _ _ _ h.at_];simp
theorem St.Ja(s:St)(h:s.ay.length=64):s.cells[72]? =some (.int .u64 (s.n:Nat)):=by unfold St.cells;rw[List.getElem?_append_right ag,List.getElem?_append_right dD];simp[h]
theorem St.one(s:St): ∀v∈s.cells,v.oneCell'=true:=by
 intro v hv;unfold St.cells at hv;simp only[List.mem_append,List.mem_map]at hv;rcases hv with h | ⟨b,_,rfl⟩ | h;·simp at h;rcases h with rfl | rfl | rfl | rfl | rfl | rfl | rfl | rfl<;>rfl
 ·rfl
 ·simp at h;subst h;rfl
theorem bt(w:World)(o:Obj):Below w.heap.size w (w.alloc o):=ar
theorem kR(a b:BitVec 32):((a.toNat:Int)+(b.toNat:Int))%4294967296=((a+b).toNat:Int):=by rw[BitVec.toNat_add];omega
theorem RC(w:World):(w.alloc (.cells mD 276)).rowIs w.heap.size 276 8 (fun _=> .int .u32 0):=by
 have h:=World.rowIs_alloc w mD 276 (fun _=> .int .u32 0) (fun i hi=>by
  unfold mD at hi ⊢;rw[Array.getElem?_replicate,if_pos iZ])
 have e:mD.size=8:=by simp[mD]
 rwa [e]at h
theorem Xf(ws:R8)(ay:List UInt8)(mY:ay.length=64)(w:World)(hK: ∀i,i<64→w.cell? ⟨2,i,none⟩=some (aX (Kc i)))(h1:2<w.heap.size):
  Calls prog 199 #[.agg ws.agg,.agg (ay.map B8).toArray] w fun e w'=>e= .returned (.agg (rx ws ay).agg)∧Below w.heap.size w w':=by
 have alx:=(zero_of_info ZY).1;have hz8:=(zero_of_info aaL).1;have HK:=ae hK;have HSP:=ae (I5 ay mY);have oq:(ay.map B8).toArray.size=64:=by simpa using mY
 have HWI:=ae (FJ ay);have aly:=ae (B5 ay);have HWS:=ae (I7 ay);have Xg:Hid (∀n r,rounds ay (n+1) r=roundOf (Kc n) (wd ay n) (rounds ay n r)):=ae (fun _ _=>rfl);have HMX:Hid (rx ws ay=ws.add (rounds ay 64 ws)):=ae rfl;generalize gZ:(ay.map B8).toArray=bl at*;have iN:=ae oq;clear oq gZ hK mY;generalize words ay=W at*;go_enter func199,ntmps199;have eA:(w.alloc (.cells ws.agg 276)).heap.size=w.heap.size+1:=ag;have eB:((w.alloc (.cells ws.agg 276)).alloc (.cells bl 277)).heap.size=w.heap.size+1+1:=ag;have vw:=bt w (.cells ws.agg 276);have VH:=bt (w.alloc (.cells ws.agg 276)) (.cells bl 277);have hbC:=bt ((w.alloc (.cells ws.agg 276)).alloc (.cells bl 277)) (.cells mD 276)
 have lX:(((w.alloc (.cells ws.agg 276)).alloc (.cells bl 277)).alloc (.cells mD 276)).rowIs w.heap.size 276 8 (fun i=>aX (ws.get i)):=
  ((World.rowIs_alloc w ws.agg 276 (fun i=>aX (ws.get i)) (fun i hi=>ws.DB i hi)).alloc _).alloc _
 have Hy:(((w.alloc (.cells ws.agg 276)).alloc (.cells bl 277)).alloc (.cells mD 276)).rowIs (w.heap.size+1+1) 276 8 (fun _=> .int .u32 0):=by have h:=RC ((w.alloc (.cells ws.agg 276)).alloc (.cells bl 277));rw[eB]at h;exact h
 have hcB:(((w.alloc (.cells ws.agg 276)).alloc (.cells bl 277)).alloc (.cells mD 276)).heap[w.heap.size+1]? =some (.cells bl 277 (0,0)):=by rw[hbC.block _ ag,←eA];exact heap_alloc_last _ _
 have bA:Below w.heap.size w (((w.alloc (.cells ws.agg 276)).alloc (.cells bl 277)).alloc (.cells mD 276)):=(aM vw VH).trans (hbC.mono av);have eC:(((w.alloc (.cells ws.agg 276)).alloc (.cells bl 277)).alloc (.cells mD 276)).heap.size=w.heap.size+1+1+1:=ag;have VI:Hid (∀i,i<8→ws.agg[i]? =some (aX (ws.get i))):=ae ws.DB;clear eA eB vw VH hbC;go_wp2_with (refine wpList_load_row rfl 277 _ rfl (w.heap.size+1) rfl 277 bl _ _ hcB underlying277 rfl (by rw[I6,iN.out]) ?_)
 generalize((w.alloc (.cells ws.agg 276)).alloc (.cells bl 277)).alloc (.cells mD 276)=w3 at*;refine(HSP.out w3).mono ?_;rintro e w4 ⟨rfl,bm⟩;have aeS:=lX.of_block (bm.block _ aa);have aeT:=Hy.of_block (bm.block _ aa);have g4:=aM bA bm;have sI:=bm.size;have ij:=heap_alloc_last w4 (.cells em 305);clear lX Hy hcB bm bA;go_wp2_with (refine wpList_store_row rfl 305 _ _ rfl w4.heap.size W rfl rfl 305 em ij (by rw[xY,HWS.out]) (by rw[HWS.out];simp[em]) aly.out ?_)
 rw[World.setRow_alloc_new];have RD:=heap_alloc_last w4 (.cells W 305);have eu:=bt w4 (.cells W 305);have Bb:=aeS.alloc (.cells W 305);have aeU:=aeT.alloc (.cells W 305);have g5:=aM g4 eu;clear ij eu aeS aeT g4;generalize w4.alloc (.cells W 305)=w5 at*;have k0:w5.drew.cell? ⟨w.heap.size,0,none⟩=some (aX ws.a):=Bb.cell (i:=0) aa;have k1:w5.drew.cell? ⟨w.heap.size,1,none⟩=some (aX ws.b):=Bb.cell (i:=1) aa;have k2:w5.drew.cell? ⟨w.heap.size,2,none⟩=some (aX ws.c):=Bb.cell (i:=2) aa;have k3:w5.drew.cell? ⟨w.heap.size,3,none⟩=some (aX ws.d):=Bb.cell (i:=3) aa;refine wp_region_held_drew (S:=fun w'=>w'.cell? ⟨w.heap.size,0,none⟩=some (aX ws.a)∧w'.cell? ⟨w.heap.size,1,none⟩=some (aX ws.b)∧w'.cell? ⟨w.heap.size,2,none⟩=some (aX ws.c)∧w'.cell? ⟨w.heap.size,3,none⟩=some (aX ws.d)) ai ⟨k0,k1,k2,k3⟩ (fun hS=> ?_);refine af 0 hS (h:=aL 1 hS (h:=af 2 hS (h:=aL 3 hS (h:=af 4 hS (h:=aL 5 hS (h:=af 6 hS (h:=aL 7 hS (h:=af 8 hS (h:=af 9 hS (h:=af 10 hS (h:=af 11 hS (h:= ?_))))))))))));refine wpAnyH_done ai ?_ _;have k4:w5.drew.drew.cell? ⟨w.heap.size,4,none⟩=some (aX ws.e):=Bb.cell (i:=4) aa;have k5:w5.drew.drew.cell? ⟨w.heap.size,5,none⟩=some (aX ws.f):=Bb.cell (i:=5) aa;have k6:w5.drew.drew.cell? ⟨w.heap.size,6,none⟩=some (aX ws.g):=Bb.cell (i:=6) aa;have k7:w5.drew.drew.cell? ⟨w.heap.size,7,none⟩=some (aX ws.h):=Bb.cell (i:=7) aa;clear k0 k1 k2 k3 hS;go_wp2_with fail;refine wp_region_held_drew (S:=fun w'=>w'.cell? ⟨w.heap.size,4,none⟩=some (aX ws.e)∧w'.cell? ⟨w.heap.size,5,none⟩=some (aX ws.f)∧w'.cell? ⟨w.heap.size,6,none⟩=some (aX ws.g)∧w'.cell? ⟨w.heap.size,7,none⟩=some (aX ws.h)) ai ⟨k4,k5,k6,k7⟩ (fun hS=> ?_);refine af 0 hS (h:=aL 1 hS (h:=af 2 hS (h:=aL 3 hS (h:=af 4 hS (h:=aL 5 hS (h:=af 6 hS (h:=aL 7 hS (h:=af 8 hS (h:=af 9 hS (h:=af 10 hS (h:=af 11 hS (h:= ?_))))))))))));refine wpAnyH_done ai ?_ _;clear k4 k5 k6 k7 hS;have RE:w5.drew.drew.heap[w4.heap.size]? =some (.cells W 305 (0,0)):=RD;go_wp2_with (refine wpList_load_row rfl 305 _ rfl w4.heap.size rfl 305 W _ _ RE underlying305 rfl (by rw[xY,HWS.out]) ?_)
 have aeV:w5.drew.drew.rowIs w.heap.size 276 8 (fun i=>aX (ws.get i)):=Bb;have aeW:w5.drew.drew.rowIs (w.heap.size+1+1) 276 8 (fun _=> .int .u32 0):=aeU;have g6:Below w.heap.size w w5.drew.drew:=g5.drew.drew;clear RD RE Bb aeU g5;generalize w5.drew.drew=w6 at*;go_loopw [6,7,8,9,10,11,12,13,39] (fun s6 s7 s8 s9 s10 s11 s12 s13 i wr=> ∃(k:Nat) (a b c d e f g h:BitVec 32),k≤64∧rounds ay k ws=⟨a,b,c,d,e,f,g,h⟩∧s6=aX a∧s7=aX b∧s8=aX c∧s9=aX d∧s10=aX e∧s11=aX f∧s12=aX g∧s13=aX h∧i= .int .i64 k∧wr.rowIs w.heap.size 276 8 (fun i=>aX (ws.get i))∧wr.rowIs (w.heap.size+1+1) 276 8 (fun _=> .int .u32 0)∧Below w.heap.size w wr) (fun _ _ _ _ _ _ _ _ i _=>64-(intOf i).toNat);case atStart=>exact⟨0,ws.a,ws.b,ws.c,ws.d,ws.e,ws.f,ws.g,ws.h,aa,rfl,rfl,rfl,rfl,rfl,rfl,rfl,rfl,rfl,rfl,aeV,aeW,g6⟩
 case round=>
  clear aeV aeW g6;obtain⟨k,a,b,c,d,e,f,g,h,hk,hr,rfl,rfl,rfl,rfl,rfl,rfl,rfl,rfl,rfl,lX,Hy,hb⟩:=hrel;by_cases aH:k<64
  ·have hn:=Xg.out k ws;rw[hr]at hn;have hu:uOf ⟨a,b,c,d,e,f,g,h⟩=(om 2 a ^^^ om 13 a ^^^ om 22 a)+((a &&& b) ^^^ (a &&& c) ^^^ (b &&& c)):=rfl;have ht:tOf ⟨a,b,c,d,e,f,g,h⟩ (Kc k) (wd ay k)=h+(om 6 e ^^^ om 11 e ^^^ om 25 e)+((e &&& f) ^^^ (~~~e &&& g))+Kc k+wd ay k:=rfl;have kv:roundOf (Kc k) (wd ay k) ⟨a,b,c,d,e,f,g,h⟩=⟨tOf ⟨a,b,c,d,e,f,g,h⟩ (Kc k) (wd ay k)+uOf ⟨a,b,c,d,e,f,g,h⟩,a,b,c,d+tOf ⟨a,b,c,d,e,f,g,h⟩ (Kc k) (wd ay k),e,f,g⟩:=rfl;rw[kv,hu,ht]at hn;have Jb:=HWI.out k aH;have kK:wr.drew.cell? ⟨2,k,none⟩=some (aX (Kc k)):=(hb.cell (p:=⟨2,k,none⟩) h1).trans (HK.out k aH);generalize wd ay k=wv at*;generalize Kc k=kk at*;have HR6:=ae (Xb e);have alC:=ae (Rp e);have alD:=ae (Rv e);have AX:=ae (Xa a);have alE:=ae (Rq a);have alF:=ae (Ru a);clear hu ht kv hr;generalize om 6 e=r6 at*;generalize om 11 e=r11 at*;generalize om 25 e=r25 at*;generalize om 2 a=r2 at*;generalize om 13 a=r13 at*;generalize om 22 a=r22 at*;have HX1:=ae (wq r6 r11);generalize r6 ^^^ r11=x1 at*;have HX2:=ae (wq x1 r25);generalize x1 ^^^ r25=x2 at*;have HV1:=ae (xW h x2);generalize h+x2=v1 at*;have HA1:=ae (Ro e f);generalize e &&& f=a1 at*;have HNO:=ae (Xe e);generalize ~~~e=n1 at*;have HA2:=ae (Ro n1 g);generalize n1 &&& g=a2 at*;have M6:=ae (wq a1 a2);generalize a1 ^^^ a2=c1 at*;have HV2:=ae (xW v1 c1);generalize v1+c1=v2 at*;have HV3:=ae (xW v2 kk);generalize v2+kk=v3 at*;have HV4:=ae (xW v3 wv);generalize v3+wv=t at*;have HY1:=ae (wq r2 r13);generalize r2 ^^^ r13=y1 at*;have HY2:=ae (wq y1 r22);generalize y1 ^^^ r22=y2 at*;have qq:=ae (Ro a b);generalize a &&& b=m1 at*;have Av:=ae (Ro a c);generalize a &&& c=m2 at*;have VJ:=ae (wq m1 m2);generalize m1 ^^^ m2=m3 at*;have Fw:=ae (Ro b c);generalize b &&& c=m4 at*;have WR:=ae (wq m3 m4);generalize m3 ^^^ m4=m5 at*;have HU:=ae (kR y2 m5);generalize y2+m5=u at*;have HDT:=ae (kR d t);generalize d+t=dt at*;have HTU:=ae (kR t u);generalize t+u=tu at*;have HN:=ae hn;clear hn;go_wp2_with fail;refine wp_region_held_drew (S:=fun w'=>w'.cell? ⟨2,k,none⟩=some (aX kk)) ai kK (fun hS=> ?_);refine af 0 hS (h:=af 1 hS (h:=af 3 hS (h:=af 6 hS (h:=af 10 hS (h:=af 11 hS (h:=af 12 hS (h:= ?_)))))));rw[HA1.out];refine af 13 hS (h:=af 14 hS (h:= ?_));rw[HNO.out];refine af 15 hS (h:=af 16 hS (h:= ?_));rw[HA2.out];refine af 17 hS (h:= ?_);rw[M6.out];refine af 19 hS (h:=cw 20 rfl (fun w hSw=>by have q0:(0:Int)≤(k:Int):=aa;have q1:(k:Int)<64:=aa;go_simp;all_goals(with_reducible rfl)) hS (h:=aL 21 hS (h:=af 23 hS (h:= ?_))));refine aC 2 (fun K hK=> ?_);go_simp;refine(HR6.out _).mono ?_;rintro e w' ⟨rfl,rfl⟩;go_wp2_with fail;refine hK.out _ _ hS (fun _=> ?_);clear hK K;refine aC 4 (fun K hK=> ?_);go_simp;refine(alC.out _).mono ?_;rintro e w' ⟨rfl,rfl⟩;go_wp2_with fail;refine hK.out _ _ hS (fun _=> ?_);clear hK K
   refine af 5 hS (h:= ?_);rw[HX1.out];refine aC 7 (fun K hK=> ?_);go_simp;refine(alD.out _).mono ?_;rintro e w' ⟨rfl,rfl⟩;go_wp2_with fail;refine hK.out _ _ hS (fun _=> ?_);clear hK K;refine af 8 hS (h:= ?_);rw[HX2.out];refine af 9 hS (h:= ?_);rw[HV1.out];refine af 18 hS (h:= ?_);rw[HV2.out];refine af 22 hS (h:= ?_);rw[HV3.out];refine af 24 hS (h:= ?_);rw[HV4.out];refine af 25 hS (h:= ?_);refine wpAnyH_done ai ?_ _;clear kK Jb;have q1:=HY1.out;have q2:=HY2.out;have q3:=qq.out;have q4:=Av.out;have q5:=VJ.out;have q6:=Fw.out;have q7:=WR.out;have q8:=HU.out;have q9:=HDT.out;have q10:=HTU.out;go_wp2_with fail;refine(AX.out _).mono ?_;rintro e w' ⟨rfl,rfl⟩;go_wp2_with fail;refine(alE.out _).mono ?_;rintro e w' ⟨rfl,rfl⟩;go_wp2_with fail;refine(alF.out _).mono ?_;rintro e w' ⟨rfl,rfl⟩;go_wp2_with fail;go_roundw;case rel=>exact⟨k+1,tu,a,b,c,dt,e,f,g,aa,HN.out,(by first | rfl | exact congrArg (Value.int .u32) HTU.out),rfl,rfl,rfl,(by first | rfl | exact congrArg (Value.int .u32) HDT.out),rfl,rfl,rfl,aE,lX,Hy,hb.drew⟩
   case measure=>simp[intOf];omega
  ·obtain rfl:k=64:=(by omega);have hm:=HMX.out;rw[hr]at hm;have HM:=ae hm;clear hm hr aH hk HWI Xg HSP alx hz8;rw[show((64:Nat):Int)=64 from rfl];go_wp2_with fail;go_loopw [110] (fun i wr=> ∃(k:Nat),k≤8∧i= .int .i64 k∧wr.rowIs w.heap.size 276 8 (fun i=>if i<k then aX (ws.get i+(R8.mk a b c d e f g h).get i)else aX (ws.get i))∧wr.rowIs (w.heap.size+1+1) 276 8 (fun _=> .int .u32 0)∧Below w.heap.size w wr) (fun i _=>8-(intOf i).toNat);case atStart=>exact⟨0,aa,rfl,lX.congr fun i _=>by rw[if_neg aa],Hy,hb⟩
   case round=>
    clear lX Hy hb;obtain⟨k,hk,rfl,lX,Hy,hb⟩:=hrel;have nT:k=0∨k=1∨k=2∨k=3∨k=4∨k=5∨k=6∨k=7∨k=8:=aa;rcases nT with rfl | rfl | rfl | rfl | rfl | rfl | rfl | rfl | rfl
    ·have hc:wr.cell? ⟨w.heap.size,0,none⟩=some (aX ws.a):=lX.cell (i:=0) aa;have hf:=lX.frozen 0;have HA:=ae (kR ws.a a);have Jb: ∀w,(Instr.index 276 (.agg #[aX a,aX b,aX c,aX d,aX e,aX f,aX g,aX h]) (.int .i64 0)).run prog w= .ok (aX a) w:=fun w=>eV ⟨a,b,c,d,e,f,g,h⟩ 0 aa w;rw[show((0:Nat):Int)=0 from rfl];generalize wy:ws.a=xx at*;have B9:=ae wy;clear wy;go_wp2_with fail;go_roundw;case rel=>
      refine⟨1,aa,rfl,?_,Hy.setOther av _,hb.setCell ag _⟩;exact(lX.set 0 _).congr fun i _=>by
       by_cases h:i=0;·subst h;rw[if_pos rfl,if_pos aa];rw[HA.out,←B9.out];rfl
       ·rw[if_neg h];by_cases h2:i<0;·rw[if_pos h2,if_pos aa]
        ·rw[if_neg h2,if_neg aa]
     case measure=>simp[intOf]
    ·have hc:wr.cell? ⟨w.heap.size,1,none⟩=some (aX ws.b):=lX.cell (i:=1) aa;have hf:=lX.frozen 1;have HA:=ae (kR ws.b b);have Jb: ∀w,(Instr.index 276 (.agg #[aX a,aX b,aX c,aX d,aX e,aX f,aX g,aX h]) (.int .i64 1)).run prog w= .ok (aX b) w:=fun w=>eV ⟨a,b,c,d,e,f,g,h⟩ 1 aa w;rw[show((1:Nat):Int)=1 from rfl];generalize wy:ws.b=xx at*;have B9:=ae wy;clear wy;go_wp2_with fail;go_roundw;case rel=>
      refine⟨2,aa,rfl,?_,Hy.setOther av _,hb.setCell ag _⟩;exact(lX.set 1 _).congr fun i _=>by
       by_cases h:i=1;·subst h;rw[if_pos rfl,if_pos aa];rw[HA.out,←B9.out];rfl
       ·rw[if_neg h];by_cases h2:i<1;·rw[if_pos h2,if_pos aa]
        ·rw[if_neg h2,if_neg aa]
     case measure=>simp[intOf]
    ·have hc:wr.cell? ⟨w.heap.size,2,none⟩=some (aX ws.c):=lX.cell (i:=2) aa;have hf:=lX.frozen 2;have HA:=ae (kR ws.c c);have Jb: ∀w,(Instr.index 276 (.agg #[aX a,aX b,aX c,aX d,aX e,aX f,aX g,aX h]) (.int .i64 2)).run prog w= .ok (aX c) w:=fun w=>eV ⟨a,b,c,d,e,f,g,h⟩ 2 aa w;rw[show((2:Nat):Int)=2 from rfl];generalize wy:ws.c=xx at*;have B9:=ae wy;clear wy;go_wp2_with fail;go_roundw;case rel=>
      refine⟨3,aa,rfl,?_,Hy.setOther av _,hb.setCell ag _⟩;exact(lX.set 2 _).congr fun i _=>by
       by_cases h:i=2;·subst h;rw[if_pos rfl,if_pos aa];rw[HA.out,←B9.out];rfl
       ·rw[if_neg h];by_cases h2:i<2;·rw[if_pos h2,if_pos aa]
        ·rw[if_neg h2,if_neg aa]
     case measure=>simp[intOf]
    ·have hc:wr.cell? ⟨w.heap.size,3,none⟩=some (aX ws.d):=lX.cell (i:=3) aa;have hf:=lX.frozen 3;have HA:=ae (kR ws.d d);have Jb: ∀w,(Instr.index 276 (.agg #[aX a,aX b,aX c,aX d,aX e,aX f,aX g,aX h]) (.int .i64 3)).run prog w= .ok (aX d) w:=fun w=>eV ⟨a,b,c,d,e,f,g,h⟩ 3 aa w;rw[show((3:Nat):Int)=3 from rfl];generalize wy:ws.d=xx at*;have B9:=ae wy;clear wy;go_wp2_with fail;go_roundw;case rel=>
      refine⟨4,aa,rfl,?_,Hy.setOther av _,hb.setCell ag _⟩;exact(lX.set 3 _).congr fun i _=>by
       by_cases h:i=3;·subst h;rw[if_pos rfl,if_pos aa];rw[HA.out,←B9.out];rfl
       ·rw[if_neg h];by_cases h2:i<3;·rw[if_pos h2,if_pos aa]
        ·rw[if_neg h2,if_neg aa]
     case measure=>simp[intOf]
    ·have hc:wr.cell? ⟨w.heap.size,4,none⟩=some (aX ws.e):=lX.cell (i:=4) aa;have hf:=lX.frozen 4;have HA:=ae (kR ws.e e);have Jb: ∀w,(Instr.index 276 (.agg #[aX a,aX b,aX c,aX d,aX e,aX f,aX g,aX h]) (.int .i64 4)).run prog w= .ok (aX e) w:=fun w=>eV ⟨a,b,c,d,e,f,g,h⟩ 4 aa w;rw[show((4:Nat):Int)=4 from rfl];generalize wy:ws.e=xx at*;have B9:=ae wy;clear wy;go_wp2_with fail;go_roundw;case rel=>
      refine⟨5,aa,rfl,?_,Hy.setOther av _,hb.setCell ag _⟩;exact(lX.set 4 _).congr fun i _=>by
       by_cases h:i=4;·subst h;rw[if_pos rfl,if_pos aa];rw[HA.out,←B9.out];rfl
       ·rw[if_neg h];by_cases h2:i<4;·rw[if_pos h2,if_pos aa]
        ·rw[if_neg h2,if_neg aa]
     case measure=>simp[intOf]
    ·have hc:wr.cell? ⟨w.heap.size,5,none⟩=some (aX ws.f):=lX.cell (i:=5) aa;have hf:=lX.frozen 5;have HA:=ae (kR ws.f f);have Jb: ∀w,(Instr.index 276 (.agg #[aX a,aX b,aX c,aX d,aX e,aX f,aX g,aX h]) (.int .i64 5)).run prog w= .ok (aX f) w:=fun w=>eV ⟨a,b,c,d,e,f,g,h⟩ 5 aa w;rw[show((5:Nat):Int)=5 from rfl];generalize wy:ws.f=xx at*;have B9:=ae wy;clear wy;go_wp2_with fail;go_roundw;case rel=>
      refine⟨6,aa,rfl,?_,Hy.setOther av _,hb.setCell ag _⟩;exact(lX.set 5 _).congr fun i _=>by
       by_cases h:i=5;·subst h;rw[if_pos rfl,if_pos aa];rw[HA.out,←B9.out];rfl
       ·rw[if_neg h];by_cases h2:i<5;·rw[if_pos h2,if_pos aa]
        ·rw[if_neg h2,if_neg aa]
     case measure=>simp[intOf]
    ·have hc:wr.cell? ⟨w.heap.size,6,none⟩=some (aX ws.g):=lX.cell (i:=6) aa;have hf:=lX.frozen 6;have HA:=ae (kR ws.g g);have Jb: ∀w,(Instr.index 276 (.agg #[aX a,aX b,aX c,aX d,aX e,aX f,aX g,aX h]) (.int .i64 6)).run prog w= .ok (aX g) w:=fun w=>eV ⟨a,b,c,d,e,f,g,h⟩ 6 aa w;rw[show((6:Nat):Int)=6 from rfl];generalize wy:ws.g=xx at*;have B9:=ae wy;clear wy;go_wp2_with fail;go_roundw;case rel=>
      refine⟨7,aa,rfl,?_,Hy.setOther av _,hb.setCell ag _⟩;exact(lX.set 6 _).congr fun i _=>by
       by_cases h:i=6;·subst h;rw[if_pos rfl,if_pos aa];rw[HA.out,←B9.out];rfl
       ·rw[if_neg h];by_cases h2:i<6;·rw[if_pos h2,if_pos aa]
        ·rw[if_neg h2,if_neg aa]
     case measure=>simp[intOf]
    ·have hc:wr.cell? ⟨w.heap.size,7,none⟩=some (aX ws.h):=lX.cell (i:=7) aa;have hf:=lX.frozen 7;have HA:=ae (kR ws.h h);have Jb: ∀w,(Instr.index 276 (.agg #[aX a,aX b,aX c,aX d,aX e,aX f,aX g,aX h]) (.int .i64 7)).run prog w= .ok (aX h) w:=fun w=>eV ⟨a,b,c,d,e,f,g,h⟩ 7 aa w;rw[show((7:Nat):Int)=7 from rfl];generalize wy:ws.h=xx at*;have B9:=ae wy;clear wy;go_wp2_with fail;go_roundw;case rel=>
      refine⟨8,aa,rfl,?_,Hy.setOther av _,hb.setCell ag _⟩;exact(lX.set 7 _).congr fun i _=>by
       by_cases h:i=7;·subst h;rw[if_pos rfl,if_pos aa];rw[HA.out,←B9.out];rfl
       ·rw[if_neg h];by_cases h2:i<7;·rw[if_pos h2,if_pos aa]
        ·rw[if_neg h2,if_neg aa]
     case measure=>simp[intOf]
    ·obtain⟨cs,hcs,hn,hv⟩:=lX;obtain⟨os,B6,ya,hvo⟩:=Hy;have Qa: ∀i,i<8→cs[i]? =some (aX ((ws.add ⟨a,b,c,d,e,f,g,h⟩).get i)):=fun i hi=>(by rw[add_get];rw[hv i hi];simp only[hi,if_true]);obtain rfl:=Xd _ hn Qa;rw[←HM.out]at hcs;rw[show((8:Nat):Int)=8 from rfl];clear hv hvo hn Qa HM HMX;go_wp2_with (first | (refine wpList_load_row rfl 276 _ rfl w.heap.size rfl 276 (rx ws ay).agg _ _ hcs underlying276 rfl ?c1 ?_) | (refine wpList_store_row rfl 276 _ _ rfl (w.heap.size+1+1) (rx ws ay).agg rfl rfl 276 os B6 ?c2 ?c3 ?c4 ?_))
     case c1=>rw[Ip];rfl
     case c2=>rw[Ip];rfl
     case c3=>rw[ya];rfl
     case c4=>exact yb (rx ws ay)
     refine bodyPost_ret (results_cell_row rfl _ _ (w.heap.size+1+1) 276 (rx ws ay).agg _ _ rfl (setRow_heap _ _ _ _ _ _ B6) underlying276 rfl ri) rfl ?_;exact⟨rfl,below_setRow hb aa _⟩
end Go.Proofs.YtfcaoggfnkhfiaaGreatDoor
