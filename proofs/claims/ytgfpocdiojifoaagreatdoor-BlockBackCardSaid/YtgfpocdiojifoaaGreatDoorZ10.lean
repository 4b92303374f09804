import Derived.Deep.RegionHeld3
import Derived.Test.YtgfpocdiojifoaaGreatDoorZ02
namespace Go.Proofs.YtgfpocdiojifoaaGreatDoor
set_option maxRecDepth 100000
set_option maxHeartbeats 8000000
open Go.RowKit
theorem Az(a b:BitVec 32):bits .xor .u32 (a.toNat:Int) (b.toNat:Int)=((a ^^^ b).toNat:Int):=by rw[u32_xor_nat _ _ a.isLt b.isLt,BitVec.toNat_xor]
theorem WM(a b:BitVec 32):bits .and .u32 (a.toNat:Int) (b.toNat:Int)=((a &&& b).toNat:Int):=by rw[u32_and_nat _ _ a.isLt b.isLt,BitVec.toNat_and]
theorem alq(a b:BitVec 32):bits .or .u32 (a.toNat:Int) (b.toNat:Int)=((a ||| b).toNat:Int):=by rw[u32_or_nat _ _ a.isLt b.isLt,BitVec.toNat_or]
theorem add32(a b:BitVec 32):IntKind.u32.wrap ((a.toNat:Int)+(b.toNat:Int))=((a+b).toNat:Int):=by
 rw[IntKind.wrap_u32,BitVec.toNat_add];omega
def rO(n:Nat)(x:BitVec 32):BitVec 32:=(x <<< (32-n)) ||| (x >>> n)
theorem kT(n:Nat)(x:BitVec 32):bits .or .u32 ((x.toNat:Int)*((2^(32-n):Nat):Int)%4294967296) ((x.toNat:Int)/((2^n:Nat):Int))=((rO n x).toNat:Int):=by
 have h1:(x.toNat:Int)*((2^(32-n):Nat):Int)%4294967296=((x <<< (32-n)).toNat:Int):=by
  rw[BitVec.toNat_shiftLeft,Nat.shiftLeft_eq]
  show _=((x.toNat*2^(32-n)%4294967296:Nat):Int)
  rw[Int.natCast_emod,Int.natCast_mul];rfl
 have h2:(x.toNat:Int)/((2^n:Nat):Int)=((x >>> n).toNat:Int):=by
  rw[BitVec.toNat_ushiftRight,Nat.shiftRight_eq_div_pow,Int.natCast_ediv]
 rw[h1,h2,alq];rfl
theorem abf(x:BitVec 32)(w:World):Calls Tryz.prog 209 #[.int .u32 x.toNat,.int .i64 2] w fun e w'=>e= .returned (.int .u32 (rO 2 x).toNat)∧w=w':=by
 have hx:=x.isLt
 have e1:bits .and .u64 (IntKind.u64.wrap (-2)) 31=30:=by decide
 have hr:=kT 2 x
 simp only[Nat.reducePow,Nat.reduceSub,Int.cast_ofNat_Int]at hr
 go_enter Tryz.func209,Tryz.ntmps209
 go_wp2
 go_ret
 exact⟨rfl,rfl⟩
theorem abg(x:BitVec 32)(w:World):Calls Tryz.prog 209 #[.int .u32 x.toNat,.int .i64 6] w fun e w'=>e= .returned (.int .u32 (rO 6 x).toNat)∧w=w':=by
 have hx:=x.isLt
 have e1:bits .and .u64 (IntKind.u64.wrap (-6)) 31=26:=by decide
 have hr:=kT 6 x
 simp only[Nat.reducePow,Nat.reduceSub,Int.cast_ofNat_Int]at hr
 go_enter Tryz.func209,Tryz.ntmps209
 go_wp2
 go_ret
 exact⟨rfl,rfl⟩
theorem abh(x:BitVec 32)(w:World):Calls Tryz.prog 209 #[.int .u32 x.toNat,.int .i64 7] w fun e w'=>e= .returned (.int .u32 (rO 7 x).toNat)∧w=w':=by
 have hx:=x.isLt
 have e1:bits .and .u64 (IntKind.u64.wrap (-7)) 31=25:=by decide
 have hr:=kT 7 x
 simp only[Nat.reducePow,Nat.reduceSub,Int.cast_ofNat_Int]at hr
 go_enter Tryz.func209,Tryz.ntmps209
 go_wp2
 go_ret
 exact⟨rfl,rfl⟩
theorem WO(x:BitVec 32)(w:World):Calls Tryz.prog 209 #[.int .u32 x.toNat,.int .i64 11] w fun e w'=>e= .returned (.int .u32 (rO 11 x).toNat)∧w=w':=by
 have hx:=x.isLt
 have e1:bits .and .u64 (IntKind.u64.wrap (-11)) 31=21:=by decide
 have hr:=kT 11 x
 simp only[Nat.reducePow,Nat.reduceSub,Int.cast_ofNat_Int]at hr
 go_enter Tryz.func209,Tryz.ntmps209
 go_wp2
 go_ret
 exact⟨rfl,rfl⟩
theorem WQ(x:BitVec 32)(w:World):Calls Tryz.prog 209 #[.int .u32 x.toNat,.int .i64 13] w fun e w'=>e= .returned (.int .u32 (rO 13 x).toNat)∧w=w':=by
 have hx:=x.isLt
 have e1:bits .and .u64 (IntKind.u64.wrap (-13)) 31=19:=by decide
 have hr:=kT 13 x
 simp only[Nat.reducePow,Nat.reduceSub,Int.cast_ofNat_Int]at hr
 go_enter Tryz.func209,Tryz.ntmps209
 go_wp2
 go_ret
 exact⟨rfl,rfl⟩
theorem WR(x:BitVec 32)(w:World):Calls Tryz.prog 209 #[.int .u32 x.toNat,.int .i64 17] w fun e w'=>e= .returned (.int .u32 (rO 17 x).toNat)∧w=w':=by
 have hx:=x.isLt
 have e1:bits .and .u64 (IntKind.u64.wrap (-17)) 31=15:=by decide
 have hr:=kT 17 x
 simp only[Nat.reducePow,Nat.reduceSub,Int.cast_ofNat_Int]at hr
 go_enter Tryz.func209,Tryz.ntmps209
 go_wp2
 go_ret
 exact⟨rfl,rfl⟩
theorem WS(x:BitVec 32)(w:World):Calls Tryz.prog 209 #[.int .u32 x.toNat,.int .i64 18] w fun e w'=>e= .returned (.int .u32 (rO 18 x).toNat)∧w=w':=by
 have hx:=x.isLt
 have e1:bits .and .u64 (IntKind.u64.wrap (-18)) 31=14:=by decide
 have hr:=kT 18 x
 simp only[Nat.reducePow,Nat.reduceSub,Int.cast_ofNat_Int]at hr
 go_enter Tryz.func209,Tryz.ntmps209
 go_wp2
 go_ret
 exact⟨rfl,rfl⟩
theorem WT(x:BitVec 32)(w:World):Calls Tryz.prog 209 #[.int .u32 x.toNat,.int .i64 19] w fun e w'=>e= .returned (.int .u32 (rO 19 x).toNat)∧w=w':=by
 have hx:=x.isLt
 have e1:bits .and .u64 (IntKind.u64.wrap (-19)) 31=13:=by decide
 have hr:=kT 19 x
 simp only[Nat.reducePow,Nat.reduceSub,Int.cast_ofNat_Int]at hr
 go_enter Tryz.func209,Tryz.ntmps209
 go_wp2
 go_ret
 exact⟨rfl,rfl⟩
theorem WU(x:BitVec 32)(w:World):Calls Tryz.prog 209 #[.int .u32 x.toNat,.int .i64 22] w fun e w'=>e= .returned (.int .u32 (rO 22 x).toNat)∧w=w':=by
 have hx:=x.isLt
 have e1:bits .and .u64 (IntKind.u64.wrap (-22)) 31=10:=by decide
 have hr:=kT 22 x
 simp only[Nat.reducePow,Nat.reduceSub,Int.cast_ofNat_Int]at hr
 go_enter Tryz.func209,Tryz.ntmps209
 go_wp2
 go_ret
 exact⟨rfl,rfl⟩
theorem WV(x:BitVec 32)(w:World):Calls Tryz.prog 209 #[.int .u32 x.toNat,.int .i64 25] w fun e w'=>e= .returned (.int .u32 (rO 25 x).toNat)∧w=w':=by
 have hx:=x.isLt
 have e1:bits .and .u64 (IntKind.u64.wrap (-25)) 31=7:=by decide
 have hr:=kT 25 x
 simp only[Nat.reducePow,Nat.reduceSub,Int.cast_ofNat_Int]at hr
 go_enter Tryz.func209,Tryz.ntmps209
 go_wp2
 go_ret
 exact⟨rfl,rfl⟩
abbrev aQ(x:BitVec 32):Value:= .int .u32 (x.toNat:Nat)
def be(a b c d:UInt8):BitVec 32:=BitVec.ofNat 32 (a.toNat*16777216+b.toNat*65536+c.toNat*256+d.toNat)
theorem aeF(a b c d:UInt8):(be a b c d).toNat=a.toNat*16777216+b.toNat*65536+c.toNat*256+d.toNat:=by
 have h1:=a.toNat_lt;have h2:=b.toNat_lt;have h3:=c.toNat_lt;have h4:=d.toNat_lt
 unfold be;rw[BitVec.toNat_ofNat];omega
theorem BQ(a b k:Nat)(ha:a<2^k):b*2^k ||| a=b*2^k+a:=by
 rw[←Nat.shiftLeft_eq,←Nat.shiftLeft_add_eq_or_of_lt ha]
theorem ahz(a b c d:UInt8):
  bits .or .u32 (bits .or .u32 (bits .or .u32 (IntKind.u32.wrap (IntKind.u32.wrap (a.toNat:Int)*16777216)) (IntKind.u32.wrap (IntKind.u32.wrap (b.toNat:Int)*65536))) (IntKind.u32.wrap (IntKind.u32.wrap (c.toNat:Int)*256))) (IntKind.u32.wrap (d.toNat:Int))=((be a b c d).toNat:Int):=by
 have h1:=a.toNat_lt;have h2:=b.toNat_lt;have h3:=c.toNat_lt;have h4:=d.toNat_lt
 rw[aeF]
 generalize a.toNat=a at*
 generalize b.toNat=b at*
 generalize c.toNat=c at*
 generalize d.toNat=d at*
 have w0: ∀x:Nat,x<256→IntKind.u32.wrap (x:Int)=(x:Int):=fun x hx=>by rw[IntKind.wrap_u32];omega
 rw[w0 a (by omega),w0 b (by omega),w0 c (by omega),w0 d (by omega)]
 have e1:IntKind.u32.wrap ((a:Int)*16777216)=((a*2^24:Nat):Int):=by rw[IntKind.wrap_u32];omega
 have e2:IntKind.u32.wrap ((b:Int)*65536)=((b*2^16:Nat):Int):=by rw[IntKind.wrap_u32];omega
 have e3:IntKind.u32.wrap ((c:Int)*256)=((c*2^8:Nat):Int):=by rw[IntKind.wrap_u32];omega
 have o1:a*2^24 ||| b*2^16=(a*256+b)*2^16:=by rw[BQ _ _ 24 (by omega)];omega
 have o2:(a*256+b)*2^16 ||| c*2^8=(a*65536+b*256+c)*2^8:=by rw[BQ _ _ 16 (by omega)];omega
 have o3:(a*65536+b*256+c)*2^8 ||| d=(a*65536+b*256+c)*2^8+d:=BQ _ _ 8 (by omega)
 rw[e1,e2,e3,u32_or_nat _ _ (by omega) (by omega),o1,u32_or_nat _ _ (by omega) (by omega),o2,u32_or_nat _ _ (by omega) (by omega),o3]
 omega
def s0(x:BitVec 32):BitVec 32:=rO 7 x ^^^ rO 18 x ^^^ (x >>> 3)
def s1(x:BitVec 32):BitVec 32:=rO 17 x ^^^ rO 19 x ^^^ (x >>> 10)
def wordAt(blk:List UInt8)(i:Nat):BitVec 32:=be (blk.getD (4*i) 0) (blk.getD (4*i+1) 0) (blk.getD (4*i+2) 0) (blk.getD (4*i+3) 0)
def Gj(blk:List UInt8)(l:List (BitVec 32))(n:Nat):BitVec 32:=if n<16 then wordAt blk n else l.getD (n-16) 0+s0 (l.getD (n-15) 0)+l.getD (n-7) 0+s1 (l.getD (n-2) 0)
def gW(blk:List UInt8):Nat→List (BitVec 32)
 | 0=>[]
 | n+1=>gW blk n++[Gj blk (gW blk n) n]
theorem BR(blk:List UInt8)(n:Nat):(gW blk n).length=n:=by
 induction n with
 | zero=>rfl
 | succ n ih=>simp[gW,ih]
def cellW(blk:List UInt8)(n i:Nat):Value:=aQ ((gW blk n).getD i 0)
theorem Gl(blk:List UInt8)(n:Nat): ∀i,(if i=n then aQ (Gj blk (gW blk n) n)else cellW blk n i)=cellW blk (n+1) i:=by
 intro i
 have hl:=BR blk n
 unfold cellW
 simp only[gW]
 by_cases h:i=n
 ·subst h
  rw[if_pos rfl,List.getD_eq_getElem?_getD,List.getElem?_append_right (by omega),hl,Nat.sub_self];rfl
 ·rw[if_neg h,List.getD_eq_getElem?_getD,List.getD_eq_getElem?_getD]
  by_cases h2:i<n
  ·rw[List.getElem?_append_left (by omega)]
  ·rw[List.getElem?_eq_none (by omega),List.getElem?_eq_none (by simp;omega)]
def words(blk:List UInt8):Array Value:=((List.range 64).map fun i=>cellW blk 64 i).toArray
def zero64:Array Value:=Array.replicate 64 (.int .u32 0)
theorem adl:(Tryz.prog.info? 277).map (fun i=>(i.zero,i.size))=some (some (.agg zero64),64):=by kernel_rfl
theorem BU:(Tryz.prog.info? 277).map (·.size)=some 64:=by kernel_rfl
theorem J8(blk:List UInt8)(w:World):(w.alloc (.cells zero64 277)).rowIs w.heap.size 277 64 (cellW blk 0):=by
 have h:=World.rowIs_alloc w zero64 277 (cellW blk 0) (fun i hi=>by
  unfold zero64 at hi ⊢
  rw[Array.getElem?_replicate,if_pos (by simpa using hi)];simp[cellW,gW])
 have e:zero64.size=64:=by simp[zero64]
 rwa [e]at h
theorem WW(blk:List UInt8){cs:Array Value}(hn:cs.size=64)(hv: ∀i,i<64→cs[i]? =some (cellW blk 64 i)):cs=words blk:=by
 apply Array.ext_getElem?
 intro i
 by_cases hi:i<64
 ·rw[hv i hi]
  unfold words
  rw[List.getElem?_toArray,List.getElem?_map,List.getElem?_range hi];rfl
 ·rw[Array.getElem?_eq_none (by omega),Array.getElem?_eq_none (by simp[words];omega)]
theorem Gm(blk:List UInt8):(words blk).all (·.oneCell')=true:=by
 unfold words
 rw[List.all_toArray,List.all_map,List.all_eq_true]
 intro x _;rfl
theorem Sj(blk:List UInt8)(l:List (BitVec 32))(n:Nat)(h:16≤n):Gj blk l n=l.getD (n-16) 0+s0 (l.getD (n-15) 0)+l.getD (n-7) 0+s1 (l.getD (n-2) 0):=by
 unfold Gj;rw[if_neg (by omega)]
theorem QI(x:BitVec 32)(n q:Nat)(hq:q=2^n):(x.toNat:Int)/(q:Int)=((x >>> n).toNat:Int):=by
 subst hq;rw[BitVec.toNat_ushiftRight,Nat.shiftRight_eq_div_pow,Int.natCast_ediv]
theorem aeG(x:BitVec 32):bits .xor .u32 (bits .xor .u32 ((rO 7 x).toNat:Int) ((rO 18 x).toNat:Int)) ((x.toNat:Int)/8)=((s0 x).toNat:Int):=by
 have h:(x.toNat:Int)/(8:Int)=((x >>> 3).toNat:Int):=QI x 3 8 rfl
 rw[h,Az,Az];rfl
theorem aeH(x:BitVec 32):bits .xor .u32 (bits .xor .u32 ((rO 17 x).toNat:Int) ((rO 19 x).toNat:Int)) ((x.toNat:Int)/1024)=((s1 x).toNat:Int):=by
 have h:(x.toNat:Int)/(1024:Int)=((x >>> 10).toNat:Int):=QI x 10 1024 rfl
 rw[h,Az,Az];rfl
theorem aeI(blk:List UInt8)(i:Nat)(h:i<blk.length):(blk.map B8).toArray[i]? =some (B8 (blk.getD i 0)):=by
 rw[List.getElem?_toArray,List.getElem?_map,List.getElem?_eq_getElem h]
 simp[List.getD,h]
theorem NQ(blk:List UInt8)(hblk:blk.length=64)(w:World):
  Calls Tryz.prog 208 #[.agg (blk.map B8).toArray] w fun e w'=>e= .returned (.agg (words blk))∧Below w.heap.size w w':=by
 have hz:=(zero_of_info adl).1
 have hcell: ∀i,i<64→(blk.map B8).toArray[i]? =some (B8 (blk.getD i 0)):=fun i hi=>aeI blk i (by omega)
 have HC:=Lib.hid hcell
 clear hcell
 have HW:=Lib.hid (fun k (h:k<16)=>(show Gj blk (gW blk k) k=be (blk.getD (4*k) 0) (blk.getD (4*k+1) 0) (blk.getD (4*k+2) 0) (blk.getD (4*k+3) 0) by unfold Gj;rw[if_pos h];rfl))
 have hbs:(blk.map B8).toArray.size=64:=by simpa using hblk
 generalize hbl:(blk.map B8).toArray=bl at*
 have lQ:=Lib.hid hbs
 clear hbs
 have HBL:=Lib.hid hbl
 clear hbl
 go_enter Tryz.func208,Tryz.ntmps208
 go_wp2_with fail
 have eA:(w.alloc (.cells bl 251)).heap.size=w.heap.size+1:=by simp
 have eB:((w.alloc (.cells bl 251)).alloc (.cells zero64 277)).heap.size=w.heap.size+1+1:=by simp
 have rb0:(((w.alloc (.cells bl 251)).alloc (.cells zero64 277)).alloc (.cells zero64 277)).rowIs w.heap.size 251 64 (fun i=>B8 (blk.getD i 0)):=by
  have h:=World.rowIs_alloc w bl 251 (fun i=>B8 (blk.getD i 0)) (fun i hi=>HC.out i (by rw[←lQ.out];exact hi))
  rw[lQ.out]at h
  exact(h.alloc _).alloc _
 have r00:(((w.alloc (.cells bl 251)).alloc (.cells zero64 277)).alloc (.cells zero64 277)).rowIs (w.heap.size+1) 277 64 (cellW blk 0):=by
  have h:=J8 blk (w.alloc (.cells bl 251))
  rw[eA]at h
  exact h.alloc _
 have r10:(((w.alloc (.cells bl 251)).alloc (.cells zero64 277)).alloc (.cells zero64 277)).rowIs (w.heap.size+1+1) 277 64 (cellW blk 0):=by
  have h:=J8 blk ((w.alloc (.cells bl 251)).alloc (.cells zero64 277))
  rw[eB]at h
  exact h
 have hb0:Below w.heap.size w (((w.alloc (.cells bl 251)).alloc (.cells zero64 277)).alloc (.cells zero64 277)):=(((Below.refl _ _).alloc (Nat.le_refl _) _).alloc (by simp) _).alloc (by simp;omega) _
 clear eA eB HC
 generalize((w.alloc (.cells bl 251)).alloc (.cells zero64 277)).alloc (.cells zero64 277)=w1 at*
 generalize hg1:w.heap.size+1=g1 at*
 generalize hg2:g1+1=g2 at*
 have hl1:w.heap.size<g1:=by omega
 have hl2:g1<g2:=by omega
 have hne1:g2≠w.heap.size:=by omega
 clear hg1 hg2
 go_loopw [10] (fun i wr=> ∃k:Nat,k≤16∧i= .int .i64 k∧wr.rowIs w.heap.size 251 64 (fun i=>B8 (blk.getD i 0))∧wr.rowIs g1 277 64 (cellW blk 0)∧wr.rowIs g2 277 64 (cellW blk k)∧Below w.heap.size w wr) (fun i _=>16-(intOf i).toNat)
 case atStart=>exact⟨0,by omega,rfl,rb0,r00,r10,hb0⟩
 case round=>
  clear rb0 r00 r10 hb0
  obtain⟨k,hk,rfl,rb,r0,r1,hb⟩:=hrel
  by_cases hlt:k<16
  ·have hc0:wr.cell? ⟨w.heap.size,4*k,none⟩=some (B8 (blk.getD (4*k) 0)):=rb.cell (by omega)
   have hc1:wr.cell? ⟨w.heap.size,4*k+1,none⟩=some (B8 (blk.getD (4*k+1) 0)):=rb.cell (by omega)
   have hc2:wr.cell? ⟨w.heap.size,4*k+2,none⟩=some (B8 (blk.getD (4*k+2) 0)):=rb.cell (by omega)
   have hc3:wr.cell? ⟨w.heap.size,4*k+3,none⟩=some (B8 (blk.getD (4*k+3) 0)):=rb.cell (by omega)
   have hn:=HW.out k hlt
   generalize blk.getD (4*k) 0=b0 at*
   generalize blk.getD (4*k+1) 0=b1 at*
   generalize blk.getD (4*k+2) 0=b2 at*
   generalize blk.getD (4*k+3) 0=b3 at*
   have hw:=r1.cell (i:=k) (by omega)
   have hf:=r1.frozen k
   have HBE:=Lib.hid (ahz b0 b1 b2 b3)
   generalize be b0 b1 b2 b3=v at*
   have HN:=Lib.hid hn
   clear hn
   have hother: ∀j,(wr.setCell ⟨g2,k,none⟩ (aQ v)).drew.cell? ⟨w.heap.size,j,none⟩=wr.cell? ⟨w.heap.size,j,none⟩:=fun j=>World.cell?_setCell_other _ _ _ _ (by intro e;injection e with e;exact hne1 e)
   have BZ:Hid ((wr.setCell ⟨g2,k,none⟩ (aQ v)).drew.cell? ⟨w.heap.size,4*k,none⟩=some (B8 b0)∧(wr.setCell ⟨g2,k,none⟩ (aQ v)).drew.cell? ⟨w.heap.size,4*k+1,none⟩=some (B8 b1)∧(wr.setCell ⟨g2,k,none⟩ (aQ v)).drew.cell? ⟨w.heap.size,4*k+2,none⟩=some (B8 b2)∧(wr.setCell ⟨g2,k,none⟩ (aQ v)).drew.cell? ⟨w.heap.size,4*k+3,none⟩=some (B8 b3)):=
    Lib.hid ⟨(hother _).trans hc0,(hother _).trans hc1,(hother _).trans hc2,(hother _).trans hc3⟩
   have k0:wr.drew.cell? ⟨w.heap.size,4*k,none⟩=some (B8 b0):=hc0
   have k1:wr.drew.cell? ⟨w.heap.size,4*k+1,none⟩=some (B8 b1):=hc1
   have k2:wr.drew.cell? ⟨w.heap.size,4*k+2,none⟩=some (B8 b2):=hc2
   have k3:wr.drew.cell? ⟨w.heap.size,4*k+3,none⟩=some (B8 b3):=hc3
   clear hother hc0 hc1 hc2 hc3
   go_wp2_with fail
   refine wp_region_held_drew (S:=fun w'=>w'.cell? ⟨w.heap.size,4*k,none⟩=some (B8 b0)∧w'.cell? ⟨w.heap.size,4*k+1,none⟩=some (B8 b1)∧w'.cell? ⟨w.heap.size,4*k+2,none⟩=some (B8 b2)∧w'.cell? ⟨w.heap.size,4*k+3,none⟩=some (B8 b3)) (by kernel_rfl) ⟨k0,k1,k2,k3⟩ (fun hS=> ?_)
   refine tq 0 hS ?_
   refine tq 1 hS ?_
   refine tp 2 rfl (fun w hSw=>by have q:=IntWalk.i64_in (4*(k:Int)) (by omega);go_simp;all_goals(with_reducible rfl)) hS ?_
   refine tp 3 rfl (fun w hSw=>by have q0:(0:Int)≤4*(k:Int):=(by omega);have q1:4*(k:Int)<64:=(by omega);have q2:(4*(k:Int)).toNat=4*k:=(by omega);go_simp;all_goals(with_reducible rfl)) hS ?_
   refine tp 4 rfl (fun w hSw=>by obtain⟨j0,j1,j2,j3⟩:=hSw;go_simp;all_goals(with_reducible rfl)) hS ?_
   refine tq 5 hS ?_
   refine tq 6 hS ?_
   refine tq 7 hS ?_
   refine tp 8 rfl (fun w hSw=>by have q:=IntWalk.i64_in (4*(k:Int)) (by omega);go_simp;all_goals(with_reducible rfl)) hS ?_
   refine tp 9 rfl (fun w hSw=>by have q:=IntWalk.i64_in (4*(k:Int)+1) (by omega);go_simp;all_goals(with_reducible rfl)) hS ?_
   refine tp 10 rfl (fun w hSw=>by have q0:(0:Int)≤4*(k:Int)+1:=(by omega);have q1:4*(k:Int)+1<64:=(by omega);have q2:(4*(k:Int)+1).toNat=4*k+1:=(by omega);go_simp;all_goals(with_reducible rfl)) hS ?_
   refine tp 11 rfl (fun w hSw=>by obtain⟨j0,j1,j2,j3⟩:=hSw;go_simp;all_goals(with_reducible rfl)) hS ?_
   refine tq 12 hS ?_
   refine tq 13 hS ?_
   refine tq 14 hS ?_
   refine tq 15 hS ?_
   refine tp 16 rfl (fun w hSw=>by have q:=IntWalk.i64_in (4*(k:Int)) (by omega);go_simp;all_goals(with_reducible rfl)) hS ?_
   refine tp 17 rfl (fun w hSw=>by have q:=IntWalk.i64_in (4*(k:Int)+2) (by omega);go_simp;all_goals(with_reducible rfl)) hS ?_
   refine tp 18 rfl (fun w hSw=>by have q0:(0:Int)≤4*(k:Int)+2:=(by omega);have q1:4*(k:Int)+2<64:=(by omega);have q2:(4*(k:Int)+2).toNat=4*k+2:=(by omega);go_simp;all_goals(with_reducible rfl)) hS ?_
   refine tp 19 rfl (fun w hSw=>by obtain⟨j0,j1,j2,j3⟩:=hSw;go_simp;all_goals(with_reducible rfl)) hS ?_
   refine tq 20 hS ?_
   refine tq 21 hS ?_
   refine tq 22 hS ?_
   refine tq 23 hS ?_
   refine tp 24 rfl (fun w hSw=>by have q:=IntWalk.i64_in (4*(k:Int)) (by omega);go_simp;all_goals(with_reducible rfl)) hS ?_
   refine tp 25 rfl (fun w hSw=>by have q:=IntWalk.i64_in (4*(k:Int)+3) (by omega);go_simp;all_goals(with_reducible rfl)) hS ?_
   refine tp 26 rfl (fun w hSw=>by have q0:(0:Int)≤4*(k:Int)+3:=(by omega);have q1:4*(k:Int)+3<64:=(by omega);have q2:(4*(k:Int)+3).toNat=4*k+3:=(by omega);go_simp;all_goals(with_reducible rfl)) hS ?_
   refine tp 27 rfl (fun w hSw=>by obtain⟨j0,j1,j2,j3⟩:=hSw;go_simp;all_goals(with_reducible rfl)) hS ?_
   refine tq 28 hS ?_
   refine tq 29 hS ?_
   rw[HBE.out]
   refine tp 30 rfl (fun w hSw=>by have q0:(0:Int)≤(k:Int):=(by omega);have q1:(k:Int)<64:=(by omega);go_simp;all_goals(with_reducible rfl)) hS ?_
   refine tr 31 (fun K hK=> ?_)
   go_simp
   refine hK.out _ _ BZ.out (fun _=> ?_)
   clear hK K
   refine wpAnyH_done (by kernel_rfl) ?_ _
   go_wp2_with fail
   go_roundw
   case rel=>
    refine⟨k+1,by omega,by go_num,rb.setOther (by simp;omega) _,r0.setOther (by simp;omega) _,?_,(hb.setCell (by simp;omega) _).drew⟩
    exact(r1.set k _).congr fun i _=>by rw[←HN.out];exact Gl blk k i
   case measure=>simp[intOf];omega
  ·obtain rfl:k=16:=by omega
   clear hlt rb HW hk
   rw[show((16:Nat):Int)=16 from rfl]
   go_wp2_with fail
   go_loopw [5] (fun i wr=> ∃k:Nat,16≤k∧k≤64∧i= .int .i64 k∧wr.rowIs g1 277 64 (cellW blk 0)∧wr.rowIs g2 277 64 (cellW blk k)∧Below w.heap.size w wr) (fun i _=>64-(intOf i).toNat)
   case atStart=>exact⟨16,by omega,by omega,rfl,r0,r1,hb⟩
   case round=>
    clear r0 r1 hb
    obtain⟨k,als,hk,rfl,r0,r1,hb⟩:=hrel
    by_cases hlt:k<64
    ·have hc1:_:=r1.cell (i:=k-15) (by omega)
     have hc2:_:=r1.cell (i:=k-2) (by omega)
     have hc3:_:=r1.cell (i:=k-16) (by omega)
     have hc4:_:=r1.cell (i:=k-7) (by omega)
     have hw:=r1.cell (i:=k) (by omega)
     have hf:=r1.frozen k
     have hn:=Sj blk (gW blk k) k als
     unfold cellW at hc1 hc2 hc3 hc4
     generalize(gW blk k).getD (k-15) 0=x at*
     generalize(gW blk k).getD (k-2) 0=y at*
     generalize(gW blk k).getD (k-16) 0=a at*
     generalize(gW blk k).getD (k-7) 0=b at*
     have HS0:=Lib.hid (aeG x)
     have yM:=Lib.hid (aeH y)
     generalize s0 x=p at*
     generalize s1 y=q at*
     have qR:=Lib.hid hn
     have HN1:=Lib.hid (add32 a p)
     generalize a+p=v1 at*
     have rP:=Lib.hid (add32 v1 b)
     generalize v1+b=v2 at*
     have HN3:=Lib.hid (add32 v2 q)
     generalize v2+q=v at*
     clear hn
     have hother: ∀j,j<k→(wr.drew.setCell ⟨g2,k,none⟩ (aQ v)).drew.cell? ⟨g2,j,none⟩=wr.cell? ⟨g2,j,none⟩:=fun j hj=>World.cell?_setCell_other _ _ _ _ (by intro e;injection e with _ e;omega)
     have BZ:Hid ((wr.drew.setCell ⟨g2,k,none⟩ (aQ v)).drew.cell? ⟨g2,k-16,none⟩=some (aQ a)∧(wr.drew.setCell ⟨g2,k,none⟩ (aQ v)).drew.cell? ⟨g2,k-7,none⟩=some (aQ b)):=
      Lib.hid ⟨(hother _ (by omega)).trans hc3,(hother _ (by omega)).trans hc4⟩
     have k1:wr.drew.cell? ⟨g2,k-15,none⟩=some (aQ x):=hc1
     have k2:wr.drew.cell? ⟨g2,k-2,none⟩=some (aQ y):=hc2
     have k3:wr.drew.drew.cell? ⟨g2,k-16,none⟩=some (aQ a):=hc3
     have k4:wr.drew.drew.cell? ⟨g2,k-7,none⟩=some (aQ b):=hc4
     clear hother hc1 hc2 hc3 hc4
     go_wp2_with fail
     refine wp_region_held_drew (S:=fun w'=>w'.cell? ⟨g2,k-15,none⟩=some (aQ x)∧w'.cell? ⟨g2,k-2,none⟩=some (aQ y)) (by kernel_rfl) ⟨k1,k2⟩ (fun hS=> ?_)
     refine tq 0 hS ?_
     refine tp 1 rfl (fun w hSw=>by have q:=IntWalk.i64_in ((k:Int)-15) (by omega);go_simp;all_goals(with_reducible rfl)) hS ?_
     refine tp 2 rfl (fun w hSw=>by have q0:(0:Int)≤(k:Int)-15:=(by omega);have q1:(k:Int)-15<64:=(by omega);have q2:((k:Int)-15).toNat=k-15:=(by omega);have q3:(15:Int)≤(k:Int):=(by omega);go_simp;all_goals(with_reducible rfl)) hS ?_
     refine tp 3 rfl (fun w hSw=>by obtain⟨j0,j1⟩:=hSw;go_simp;all_goals(with_reducible rfl)) hS ?_
     refine tq 4 hS ?_
     refine tp 5 rfl (fun w hSw=>by have q:=IntWalk.i64_in ((k:Int)-2) (by omega);go_simp;all_goals(with_reducible rfl)) hS ?_
     refine tp 6 rfl (fun w hSw=>by have q0:(0:Int)≤(k:Int)-2:=(by omega);have q1:(k:Int)-2<64:=(by omega);have q2:((k:Int)-2).toNat=k-2:=(by omega);have q3:(2:Int)≤(k:Int):=(by omega);go_simp;all_goals(with_reducible rfl)) hS ?_
     refine tp 7 rfl (fun w hSw=>by obtain⟨j0,j1⟩:=hSw;go_simp;all_goals(with_reducible rfl)) hS ?_
     refine tq 8 hS ?_
     refine tq 9 hS ?_
     refine wpAnyH_done (by kernel_rfl) ?_ _
     go_wp2_with fail
     refine(abh x _).mono ?_
     rintro e w' ⟨rfl,rfl⟩
     go_wp2_with fail
     refine(WS x _).mono ?_
     rintro e w' ⟨rfl,rfl⟩
     go_wp2_with fail
     refine(WR y _).mono ?_
     rintro e w' ⟨rfl,rfl⟩
     go_wp2_with fail
     refine(WT y _).mono ?_
     rintro e w' ⟨rfl,rfl⟩
     go_wp2_with fail
     rw[HS0.out,yM.out]
     refine wp_region_held_drew (S:=fun w'=>w'.cell? ⟨g2,k-16,none⟩=some (aQ a)∧w'.cell? ⟨g2,k-7,none⟩=some (aQ b)) (by kernel_rfl) ⟨k3,k4⟩ (fun hS=> ?_)
     refine tq 0 hS ?_
     refine tq 1 hS ?_
     refine tp 2 rfl (fun w hSw=>by have q:=IntWalk.i64_in ((k:Int)-16) (by omega);go_simp;all_goals(with_reducible rfl)) hS ?_
     refine tp 3 rfl (fun w hSw=>by have q0:(0:Int)≤(k:Int)-16:=(by omega);have q1:(k:Int)-16<64:=(by omega);have q2:((k:Int)-16).toNat=k-16:=(by omega);have q3:(16:Int)≤(k:Int):=(by omega);go_simp;all_goals(with_reducible rfl)) hS ?_
     refine tp 4 rfl (fun w hSw=>by obtain⟨j0,j1⟩:=hSw;go_simp;all_goals(with_reducible rfl)) hS ?_
     refine tq 5 hS ?_
     refine tq 6 hS ?_
     rw[HN1.out]
     refine tq 7 hS ?_
     refine tp 8 rfl (fun w hSw=>by have q:=IntWalk.i64_in ((k:Int)-7) (by omega);go_simp;all_goals(with_reducible rfl)) hS ?_
     refine tp 9 rfl (fun w hSw=>by have q0:(0:Int)≤(k:Int)-7:=(by omega);have q1:(k:Int)-7<64:=(by omega);have q2:((k:Int)-7).toNat=k-7:=(by omega);have q3:(7:Int)≤(k:Int):=(by omega);go_simp;all_goals(with_reducible rfl)) hS ?_
     refine tp 10 rfl (fun w hSw=>by obtain⟨j0,j1⟩:=hSw;go_simp;all_goals(with_reducible rfl)) hS ?_
     refine tq 11 hS ?_
     rw[rP.out]
     refine tq 12 hS ?_
     refine tq 13 hS ?_
     rw[HN3.out]
     refine tp 14 rfl (fun w hSw=>by have q0:(0:Int)≤(k:Int):=(by omega);have q1:(k:Int)<64:=(by omega);go_simp;all_goals(with_reducible rfl)) hS ?_
     refine tr 15 (fun K hK=> ?_)
     go_simp
     refine hK.out _ _ BZ.out (fun _=> ?_)
     clear hK K
     refine wpAnyH_done (by kernel_rfl) ?_ _
     go_wp2_with fail
     go_roundw
     case rel=>
      refine⟨k+1,by omega,by omega,by go_num,r0.setOther (by simp;omega) _,?_,(hb.setCell (by simp;omega) _).drew.drew⟩
      exact(r1.set k _).congr fun i _=>by rw[←Gl blk k i,qR.out]
     case measure=>simp[intOf];omega
    ·obtain rfl:k=64:=by omega
     obtain⟨cs,hcs,hn,hv⟩:=r1
     obtain⟨os,hos,hno,hvo⟩:=r0
     obtain rfl:=WW blk hn hv
     go_wp2_with (first | (refine wpList_load_row rfl 277 _ rfl g2 rfl 277 (words blk) _ _ hcs Tryz.underlying277 rfl ?c1 ?_) | (refine wpList_store_row rfl 277 _ _ rfl g1 (words blk) rfl rfl 277 os hos ?c2 ?c3 ?c4 ?_))
     case c1=>rw[BU,hn]
     case c2=>rw[BU,hn]
     case c3=>rw[hno,hn]
     case c4=>exact Gm blk
     refine bodyPost_ret (results_cell_row rfl _ _ g1 277 (words blk) _ _ rfl (setRow_heap _ _ _ _ _ _ hos) Tryz.underlying277 rfl (by rw[BU,hn])) rfl ?_
     exact⟨rfl,below_setRow hb (by omega) _⟩
structure R8 where
 a:BitVec 32
 b:BitVec 32
 c:BitVec 32
 d:BitVec 32
 e:BitVec 32
 f:BitVec 32
 g:BitVec 32
 h:BitVec 32
def WX:List (BitVec 32):=[1116352408,1899447441,3049323471,3921009573,961987163,1508970993,2453635748,2870763221,3624381080,310598401,607225278,1426881987,1925078388,2162078206,2614888103,3248222580,3835390401,4022224774,264347078,604807628,770255983,1249150122,1555081692,1996064986,2554220882,2821834349,2952996808,3210313671,3336571891,3584528711,113926993,338241895,666307205,773529912,1294757372,1396182291,1695183700,1986661051,2177026350,2456956037,2730485921,2820302411,3259730800,3345764771,3516065817,3600352804,4094571909,275423344,430227734,506948616,659060556,883997877,958139571,1322822218,1537002063,1747873779,1955562222,2024104815,2227730452,2361852424,2428436474,2756734187,3204031479,3329325298]
def Kc(i:Nat):BitVec 32:=WX.getD i 0
def tOf(r:R8)(k v:BitVec 32):BitVec 32:=r.h+(rO 6 r.e ^^^ rO 11 r.e ^^^ rO 25 r.e)+((r.e &&& r.f) ^^^ (~~~r.e &&& r.g))+k+v
def uOf(r:R8):BitVec 32:=(rO 2 r.a ^^^ rO 13 r.a ^^^ rO 22 r.a)+((r.a &&& r.b) ^^^ (r.a &&& r.c) ^^^ (r.b &&& r.c))
def roundOf(k v:BitVec 32)(r:R8):R8:=⟨tOf r k v+uOf r,r.a,r.b,r.c,r.d+tOf r k v,r.e,r.f,r.g⟩
def wd(blk:List UInt8)(i:Nat):BitVec 32:=(gW blk 64).getD i 0
def rounds(blk:List UInt8):Nat→R8→R8
 | 0,r=>r
 | n+1,r=>roundOf (Kc n) (wd blk n) (rounds blk n r)
def R8.get(r:R8)(i:Nat):BitVec 32:=if i=0 then r.a else if i=1 then r.b else if i=2 then r.c else if i=3 then r.d else if i=4 then r.e else if i=5 then r.f else if i=6 then r.g else r.h
def R8.add(r s:R8):R8:=⟨r.a+s.a,r.b+s.b,r.c+s.c,r.d+s.d,r.e+s.e,r.f+s.f,r.g+s.g,r.h+s.h⟩
def vV(r:R8)(blk:List UInt8):R8:=r.add (rounds blk 64 r)
abbrev R8.agg(r:R8):Array Value:= #[aQ r.a,aQ r.b,aQ r.c,aQ r.d,aQ r.e,aQ r.f,aQ r.g,aQ r.h]
theorem R8.Ij(r:R8)(i:Nat)(h:i<8):r.agg[i]? =some (aQ (r.get i)):=by
 match i,h with
 | 0,_ | 1,_ | 2,_ | 3,_ | 4,_ | 5,_ | 6,_ | 7,_=>rfl
def pI:Array Value:=Array.replicate 8 (.int .u32 0)
theorem aeJ:(Tryz.prog.info? 250).map (fun i=>(i.zero,i.size))=some (some (.agg pI),8):=by kernel_rfl
theorem qy:(Tryz.prog.info? 250).map (·.size)=some 8:=by kernel_rfl
theorem NR:(Tryz.prog.info? 251).map (·.size)=some 64:=by kernel_rfl
theorem WY(blk:List UInt8)(i:Nat)(h:i<64):(words blk)[i]? =some (aQ (wd blk i)):=by
 unfold words
 rw[List.getElem?_toArray,List.getElem?_map,List.getElem?_range h];rfl
theorem NS(blk:List UInt8):(words blk).size=64:=by simp[words]
theorem J9(blk:List UInt8)(j:Nat)(hj:j<64)(w:World):(Instr.index 277 (.agg (words blk)) (.int .i64 j)).run Tryz.prog w= .ok (aQ (wd blk j)) w:=by
 have hs:(Tryz.prog.info? 24).map (·.size)=some 1:=by kernel_rfl
 have hg:=WY blk j hj
 cases hq:Tryz.prog.info? 24 with
 | none=>rw[hq]at hs;simp at hs
 | some i=>
  have hsz:i.size=1:=by rw[hq]at hs;simpa using hs
  simp[Instr.index,asIntOf,run_underlying Tryz.underlying277,Sem.run_bind,sizeOf,typeInfo,hq,hsz,part,hg,hj]
theorem gX(r:R8)(j:Nat)(hj:j<8)(w:World):(Instr.index 250 (.agg r.agg) (.int .i64 j)).run Tryz.prog w= .ok (aQ (r.get j)) w:=by
 have hs:(Tryz.prog.info? 24).map (·.size)=some 1:=by kernel_rfl
 have hg:=r.Ij j hj
 generalize r.agg=A at*
 cases hq:Tryz.prog.info? 24 with
 | none=>rw[hq]at hs;simp at hs
 | some i=>
  have hsz:i.size=1:=by rw[hq]at hs;simpa using hs
  simp[Instr.index,asIntOf,run_underlying Tryz.underlying250,Sem.run_bind,sizeOf,typeInfo,hq,hsz,part,hg,hj]
theorem abj(r:R8){cs:Array Value}(hn:cs.size=8)(hv: ∀i,i<8→cs[i]? =some (aQ (r.get i))):cs=r.agg:=by
 apply Array.ext_getElem?
 intro i
 by_cases hi:i<8
 ·rw[hv i hi,r.Ij i hi]
 ·rw[Array.getElem?_eq_none (by omega),Array.getElem?_eq_none (by simp;omega)]
theorem add_get(r s:R8)(i:Nat):(r.add s).get i=r.get i+s.get i:=by
 unfold R8.get R8.add
 simp only
 repeat(split;rfl)
 rfl
theorem Cb(r:R8):r.agg.all (·.oneCell')=true:=by simp[Value.oneCell']
theorem Ik(a:BitVec 32):bits .xor .u32 IntKind.u32.max (a.toNat:Int)=((~~~a).toNat:Int):=by
 have h:IntKind.u32.max=((4294967295#32).toNat:Int):=rfl
 have e:4294967295#32 ^^^ a= ~~~a:=by
  rw[show(4294967295#32)=BitVec.allOnes 32 from rfl,BitVec.xor_comm,BitVec.xor_allOnes]
 rw[h,Az,e]
theorem abk(a:BitVec 32):bits .xor .u32 (if IntKind.u32.signed=true then -1 else IntKind.u32.max) (a.toNat:Int)=((~~~a).toNat:Int):=by
 rw[if_neg (by decide)];exact Ik a
structure St where
 ws:R8
 blk:List UInt8
 n:Nat
def St.put(s:St)(b:UInt8):St:=⟨if s.n%64=63 then vV s.ws (s.blk.set (s.n%64) b)else s.ws,s.blk.set (s.n%64) b,s.n+1⟩
def St.puts(s:St)(l:List UInt8):St:=l.foldl St.put s
theorem St.Ko(s:St)(a b:List UInt8):s.puts (a++b)=(s.puts a).puts b:=by unfold St.puts;rw[List.foldl_append]
theorem St.WZ(s:St):s.puts []=s:=rfl
theorem St.Gn(s:St)(b:UInt8)(l:List UInt8):s.puts (b::l)=(s.put b).puts l:=rfl
def lay(blk:List UInt8)(o:Nat)(l:List UInt8):List UInt8:=blk.take o++(l++blk.drop (o+l.length))
theorem QJ(blk:List UInt8)(o:Nat):lay blk o []=blk:=by simp[lay]
theorem NT(blk:List UInt8)(o:Nat)(l:List UInt8)(h:o+l.length≤blk.length):(lay blk o l).length=blk.length:=by
 unfold lay;simp;omega
theorem Xa(blk:List UInt8)(o:Nat)(b:UInt8)(l:List UInt8)(h:o<blk.length):lay (blk.set o b) (o+1) l=lay blk o (b::l):=by
 unfold lay
 have h1:(blk.set o b).take (o+1)=blk.take o++[b]:=by
  rw[List.take_succ_eq_append_getElem (by simpa using h),List.take_set_of_le (Nat.le_refl o)]
  simp
 have h2:(blk.set o b).drop (o+1+l.length)=blk.drop (o+1+l.length):=List.drop_set_of_lt (by omega)
 rw[h1,h2]
 simp[show o+1+l.length=o+(l.length+1) by omega]
theorem St.NU(l:List UInt8): ∀s:St,s.blk.length=64→s.n%64+l.length≤64→
  s.puts l=⟨if s.n%64+l.length=64 then vV s.ws (lay s.blk (s.n%64) l)else s.ws,lay s.blk (s.n%64) l,s.n+l.length⟩:=by
 induction l with
 | nil=>
  intro s hb hl
  have: ¬(s.n%64+([]:List UInt8).length=64):=by simp;omega
  rw[if_neg this,QJ];rfl
 | cons b l ih=>
  intro s hb hl
  rw[St.Gn]
  simp only[List.length_cons]at hl ⊢
  have hc:=Xa s.blk (s.n%64) b l (by omega)
  by_cases h63:s.n%64=63
  ·have:l=[]:=List.eq_nil_of_length_eq_zero (by omega)
   subst this
   rw[St.WZ,QJ]at*
   unfold St.put
   rw[if_pos h63,if_pos (by simp;omega),←hc];simp
  ·have hp:s.put b=⟨s.ws,s.blk.set (s.n%64) b,s.n+1⟩:=by unfold St.put;rw[if_neg h63]
   have hn:(s.n+1)%64=s.n%64+1:=by omega
   have:=ih (s.put b) (by rw[hp];simpa using hb) (by rw[hp];simp only;omega)
   rw[this,hp]
   simp only
   rw[hn,hc,show s.n%64+1+l.length=s.n%64+(l.length+1) by omega,show s.n+1+l.length=s.n+(l.length+1) by omega]
theorem St.Xb(l:List UInt8): ∀s:St,(s.puts l).n=s.n+l.length:=by
 induction l with
 | nil=>intro s;rfl
 | cons b l ih=>intro s;rw[St.Gn,ih];simp[St.put];omega
def St.cells(s:St):List Value:=s.ws.agg.toList++(s.blk.map B8++[.int .u64 (s.n:Nat)])
theorem St.qA(s:St)(h:s.blk.length=64):s.cells.length=73:=by unfold St.cells;simp[h]
structure bZ(w:World)(g:Nat)(s:St):Prop where
 at_:w.heap[g]? =some (.cells s.cells.toArray 253 (0,0))
 len:s.blk.length=64
theorem bZ.cellAt{w:World}{g:Nat}{s:St}(h:bZ w g s)(i:Nat):w.cell? ⟨g,i,none⟩=s.cells[i]? :=by
 rw[cell_of_row _ _ _ _ _ _ h.at_];simp
theorem St.NV(s:St)(h:s.blk.length=64):s.cells[72]? =some (.int .u64 (s.n:Nat)):=by
 unfold St.cells
 rw[List.getElem?_append_right (by simp),List.getElem?_append_right (by simp[h])]
 simp[h]
theorem St.one(s:St): ∀v∈s.cells,v.oneCell'=true:=by
 intro v hv
 unfold St.cells at hv
 simp only[List.mem_append,List.mem_map]at hv
 rcases hv with h | ⟨b,_,rfl⟩ | h
 ·simp at h;rcases h with rfl | rfl | rfl | rfl | rfl | rfl | rfl | rfl<;>rfl
 ·rfl
 ·simp at h;subst h;rfl
end Go.Proofs.YtgfpocdiojifoaaGreatDoor
