import Derived.Test.YtgfpocdiojifoaaGreatDoorZ01
import Derived.MapKept
import Derived.Deep.RegionHeld3
namespace Go.Proofs.YtgfpocdiojifoaaGreatDoor
set_option maxRecDepth 100000
set_option maxHeartbeats 8000000
open Go.RowKit Go.Proofs.Tryz
variable{w:World}
theorem VE(w:World)(r clock:Nat)(k:Int)(es:Array MapEntry)(v:Value)(hb:w.heap[r]? =some (.map es clock))(hf:Instr.findNow (.int .i64) (.int .i64 k) es.toList 0=some none):
  (Instr.mapUpdate 229 (.map (some r)) (.int .i64 k) v).run prog w= .ok () {w with heap:=w.heap.setIfInBounds r (.map (es.push {key:= .int .i64 k,val:=v,born:=clock}) (clock+1))}:=by
 have hc:(Instr.checkKey false 10000 3 (.int .i64 k)).run prog w= .ok () w:=MapKept.run_checkKey (k:= .int .i64 k) underlying3 (by simp[MapKept.IsKey]) false 9999;simp[Instr.mapUpdate,run_underlying underlying229,MapKept.run_getObj_map hb,hc,MapKept.run_findKey underlying3 hf,MapKept.run_setObj_map _ hb,Result.andThen]
def xJ:Array MapEntry:= #[⟨.int .i64 5,.func (.func 190) #[] #[],0⟩,⟨.int .i64 7,.func (.func 192) #[] #[],1⟩,⟨.int .i64 9,.func (.func 193) #[] #[],2⟩,⟨.int .i64 10,.func (.func 195) #[] #[],3⟩]
def ER(w:World)(e:Ending)(w':World):Prop:= ∃r,e= .returned (.map (some r))∧w'.heap[r]? =some (.map xJ 4)∧w.heap.size≤r∧Below w.heap.size w w'
theorem sf{W:World}{r c:Nat}{es:Array MapEntry}(k:Int)(v:Value)(hb:W.heap[r]? =some (.map es c))(hf:Instr.findNow (.int .i64) (.int .i64 k) es.toList 0=some none)(hB:Below w.heap.size w W)(hr:w.heap.size≤r):
  ∃W',(Instr.mapUpdate 229 (.map (some r)) (.int .i64 k) v).run prog W= .ok () W'∧W'.heap[r]? =some (.map (es.push {key:= .int .i64 k,val:=v,born:=c}) (c+1))∧Below w.heap.size w W':=by
 refine⟨_,VE W r c k es v hb hf,(MapKept.heap_set hb).1,?_⟩;exact⟨hB.os,hB.tape,hB.output,by simpa using hB.size,fun i hi=>((MapKept.heap_set hb).2 i aa).trans (hB.block i hi)⟩
theorem uq(w:World):Calls prog 155 #[] w (ER w):=by have KV:=run_makeMap (P:=prog) 229 w;have b0:=(MapKept.heap_alloc w (.map #[] 0)).1;have B0:Below w.heap.size w (w.alloc (.map #[] 0)):=ap;generalize w.alloc (.map #[] 0)=W0 at*;obtain⟨W1,i1,b1,B1⟩:=sf 5 (.func (.func 190) #[] #[]) b0 rfl B0 (Nat.le_refl _);obtain⟨W2,i2,b2,B2⟩:=sf 7 (.func (.func 192) #[] #[]) b1 rfl B1 (Nat.le_refl _);obtain⟨W3,i3,b3,B3⟩:=sf 9 (.func (.func 193) #[] #[]) b2 rfl B2 (Nat.le_refl _);obtain⟨W4,i4,b4,B4⟩:=sf 10 (.func (.func 195) #[] #[]) b3 rfl B3 (Nat.le_refl _);have iz:=hdd b4;clear b0 b1 b2 b3 b4;go_enter func155,ntmps155;go_wp2_with fail;go_ret;exact⟨w.heap.size,rfl,iz.out,Nat.le_refl _,B4⟩
theorem ES(w:World)(r:Nat)(id:Int)(hb:w.heap[r]? =some (.map xJ 4))(a:Option (Nat×Value))(hf:Instr.findNow (.int .i64) (.int .i64 id) xJ.toList 0=some a)(z:Value)(hz:(zeroValue 227).run prog w= .ok z w):
  (Instr.lookup 229 (.map (some r)) (.int .i64 id) true).run prog w= .ok (.tuple #[(a.map (·.2)).getD z,.bool a.isSome]) w:=by
 have hc: ∀e,(Instr.checkKey e 10000 3 (.int .i64 id)).run prog w= .ok () w:=fun e=>MapKept.run_checkKey (k:= .int .i64 id) underlying3 (by simp[MapKept.IsKey]) e 9999;cases a<;>simp[Instr.lookup,run_underlying underlying229,MapKept.run_getObj_map hb,hc,MapKept.run_findKey underlying3 hf,hz,Result.andThen]
theorem Rk:Instr.findNow (.int .i64) (.int .i64 5) xJ.toList 0=some (some (0,.func (.func 190) #[] #[])):=rfl
theorem Rl:Instr.findNow (.int .i64) (.int .i64 7) xJ.toList 0=some (some (1,.func (.func 192) #[] #[])):=rfl
theorem Rm:Instr.findNow (.int .i64) (.int .i64 9) xJ.toList 0=some (some (2,.func (.func 193) #[] #[])):=rfl
theorem Kp:Instr.findNow (.int .i64) (.int .i64 10) xJ.toList 0=some (some (3,.func (.func 195) #[] #[])):=rfl
theorem Mi(id:Int)(h5:id≠5)(h7:id≠7)(h9:id≠9)(uR:id≠10):Instr.findNow (.int .i64) (.int .i64 id) xJ.toList 0=some none:=by
 have e5:(id==5)=false:=by simp[h5]
 have e7:(id==7)=false:=by simp[h7]
 have e9:(id==9)=false:=by simp[h9]
 have J':(id==10)=false:=by simp[uR]
 simp[xJ,Instr.findNow,Instr.sameNow,e5,e7,e9,J']
theorem bv_and(a b:BitVec 32):bits .and .u32 (a.toNat:Int) (b.toNat:Int)=((a &&& b).toNat:Int):=by rw[u32_and_nat _ _ a.isLt b.isLt,BitVec.toNat_and]
theorem aeX(a b:BitVec 32):bits .or .u32 (a.toNat:Int) (b.toNat:Int)=((a ||| b).toNat:Int):=by rw[u32_or_nat _ _ a.isLt b.isLt,BitVec.toNat_or]
theorem Mj(a b:BitVec 32):bits .andNot .u32 (a.toNat:Int) (b.toNat:Int)=((a &&& ~~~b).toNat:Int):=by rw[u32_andNot_nat _ _ a.isLt b.isLt,BitVec.toNat_and,BitVec.toNat_not]
theorem tD(id:Int)(w:World):Calls prog 197 #[.int .i64 id] w fun e w'=>e= .returned (.bool (id==7||id==10))∧w=w':=by
 by_cases h7:id=7;·subst h7;go_enter func197,ntmps197;go_wp2_with fail;go_ret;exact⟨rfl,rfl⟩
 ·have h7b:(id==7)=false:=by simp[h7]
  rw[h7b,Bool.false_or];clear h7;go_enter func197,ntmps197;go_wp2_with fail;go_ret;exact⟨rfl,rfl⟩
theorem Cg(a b m:BitVec 32)(w:World):Calls prog 191 #[.int .u32 a.toNat,.int .u32 b.toNat,.int .u32 m.toNat] w fun e w'=>e= .returned (.int .u32 ((a &&& ~~~m) ||| (b &&& m)).toNat)∧w=w':=by go_enter func191,ntmps191;go_wp2_with fail;go_ret;exact⟨congrArg (fun n:Int=>Ending.returned (Value.int .u32 n)) (by rw[Mj,bv_and,aeX]),rfl⟩
theorem xK(a b k:Nat)(ha:a<2^k):a ||| b*2^k=a+b*2^k:=by rw[Nat.or_comm,←Nat.shiftLeft_eq,←Nat.shiftLeft_add_eq_or_of_lt ha,Nat.add_comm]
theorem Ch(a b c d:Nat)(ha:a<256)(hb:b<256)(hc:c<256)(hd:d<256):
  bits .or .u32 (bits .or .u32 (bits .or .u32 (IntKind.u32.wrap (a:Int)) (IntKind.u32.wrap (IntKind.u32.wrap (b:Int)*256))) (IntKind.u32.wrap (IntKind.u32.wrap (c:Int)*65536))) (IntKind.u32.wrap (IntKind.u32.wrap (d:Int)*16777216))=((a+b*256+c*65536+d*16777216:Nat):Int):=by
 have w0: ∀x:Nat,x<256→IntKind.u32.wrap (x:Int)=(x:Int):=fun x hx=>l9;rw[w0 a ha,w0 b hb,w0 c hc,w0 d hd];have e1:IntKind.u32.wrap ((b:Int)*256)=((b*256:Nat):Int):=l9;have e2:IntKind.u32.wrap ((c:Int)*65536)=((c*65536:Nat):Int):=l9;have e3:IntKind.u32.wrap ((d:Int)*16777216)=((d*16777216:Nat):Int):=l9;have o1:a ||| b*256=a+b*256:=xK a b 8 aa;have o2:(a+b*256) ||| c*65536=a+b*256+c*65536:=xK _ c 16 aa;have o3:(a+b*256+c*65536) ||| d*16777216=a+b*256+c*65536+d*16777216:=xK _ d 24 aa;rw[e1,e2,e3,u32_or_nat _ _ aa aa,o1,u32_or_nat _ _ aa aa,o2,u32_or_nat _ _ aa aa,o3]
def word(low:Bool)(x0 x1 x2 x3:UInt8):Nat:=if low then x0.toNat+x1.toNat*256+x2.toNat*65536+x3.toNat*16777216 else x3.toNat+x2.toNat*256+x1.toNat*65536+x0.toNat*16777216
theorem Mk(id:Int)(b off c:Nat)(x0 x1 x2 x3:UInt8)(w:World)(h0:w.cell? ⟨b,off,none⟩=some (B8 x0))(h1:w.cell? ⟨b,off+1,none⟩=some (B8 x1))(h2:w.cell? ⟨b,off+2,none⟩=some (B8 x2))(h3:w.cell? ⟨b,off+3,none⟩=some (B8 x3)):
  Calls prog 157 #[.int .i64 id,.slice (some ⟨b,off,none⟩) 4 c] w fun e w'=>e= .returned (.int .u32 (word (id==7||id==10) x0 x1 x2 x3:Nat))∧Below w.heap.size w w':=by
 have HL:=hdd (tD id w);have k0:w.drew.cell? ⟨b,off,none⟩=some (B8 x0):=h0;have k1:w.drew.cell? ⟨b,off+1,none⟩=some (B8 x1):=h1;have k2:w.drew.cell? ⟨b,off+2,none⟩=some (B8 x2):=h2;have k3:w.drew.cell? ⟨b,off+3,none⟩=some (B8 x3):=h3;generalize(id==7||id==10)=lo at*;cases lo with
 | true=>
  have HW:=hdd (Ch _ _ _ _ x0.toNat_lt x1.toNat_lt x2.toNat_lt x3.toNat_lt);go_enter func157,ntmps157;go_wp2_with fail;refine HL.out.mono ?_;rintro e w' ⟨rfl,rfl⟩;go_wp2_with fail;refine wp_region_held_drew (S:=fun w'=>w'.cell? ⟨b,off,none⟩=some (B8 x0)∧w'.cell? ⟨b,off+1,none⟩=some (B8 x1)∧w'.cell? ⟨b,off+2,none⟩=some (B8 x2)∧w'.cell? ⟨b,off+3,none⟩=some (B8 x3)) ak ⟨k0,k1,k2,k3⟩ (fun hS=> ?_);refine af 0 hS (h:=af 1 hS (h:=aZ 2 hS (h:=af 3 hS (h:=af 4 hS (h:=af 5 hS (h:=aZ 6 hS (h:=af 7 hS (h:=af 8 hS (h:=af 9 hS (h:=af 10 hS (h:=af 11 hS (h:= ?_))))))))))));refine aZ 12 hS (h:=af 13 hS (h:=af 14 hS (h:=af 15 hS (h:=af 16 hS (h:=af 17 hS (h:=aZ 18 hS (h:=af 19 hS (h:=af 20 hS (h:=af 21 hS (h:=af 22 hS (h:= ?_)))))))))));refine wpAnyH_done ak ?_ _;rw[HW.out];go_wp2_with fail;go_ret;exact⟨rfl,(Below.refl _ _).drew⟩
 | false=>
  have HW:=hdd (Ch _ _ _ _ x3.toNat_lt x2.toNat_lt x1.toNat_lt x0.toNat_lt);go_enter func157,ntmps157;go_wp2_with fail;refine HL.out.mono ?_;rintro e w' ⟨rfl,rfl⟩;go_wp2_with fail;refine wp_region_held_drew (S:=fun w'=>w'.cell? ⟨b,off,none⟩=some (B8 x0)∧w'.cell? ⟨b,off+1,none⟩=some (B8 x1)∧w'.cell? ⟨b,off+2,none⟩=some (B8 x2)∧w'.cell? ⟨b,off+3,none⟩=some (B8 x3)) ak ⟨k0,k1,k2,k3⟩ (fun hS=> ?_);refine af 0 hS (h:=af 1 hS (h:=aZ 2 hS (h:=af 3 hS (h:=af 4 hS (h:=af 5 hS (h:=aZ 6 hS (h:=af 7 hS (h:=af 8 hS (h:=af 9 hS (h:=af 10 hS (h:=af 11 hS (h:= ?_))))))))))));refine aZ 12 hS (h:=af 13 hS (h:=af 14 hS (h:=af 15 hS (h:=af 16 hS (h:=af 17 hS (h:=aZ 18 hS (h:=af 19 hS (h:=af 20 hS (h:=af 21 hS (h:=af 22 hS (h:= ?_)))))))))));refine wpAnyH_done ak ?_ _;rw[HW.out];go_wp2_with fail;go_ret;exact⟨rfl,(Below.refl _ _).drew⟩
def Rn(w:World)(b i:Nat)(y0 y1 y2 y3:Nat):World:=(((w.setCell ⟨b,i,none⟩ (.int .u8 (y0:Nat))).setCell ⟨b,i+1,none⟩ (.int .u8 (y1:Nat))).setCell ⟨b,i+2,none⟩ (.int .u8 (y2:Nat))).setCell ⟨b,i+3,none⟩ (.int .u8 (y3:Nat))
def X7(w:World)(b i:Nat)(y0 y1 y2 y3:Nat):World:=(((w.setCell ⟨b,i+3,none⟩ (.int .u8 (y3:Nat))).setCell ⟨b,i+2,none⟩ (.int .u8 (y2:Nat))).setCell ⟨b,i+1,none⟩ (.int .u8 (y1:Nat))).setCell ⟨b,i,none⟩ (.int .u8 (y0:Nat))
theorem VF(id:Int)(hid:(id==7||id==10)=true)(b i c W y0 y1 y2 y3:Nat)(x0 x1 x2 x3:Value)(w:World)(hW:W<4294967296)(e0:W%256=y0)(e1:W/256%256=y1)(e2:W/65536%256=y2)(e3:W/16777216%256=y3)
  (h0:w.cell? ⟨b,i,none⟩=some x0) (h1:w.cell? ⟨b,i+1,none⟩=some x1) (h2:w.cell? ⟨b,i+2,none⟩=some x2) (h3:w.cell? ⟨b,i+3,none⟩=some x3)
  (f0:w.frozen? ⟨b,i,none⟩=false) (f1:w.frozen? ⟨b,i+1,none⟩=false) (f2:w.frozen? ⟨b,i+2,none⟩=false) (f3:w.frozen? ⟨b,i+3,none⟩=false):
  Calls prog 156 #[.int .i64 id,.slice (some ⟨b,i,none⟩) 4 c,.int .u32 (W:Nat)] w fun e w'=>e= .returned (.tuple #[])∧Rn w b i y0 y1 y2 y3=w':=by
 have HL:=tD id w;rw[hid]at HL;have yJ:=hdd HL;have g0:(W:Int)%256=(y0:Int):=aa;have g1:(W:Int)/256%256=(y1:Int):=aa;have g2:(W:Int)/65536%256=(y2:Int):=aa;have g3:(W:Int)/16777216=(y3:Int):=aa;have g3':(W:Int)/16777216%256=(y3:Int):=aa;clear HL hid e0 e1 e2 e3;go_enter func156,ntmps156;go_wp2_with fail;refine yJ.out.mono ?_;rintro e w' ⟨rfl,rfl⟩;go_wp2_with fail;refine bodyPost_ret (v:= .tuple #[]) (by simp[results,results156]) rfl ?_;exact⟨rfl,rfl⟩
theorem Ro(id:Int)(hid:(id==7||id==10)=false)(b i c W y0 y1 y2 y3:Nat)(x0 x1 x2 x3:Value)(w:World)(hW:W<4294967296)(e0:W%256=y3)(e1:W/256%256=y2)(e2:W/65536%256=y1)(e3:W/16777216%256=y0)
  (h0:w.cell? ⟨b,i,none⟩=some x0) (h1:w.cell? ⟨b,i+1,none⟩=some x1) (h2:w.cell? ⟨b,i+2,none⟩=some x2) (h3:w.cell? ⟨b,i+3,none⟩=some x3)
  (f0:w.frozen? ⟨b,i,none⟩=false) (f1:w.frozen? ⟨b,i+1,none⟩=false) (f2:w.frozen? ⟨b,i+2,none⟩=false) (f3:w.frozen? ⟨b,i+3,none⟩=false):
  Calls prog 156 #[.int .i64 id,.slice (some ⟨b,i,none⟩) 4 c,.int .u32 (W:Nat)] w fun e w'=>e= .returned (.tuple #[])∧X7 w b i y0 y1 y2 y3=w':=by
 have HL:=tD id w;rw[hid]at HL;have yJ:=hdd HL;have g0:(W:Int)%256=(y3:Int):=aa;have g1:(W:Int)/256%256=(y2:Int):=aa;have g2:(W:Int)/65536%256=(y1:Int):=aa;have g3:(W:Int)/16777216=(y0:Int):=aa;have g3':(W:Int)/16777216%256=(y0:Int):=aa;clear HL hid e0 e1 e2 e3;go_enter func156,ntmps156;go_wp2_with fail;refine yJ.out.mono ?_;rintro e w' ⟨rfl,rfl⟩;go_wp2_with fail;go_end0;exact⟨rfl,rfl⟩
def comb(back:Bool)(n p:Nat):Nat:=if back then(n+4294967296-p)%4294967296 else(n+p)%4294967296
def jP(back:Bool):Nat:=if back then 189 else 120
theorem xL(n p:Nat)(w:World):Calls prog 120 #[.int .u32 (n:Nat),.int .u32 (p:Nat)] w fun e w'=>e= .returned (.int .u32 (comb false n p:Nat))∧w=w':=by
 have hc:((comb false n p:Nat):Int)=((n:Int)+(p:Int))%4294967296:=by unfold comb;simp
 have HC:=hdd hc;clear hc;go_enter func120,ntmps120;go_wp2_with fail;go_ret;exact⟨congrArg (fun n:Int=>Ending.returned (Value.int .u32 n)) HC.out.symm,rfl⟩
theorem Ic(n p:Nat)(w:World)(hn:n<4294967296)(hp:p<4294967296):Calls prog 189 #[.int .u32 (n:Nat),.int .u32 (p:Nat)] w fun e w'=>e= .returned (.int .u32 (comb true n p:Nat))∧w=w':=by
 have hc:((comb true n p:Nat):Int)=((n:Int)-(p:Int))%4294967296:=by unfold comb;simp;omega
 have HC:=hdd hc;clear hc;go_enter func189,ntmps189;go_wp2_with fail;go_ret;exact⟨congrArg (fun n:Int=>Ending.returned (Value.int .u32 n)) HC.out.symm,rfl⟩
theorem oe(back:Bool)(n p:Nat)(w:World)(hn:n<4294967296)(hp:p<4294967296):Calls prog (jP back) #[.int .u32 (n:Nat),.int .u32 (p:Nat)] w fun e w'=>e= .returned (.int .u32 (comb back n p:Nat))∧w=w':=by
 cases back;·exact xL n p w
 ·exact Ic n p w hn hp
def ext(m x:Nat):Nat:=if x%m<m/2 then x%m else x%m+4294967296-m
theorem Am(x:Int):wrap32 x=(x+2147483648)%4294967296-2147483648:=by unfold wrap32;rfl
theorem Ml(x:Nat)(w:World):Calls prog 194 #[.int .u32 (x:Nat),.int .i64 23] w fun e w'=>e= .returned (.int .u32 (ext 8388608 x:Nat))∧w=w':=by go_enter func194,ntmps194;go_wp2_with fail;go_ret;refine⟨congrArg (fun n:Int=>Ending.returned (Value.int .u32 n)) ?_,rfl⟩;rw[Am];unfold ext;split<;>omega
theorem Mm(x:Nat)(w:World):Calls prog 194 #[.int .u32 (x:Nat),.int .i64 18] w fun e w'=>e= .returned (.int .u32 (ext 262144 x:Nat))∧w=w':=by go_enter func194,ntmps194;go_wp2_with fail;go_ret;refine⟨congrArg (fun n:Int=>Ending.returned (Value.int .u32 n)) ?_,rfl⟩;rw[Am];unfold ext;split<;>omega
def mix(lo hi a b:Nat):Nat:=a%2^lo+b/2^lo%2^(hi-lo)*2^lo+a/2^hi*2^hi
theorem l_(lo hi a b:Nat)(h:lo≤hi):mix lo hi a b=(a%2^lo ||| b/2^lo%2^(hi-lo)*2^lo) ||| a/2^hi*2^hi:=by
 unfold mix;have h1:a%2^lo<2^lo:=Nat.mod_lt _ (Nat.two_pow_pos _);rw[xK _ _ lo h1];have h2:b/2^lo%2^(hi-lo)<2^(hi-lo):=Nat.mod_lt _ (Nat.two_pow_pos _);have h3:a%2^lo+b/2^lo%2^(hi-lo)*2^lo<2^hi:=by have h4:(b/2^lo%2^(hi-lo)+1)*2^lo≤2^(hi-lo)*2^lo:=Nat.mul_le_mul_right _ h2;rw[←Nat.pow_add,show hi-lo+lo=hi from aa,Nat.add_mul]at h4;omega
 rw[xK _ _ hi h3]
theorem VG(lo hi a b:Nat)(h:lo≤hi)(j:Nat):(mix lo hi a b).testBit j=if lo≤j∧j<hi then b.testBit j else a.testBit j:=by
 rw[l_ _ _ _ _ h,Nat.testBit_or,Nat.testBit_or,Nat.testBit_mod_two_pow,Nat.testBit_mul_two_pow,Nat.testBit_mul_two_pow,Nat.testBit_mod_two_pow,Nat.testBit_div_two_pow,Nat.testBit_div_two_pow];by_cases h1:lo≤j<;>by_cases h2:j<hi
 ·have e:j-lo+lo=j:=by omega
  have e2:j-lo<hi-lo:=aa;simp[h1,h2,e,e2,Nat.not_lt.mpr h1,Nat.not_le.mpr h2]
 ·have e:j-hi+hi=j:=by omega
  have e2: ¬(j-lo<hi-lo):=aa;simp[h1,h2,e,e2,Nat.not_lt.mpr h1,Nat.not_lt.mp h2]
 ·simp[h1,h2,Nat.not_le.mp h1,Nat.not_le.mpr h2]
 ·omega
theorem ur(lo hi a b:Nat)(h:lo≤hi)(OQ:hi≤32)(ha:a<4294967296):((BitVec.ofNat 32 a &&& ~~~(BitVec.ofNat 32 ((2^(hi-lo)-1)*2^lo))) ||| (BitVec.ofNat 32 b &&& BitVec.ofNat 32 ((2^(hi-lo)-1)*2^lo))).toNat=mix lo hi a b:=by
 apply Nat.eq_of_testBit_eq;intro j;rw[VG lo hi a b h];rw[BitVec.testBit_toNat];by_cases hj:j<32
 ·simp only[BitVec.getLsbD_or,BitVec.getLsbD_and,BitVec.getLsbD_not,BitVec.getLsbD_ofNat,hj,decide_true,Bool.true_and,Nat.testBit_mul_two_pow,Nat.testBit_two_pow_sub_one];by_cases h1:lo≤j<;>by_cases h2:j<hi;·have e2:j-lo<hi-lo:=(by omega);simp[h1,h2,e2]
  ·have e2: ¬(j-lo<hi-lo):=(by omega);simp[h1,h2,e2]
  ·simp[h1]
  ·simp[h1]
 ·rw[if_neg aa];rw[BitVec.getLsbD_of_ge _ _ aa];rw[Nat.testBit_lt_two_pow];exact Nat.lt_of_lt_of_le ha (by have:=Nat.pow_le_pow_right (n:=2) aa (show 32≤j by omega);omega)
theorem iR(lo hi a b m:Nat)(w:World)(h:lo≤hi)(OQ:hi≤32)(ha:a<4294967296)(hb:b<4294967296)(hm:(2^(hi-lo)-1)*2^lo=m)(eY:m<4294967296):
  Calls prog 191 #[.int .u32 (a:Nat),.int .u32 (b:Nat),.int .u32 (m:Nat)] w fun e w'=>e= .returned (.int .u32 (mix lo hi a b:Nat))∧w=w':=by
 have:=Cg (BitVec.ofNat 32 a) (BitVec.ofNat 32 b) (BitVec.ofNat 32 m) w;rw[←hm]at this;rw[ur lo hi a b h OQ ha]at this;rw[hm]at this;simp only[BitVec.toNat_ofNat]at this;rw[Nat.mod_eq_of_lt ha,Nat.mod_eq_of_lt hb,Nat.mod_eq_of_lt eY]at this;exact this
theorem Ci(x k m:Nat)(hx:x<4294967296)(hm:2^k-1=m)(eY:m<4294967296):bits .and .u32 (x:Int) ((m:Nat):Int)=((x%2^k:Nat):Int):=by rw[u32_and_nat _ _ hx eY,←hm,Nat.and_two_pow_sub_one_eq_mod]
theorem m_(x:Nat)(hx:x<4294967296):bits .and .u32 (x:Int) 2667577344=((x/2147483648*2147483648+x/16777216%32*16777216:Nat):Int):=by
 have:=u32_and_nat x 2667577344 hx aa;rw[show((2667577344:Nat):Int)=2667577344 from rfl]at this;rw[this];congr 1;have e:x/2147483648*2147483648+x/16777216%32*16777216=(x/16777216%2^5*2^24) ||| x/2^31*2^31:=by rw[xK _ _ 31 aa];omega
 rw[e];apply Nat.eq_of_testBit_eq;intro j;have hb:(2667577344:Nat)=(2^5-1)*2^24 ||| 1*2^31:=an;rw[hb,Nat.testBit_and,Nat.testBit_or,Nat.testBit_or,Nat.testBit_mul_two_pow,Nat.testBit_mul_two_pow,Nat.testBit_mul_two_pow,Nat.testBit_mul_two_pow,Nat.testBit_two_pow_sub_one,Nat.testBit_mod_two_pow,show(16777216:Nat)=2^24 from rfl,Nat.testBit_div_two_pow,Nat.testBit_div_two_pow];by_cases hj:j<32
 ·by_cases h1:24≤j
  ·have e:j-24+24=j:=(by omega);by_cases h2:31≤j;·have e2:j=31:=(by omega);subst e2;simp
   ·have e3:Nat.testBit 1 (j-31)=true:=(by rw[show j-31=0 from aa];rfl);simp[h1,h2,e];exact Bool.and_comm _ _
  ·have h2: ¬31≤j:=(by omega);simp[h1,h2]
 ·have hz:x.testBit j=false:=Nat.testBit_lt_two_pow (Nat.lt_of_lt_of_le hx (by have:=Nat.pow_le_pow_right (n:=2) aa (show 32≤j by omega);omega));have e:j-24+24=j:=aa;have e2:j-31+31=j:=aa;rw[e,e2,hz];simp
theorem jQ(back:Bool)(n p:Nat):comb back n p<4294967296:=by unfold comb;split<;>omega
theorem tE:jP false=120:=rfl
theorem lP:jP true=189:=rfl
def n_(back:Bool)(W P:Nat):Nat:=if W/67108864=18∧W%4=1 then mix 2 26 W (comb back (W/4) (P/4)*4%4294967296)else W
theorem VH(back:Bool)(W P:Nat)(w:World)(hW:W<4294967296)(hP:P<4294967296):
  Calls prog 190 #[.int .u32 (W:Nat),.int .u32 (P:Nat),.func (.func (jP back)) #[] #[]] w fun e w'=>e= .returned (.int .u32 (n_ back W P:Nat))∧w=w':=by
 have hand:bits .and .u32 (W:Int) 3=((W%4:Nat):Int):=Ci W 2 3 hW rfl aa;have HC:=hdd (oe back (W/4) (P/4) w aa aa);have pG:=jQ back (W/4) (P/4);have hp:n_ back W P=if W/67108864=18∧W%4=1 then mix 2 26 W (comb back (W/4) (P/4)*4%4294967296)else W:=rfl;generalize n_ back W P=R at*;generalize comb back (W/4) (P/4)=C at*;by_cases h1:W/67108864=18
 ·by_cases h2:W%4=1
  ·rw[if_pos ⟨h1,h2⟩]at hp;have HM:=hdd (iR 2 26 W (C*4%4294967296) 67108860 w aa aa hW aa rfl aa);rw[←hp]at HM;clear hp;cases back<;>simp only[tE,lP]at HC ⊢
   all_goals
    go_enter func190,ntmps190;go_wp2_with fail;refine HC.out.mono ?_;rintro e w' ⟨rfl,rfl⟩;go_wp2_with fail;refine HM.out.mono ?_;rintro e w' ⟨rfl,rfl⟩;go_wp2_with fail;go_ret;exact⟨rfl,rfl⟩
  ·rw[if_neg (fun h=>h2 h.2)]at hp;subst hp;go_enter func190,ntmps190;go_wp2_with fail;go_ret;exact⟨rfl,rfl⟩
 ·rw[if_neg (fun h=>h1 h.1)]at hp;subst hp;go_enter func190,ntmps190;go_wp2_with fail;go_ret;exact⟨rfl,rfl⟩
def arm(back:Bool)(W P:Nat):Nat:=if W/16777216=235 then mix 0 24 W (comb back W (P/4+2))else W
theorem VI(back:Bool)(W P:Nat)(w:World)(hW:W<4294967296)(hP:P<4294967296):
  Calls prog 192 #[.int .u32 (W:Nat),.int .u32 (P:Nat),.func (.func (jP back)) #[] #[]] w fun e w'=>e= .returned (.int .u32 (arm back W P:Nat))∧w=w':=by
 have HC:=hdd (oe back W (P/4+2) w aa aa);have pG:=jQ back W (P/4+2);have hp:arm back W P=if W/16777216=235 then mix 0 24 W (comb back W (P/4+2))else W:=rfl;generalize arm back W P=R at*;generalize comb back W (P/4+2)=C at*;by_cases h1:W/16777216=235
 ·rw[if_pos h1]at hp;have HM:=hdd (iR 0 24 W C 16777215 w aa aa hW aa rfl aa);rw[←hp]at HM;clear hp;cases back<;>simp only[tE,lP]at HC ⊢
  all_goals
   go_enter func192,ntmps192;go_wp2_with fail;refine HC.out.mono ?_;rintro e w' ⟨rfl,rfl⟩;go_wp2_with fail;refine HM.out.mono ?_;rintro e w' ⟨rfl,rfl⟩;go_wp2_with fail;go_ret;exact⟨rfl,rfl⟩
 ·rw[if_neg h1]at hp;subst hp;go_enter func192,ntmps192;go_wp2_with fail;go_ret;exact⟨rfl,rfl⟩
def xM(back:Bool)(W P:Nat):Nat:=if W/4194304=256∨W/4194304=511 then mix 0 30 1073741824 (ext 8388608 (comb back W (P/4)))else W
theorem Rp(m x:Nat)(h:0<m)(h2:m≤4294967296):ext m x<4294967296:=by unfold ext;have:=Nat.mod_lt x h;split<;>omega
theorem Mn(back:Bool)(W P:Nat)(w:World)(hW:W<4294967296)(hP:P<4294967296):
  Calls prog 193 #[.int .u32 (W:Nat),.int .u32 (P:Nat),.func (.func (jP back)) #[] #[]] w fun e w'=>e= .returned (.int .u32 (xM back W P:Nat))∧w=w':=by
 have HC:=hdd (oe back W (P/4) w aa aa);have pG:=jQ back W (P/4);have hp:xM back W P=if W/4194304=256∨W/4194304=511 then mix 0 30 1073741824 (ext 8388608 (comb back W (P/4)))else W:=rfl;generalize xM back W P=R at*;generalize comb back W (P/4)=C at*;by_cases h1:W/4194304=256∨W/4194304=511
 ·rw[if_pos h1]at hp;have HE:=hdd (Ml C w);have hel:=Rp 8388608 C aa aa;generalize ext 8388608 C=E at*;have HM:=hdd (iR 0 30 1073741824 E 1073741823 w aa aa aa aa rfl aa);rw[←hp]at HM;clear hp;have h2:((W:Int)/4194304 !=256)=false∨(((W:Int)/4194304 !=256)=true∧((W:Int)/4194304 !=511)=false):=by
   rcases h1 with h1 | h1;·have:(W:Int)/4194304=256:=(by omega);simp[this]
   ·have:(W:Int)/4194304=511:=(by omega);simp[this]
  clear h1;rcases h2 with h2 | ⟨h2,h3⟩
  all_goals
   cases back<;>simp only[tE,lP]at HC ⊢
   all_goals
    go_enter func193,ntmps193;go_wp2_with fail;refine HC.out.mono ?_;rintro e w' ⟨rfl,rfl⟩;go_wp2_with fail;refine HE.out.mono ?_;rintro e w' ⟨rfl,rfl⟩;go_wp2_with fail;refine HM.out.mono ?_;rintro e w' ⟨rfl,rfl⟩;go_wp2_with fail;go_ret;exact⟨rfl,rfl⟩
 ·rw[if_neg h1]at hp;have wC:=hp.symm;subst wC;have h2:((W:Int)/4194304 !=256)=true:=av;have h3:((W:Int)/4194304 !=511)=true:=av;clear h1;go_enter func193,ntmps193;go_wp2_with fail;go_ret;exact⟨rfl,rfl⟩
def aM(W:Nat):Nat:=W/32%524288*4+W/536870912%4
def xN(W E:Nat):Nat:=mix 5 24 (mix 29 31 W (E*536870912%4294967296)) (E/4*32%4294967296)
def page(back:Bool)(W P:Nat):Nat:=if(W/2147483648=1∧W/16777216%32=16)∧(aM W+131072)%2097152<262144 then xN W (ext 262144 (comb back (aM W) (P/4096)))else W
theorem qs(lo hi a b:Nat)(h:lo≤hi)(OQ:hi≤32)(ha:a<4294967296):mix lo hi a b<4294967296:=by rw[←ur lo hi a b h OQ ha];exact BitVec.isLt _
theorem Rq(back:Bool)(W P:Nat)(w:World)(hW:W<4294967296)(hP:P<4294967296):
  Calls prog 196 #[.int .u32 (W:Nat),.int .u32 (P:Nat),.func (.func (jP back)) #[] #[]] w fun e w'=>e= .returned (.int .u32 (page back W P:Nat))∧w=w':=by
 have e1:bits .and .u32 ((W:Int)/32) 524287=((W/32%524288:Nat):Int):=Ci (W/32) 19 524287 aa rfl aa;have e2:bits .and .u32 ((W:Int)/536870912) 3=((W/536870912%4:Nat):Int):=Ci (W/536870912) 2 3 aa rfl aa;have e3:bits .or .u32 (((W/32%524288:Nat):Int)*4) ((W/536870912%4:Nat):Int)=((aM W:Nat):Int):=by have:=u32_or_nat (W/32%524288*4) (W/536870912%4) aa aa;rw[Nat.or_comm,xK _ _ 2 aa]at this;rw[show(((W/32%524288:Nat):Int)*4)=((W/32%524288*4:Nat):Int)from rfl,this];unfold aM;omega
 have hN:aM W<2097152:=by unfold aM;omega
 have hA:W/32%524288<524288:=aa;have e4:=m_ W hW;have hG:W/2147483648*2147483648+W/16777216%32*16777216=2415919104↔(W/2147483648=1∧W/16777216%32=16):=aa;have hp:page back W P=if(W/2147483648=1∧W/16777216%32=16)∧(aM W+131072)%2097152<262144 then xN W (ext 262144 (comb back (aM W) (P/4096)))else W:=rfl;simp only[←hG]at hp;clear hG;generalize W/2147483648*2147483648+W/16777216%32*16777216=G at*;have HC:=hdd (oe back (aM W) (P/4096) w aa aa);have pG:=jQ back (aM W) (P/4096);generalize page back W P=R at*;generalize comb back (aM W) (P/4096)=C at*;generalize aM W=N at*;generalize W/32%524288=A at*;generalize W/536870912%4=B at*;by_cases h1:G=2415919104
 ·by_cases h2:(N+131072)%2097152<262144
  ·rw[if_pos ⟨h1,h2⟩]at hp;have g1:((G:Int) !=2415919104)=false:=av;have g2:decide (262144≤((N:Int)+131072)%2097152)=false:=av;have HE:=hdd (Mm C w);have hel:=Rp 262144 C aa aa;generalize ext 262144 C=E at*;unfold xN at hp;have HM:=hdd (iR 29 31 W (E*536870912%4294967296) 1610612736 w aa aa hW aa rfl aa);have qS:=qs 29 31 W (E*536870912%4294967296) aa aa hW;generalize mix 29 31 W (E*536870912%4294967296)=M at*;have HN:=hdd (iR 5 24 M (E/4*32%4294967296) 16777184 w aa aa qS aa rfl aa);rw[←hp]at HN;clear hp h1 h2;cases back<;>simp only[tE,lP]at HC ⊢
   all_goals
    go_enter func196,ntmps196;go_wp2_with fail;refine HC.out.mono ?_;rintro e w' ⟨rfl,rfl⟩;go_wp2_with fail;refine HE.out.mono ?_;rintro e w' ⟨rfl,rfl⟩;go_wp2_with fail;refine HM.out.mono ?_;rintro e w' ⟨rfl,rfl⟩;go_wp2_with fail;refine HN.out.mono ?_;rintro e w' ⟨rfl,rfl⟩;go_wp2_with fail;go_ret;exact⟨rfl,rfl⟩
  ·rw[if_neg (fun h=>h2 h.2)]at hp;have wC:=hp.symm;subst wC;have g1:((G:Int) !=2415919104)=false:=av;have g2:decide (262144≤((N:Int)+131072)%2097152)=true:=av;clear h1 h2;go_enter func196,ntmps196;go_wp2_with fail;go_ret;exact⟨rfl,rfl⟩
 ·rw[if_neg (fun h=>h1 h.1)]at hp;have wC:=hp.symm;subst wC;have g1:((G:Int) !=2415919104)=true:=av;clear h1;go_enter func196,ntmps196;go_wp2_with fail;go_ret;exact⟨rfl,rfl⟩
def xO(back:Bool)(W P:Nat):Nat:=if W/67108864=37 then mix 0 26 W (comb back W (P/4))else page back W P
theorem Mo(back:Bool)(W P:Nat)(w:World)(hW:W<4294967296)(hP:P<4294967296):
  Calls prog 195 #[.int .u32 (W:Nat),.int .u32 (P:Nat),.func (.func (jP back)) #[] #[]] w fun e w'=>e= .returned (.int .u32 (xO back W P:Nat))∧w=w':=by
 have HC:=hdd (oe back W (P/4) w aa aa);have pG:=jQ back W (P/4);have hp:xO back W P=if W/67108864=37 then mix 0 26 W (comb back W (P/4))else page back W P:=rfl;have HP:=hdd (Rq back W P w hW hP);generalize xO back W P=R at*;generalize comb back W (P/4)=C at*;by_cases h1:W/67108864=37
 ·rw[if_pos h1]at hp;have HM:=hdd (iR 0 26 W C 67108863 w aa aa hW aa rfl aa);rw[←hp]at HM;clear hp;cases back<;>simp only[tE,lP]at HC ⊢
  all_goals
   go_enter func195,ntmps195;go_wp2_with fail;refine HC.out.mono ?_;rintro e w' ⟨rfl,rfl⟩;go_wp2_with fail;refine HM.out.mono ?_;rintro e w' ⟨rfl,rfl⟩;go_wp2_with fail;go_ret;exact⟨rfl,rfl⟩
 ·rw[if_neg h1]at hp;rw[←hp]at HP;clear hp;go_enter func195,ntmps195;go_wp2_with fail;refine HP.out.mono ?_;rintro e w' ⟨rfl,rfl⟩;go_wp2_with fail;go_ret;exact⟨rfl,rfl⟩
def bytesOf(low:Bool)(W:Nat):List UInt8:=if low then [UInt8.ofNat (W%256),UInt8.ofNat (W/256%256),UInt8.ofNat (W/65536%256),UInt8.ofNat (W/16777216%256)]else [UInt8.ofNat (W/16777216%256),UInt8.ofNat (W/65536%256),UInt8.ofNat (W/256%256),UInt8.ofNat (W%256)]
theorem bytesOf_length(low:Bool)(W:Nat):(bytesOf low W).length=4:=by unfold bytesOf;cases low<;>rfl
theorem jG(n:Nat):B8 (UInt8.ofNat (n%256))= .int .u8 ((n%256:Nat):Int):=by have:n%256<256:=aa;simp[B8,Nat.mod_eq_of_lt this]
theorem Rr(R t:List Value)(a b c d x0 x1 x2 x3:Value)(i:Nat)(h:R.length=i):((((R++a::b::c::d::t).set i x0).set (i+1) x1).set (i+2) x2).set (i+3) x3=R++x0::x1::x2::x3::t:=by subst h;simp
theorem Mp(R t:List Value)(a b c d x0 x1 x2 x3:Value)(i:Nat)(h:R.length=i):((((R++a::b::c::d::t).set (i+3) x3).set (i+2) x2).set (i+1) x1).set i x0=R++x0::x1::x2::x3::t:=by subst h;simp
def Put(base:Nat)(w:World)(v:Value)(l:List UInt8)(e:Ending)(w':World):Prop:=e= .returned (.tuple #[])∧Own base w' v l∧Below base w w'
theorem VJ(id:Int)(low:Bool)(hid:(id==7||id==10)=low)(base g n cap c i W:Nat)(R t:List UInt8)(x0 x1 x2 x3:UInt8)(w:World)(hW:W<4294967296)(hi:R.length=i)(hg:base≤g)
  (hn:n=(R++x0::x1::x2::x3::t).length) (ho:w.ownsRow base 5 1 (.slice (some ⟨g,0,none⟩) n cap) n ((R++x0::x1::x2::x3::t).map B8)):
  Calls prog 156 #[.int .i64 id,.slice (some ⟨g,i,none⟩) 4 c,.int .u32 (W:Nat)] w (Put base w (.slice (some ⟨g,0,none⟩) n cap) (R++bytesOf low W++t)):=by
 have hlen:(R++x0::x1::x2::x3::t).length=R.length+(t.length+4):=ae;have hc: ∀j,j<4→ ∃x,w.cell? ⟨g,i+j,none⟩=some x:=by intro j hj;have h:=ho.cellAt (i+j) aa;rw[List.getElem?_eq_getElem av]at h;exact⟨_,h⟩
 have hf: ∀j,w.frozen? ⟨g,i+j,none⟩=false:=fun j=>ho.frozenAt _;obtain⟨y0,h0⟩:=hc 0 aa;obtain⟨y1,h1⟩:=hc 1 aa;obtain⟨y2,h2⟩:=hc 2 aa;obtain⟨y3,h3⟩:=hc 3 aa;have f0:=hf 0;have f1:=hf 1;have f2:=hf 2;have f3:=hf 3;rw[Nat.add_zero]at h0 f0;have gF:n=(R++bytesOf low W++t).length:=by rw[hn,hlen];simp[bytesOf_length];omega
 cases low with
 | true=>
  refine(VF id hid g i c W _ _ _ _ y0 y1 y2 y3 w hW rfl rfl rfl rfl h0 h1 h2 h3 f0 f1 f2 f3).mono ?_;rintro e w' ⟨rfl,rfl⟩;refine⟨rfl,?_,?_⟩;·unfold Own;rw[←gF];unfold Rn;have s1:=(ho.stored i (B8 (UInt8.ofNat (W%256)))).1;have s2:=(s1.stored (i+1) (B8 (UInt8.ofNat (W/256%256)))).1;have s3:=(s2.stored (i+2) (B8 (UInt8.ofNat (W/65536%256)))).1;have s4:=(s3.stored (i+3) (B8 (UInt8.ofNat (W/16777216%256)))).1;rw[List.map_append,List.map_cons,List.map_cons,List.map_cons,List.map_cons,Rr _ _ _ _ _ _ _ _ _ _ _ jp]at s4;rw[jG W,jG (W/256),jG (W/65536),jG (W/16777216)]at s4;have e:(R++bytesOf true W++t).map B8=R.map B8++B8 (UInt8.ofNat (W%256))::B8 (UInt8.ofNat (W/256%256))::B8 (UInt8.ofNat (W/65536%256))::B8 (UInt8.ofNat (W/16777216%256))::t.map B8:=(by simp[bytesOf]);rw[e,jG W,jG (W/256),jG (W/65536),jG (W/16777216)];exact s4
  ·exact((((Below.refl base w).setCell hg _).setCell hg _).setCell hg _).setCell hg _
 | false=>
  refine(Ro id hid g i c W _ _ _ _ y0 y1 y2 y3 w hW rfl rfl rfl rfl h0 h1 h2 h3 f0 f1 f2 f3).mono ?_;rintro e w' ⟨rfl,rfl⟩;refine⟨rfl,?_,?_⟩;·unfold Own;rw[←gF];unfold X7;have s1:=(ho.stored (i+3) (B8 (UInt8.ofNat (W%256)))).1;have s2:=(s1.stored (i+2) (B8 (UInt8.ofNat (W/256%256)))).1;have s3:=(s2.stored (i+1) (B8 (UInt8.ofNat (W/65536%256)))).1;have s4:=(s3.stored i (B8 (UInt8.ofNat (W/16777216%256)))).1;rw[List.map_append,List.map_cons,List.map_cons,List.map_cons,List.map_cons,Mp _ _ _ _ _ _ _ _ _ _ _ jp]at s4;rw[jG W,jG (W/256),jG (W/65536),jG (W/16777216)]at s4;have e:(R++bytesOf false W++t).map B8=R.map B8++B8 (UInt8.ofNat (W/16777216%256))::B8 (UInt8.ofNat (W/65536%256))::B8 (UInt8.ofNat (W/256%256))::B8 (UInt8.ofNat (W%256))::t.map B8:=(by simp[bytesOf]);rw[e,jG W,jG (W/256),jG (W/65536),jG (W/16777216)];exact s4
  ·exact((((Below.refl base w).setCell hg _).setCell hg _).setCell hg _).setCell hg _
def Rs(low:Bool)(cv:Nat→Nat→Nat)(start:Nat)(l:List UInt8)(k:Nat):List UInt8:=
 match l.drop (4*k)with
 | a::b::c::d::_=>bytesOf low (cv (word low a b c d) ((start+4*k)%4294967296))
 | _=>[]
def pre(low:Bool)(cv:Nat→Nat→Nat)(start:Nat)(l:List UInt8):Nat→List UInt8
 | 0=>[]
 | k+1=>pre low cv start l k++Rs low cv start l k
def dh(low:Bool)(cv:Nat→Nat→Nat)(start:Nat)(l:List UInt8):List UInt8:=pre low cv start l (l.length/4)++l.drop (4*(l.length/4))
theorem pg(l:List UInt8)(i:Nat)(h:i+4≤l.length): ∃a b c d t,l.drop i=a::b::c::d::t:=by
 have hl:(l.drop i).length=l.length-i:=List.length_drop ..;match hd:l.drop i with
 | a::b::c::d::t=>exact⟨a,b,c,d,t,rfl⟩
 | []=>rw[hd]at hl;simp at hl;omega
 | [_]=>rw[hd]at hl;simp at hl;omega
 | [_,_]=>rw[hd]at hl;simp at hl;omega
 | [_,_,_]=>rw[hd]at hl;simp at hl;omega
theorem ke(low:Bool)(cv:Nat→Nat→Nat)(start:Nat)(l:List UInt8)(k:Nat)(h:4*k≤l.length):(pre low cv start l k).length=4*k:=by
 induction k with
 | zero=>rfl
 | succ k ih=>
  obtain⟨a,b,c,d,t,e⟩:=pg l (4*k) aa;simp only[pre,Rs,e,List.length_append,bytesOf_length,ih aa];omega
def kf(w:World)(l:List UInt8)(err:Int)(e:Ending)(w':World):Prop:= ∃v,e= .returned (.tuple #[v,.int .i64 err])∧Own w.heap.size w' v l∧Below w.heap.size w w'
theorem X8:(prog.info? 227).map (fun i=>(i.zero,i.size))=some (some .nilFunc,1):=ak
theorem abG(id:Int)(start:Nat)(A:Option Addr)(n c:Nat)(f:Value)(w:World)(h:(id≠5∧id≠7∧id≠9∧id≠10)∨start%4≠0):
  Calls prog 119 #[.int .i64 id,.int .u32 (start:Nat),.slice A n c,f] w fun e w'=>e= .returned (.tuple #[.slice none 0 0,.int .i64 1])∧Below w.heap.size w w':=by
 have key: ∃a,Instr.findNow (.int .i64) (.int .i64 id) xJ.toList 0=some a∧(a=none∨start%4≠0):=by
  by_cases h5:id=5;·subst h5;exact⟨_,Rk,.inr aa⟩
  by_cases h7:id=7;·subst h7;exact⟨_,Rl,.inr aa⟩
  by_cases h9:id=9;·subst h9;exact⟨_,Rm,.inr aa⟩
  by_cases uR:id=10;·subst uR;exact⟨_,Kp,.inr aa⟩
  exact⟨_,Mi id h5 h7 h9 uR,.inl rfl⟩
 obtain⟨a,hf,ha⟩:=key;have HF:=hdd hf;clear hf h;have hz:=(zero_of_info X8).1;have o_:=hdd (uq w);go_enter func119,ntmps119;go_wp2_with fail;refine o_.out.mono ?_;rintro e w1 ⟨r,rfl,hr,DS,hb⟩;have hl:=ES w1 r id hr a HF.out .nilFunc (hz w1);clear hz hr;cases a with
 | none=>
  simp only[Option.map_none,Option.getD_none,Option.isSome_none]at hl;go_wp2_with fail;go_ret2;exact⟨rfl,hb⟩
 | some q=>
  have hs:start%4≠0:=by simpa using ha
  have hs':((start:Int)%4 !=0)=true:=av;simp only[Option.map_some,Option.getD_some,Option.isSome_some]at hl;clear ha hs;generalize q.2=qv at*;go_wp2_with fail;go_ret2;exact⟨rfl,hb⟩
theorem word_lt(low:Bool)(a b c d:UInt8):word low a b c d<4294967296:=by have h1:=a.toNat_lt;have h2:=b.toNat_lt;have h3:=c.toNat_lt;have h4:=d.toNat_lt;unfold word;split<;>omega
theorem ET{base:Nat}{v:Value}{l:List UInt8}{n:Nat}(h:Own base w v l)(hn:n=l.length):w.ownsRow base 5 1 v n (l.map B8):=by subst hn;exact h
theorem sh(id:Int)(low:Bool)(F L q:Nat)(cv:Nat→Nat→Nat)(hid:(id==7||id==10)=low)(TC:Instr.findNow (.int .i64) (.int .i64 id) xJ.toList 0=some (some (q,.func (.func F) #[] #[])))
  (hF: ∀(args:Array Value) (w:World),(callFunc F args).run prog w= .ok (.enter F args) w)
  (TJ: ∀(W P:Nat) (w:World),W<4294967296→P<4294967296→Calls prog F #[.int .u32 (W:Nat),.int .u32 (P:Nat),.func (.func L) #[] #[]] w fun e w'=>e= .returned (.int .u32 (cv W P:Nat))∧w=w')
  (aF: ∀W P,W<4294967296→cv W P<4294967296)
  (start:Nat) (bJ:start<4294967296) (wM:start%4=0) (A:Option Addr) (l:List UInt8) (c:Nat) (w:World) (hB:Bytes w A l) (hm:l.length≤140737488355328):
  Calls prog 119 #[.int .i64 id,.int .u32 (start:Nat),.slice A l.length c,.func (.func L) #[] #[]] w (kf w (dh low cv start l) 0):=by
 have HF:=hdd TC;have HFN:=hdd hF;have HCV:=hdd TJ;have yI:=hdd aF;have HID:=hdd hid;have hz:=(zero_of_info X8).1;have o_:=hdd (uq w);have hs':((start:Int)%4 !=0)=false:=av;clear TC hF TJ aF hid;go_enter func119,ntmps119;go_wp2_with fail;refine o_.out.mono ?_;rintro e w1 ⟨r,rfl,hr,DS,hb⟩;have hl:=ES w1 r id hr _ HF.out .nilFunc (hz w1);clear hz hr;simp only[Option.map_some,Option.getD_some,Option.isSome_some]at hl;have bU:Own w.heap.size w1 (.slice none 0 0) []:=Own.nil _ _;have bt:([]:List UInt8).length+l.length≤140737488355328:=by simpa using hm
 have Mq:=hb.size;go_wp2_with (at_builtin;refine aj rfl (.const (.slice none 0 0)) (.tmp 28) rfl w.heap.size _ (.slice none 0 0) [] rfl bU A l c rfl (hB.below hb) bt Mq ?_;intro v1 w2 m6 iY)
 have aE:Below w.heap.size w w2:=am hb iY Mq vL;rw[List.nil_append]at m6;obtain⟨A2,c2,rfl,ks,uz,_⟩:=m6.read;clear bU bt hl Mq hb iY hs' DS;go_loopw [13] (fun i wr=> ∃k:Nat,4*k≤l.length∧i= .int .i64 (4*k:Nat)∧Own w.heap.size wr (.slice A2 l.length c2) (pre low cv start l k++l.drop (4*k))∧Below w.heap.size w wr) (fun i _=>l.length-(intOf i).toNat);case atStart=>exact⟨0,aa,rfl,by simpa [pre]using m6,aE⟩
 case round=>
  clear m6 aE;obtain⟨k,hk,rfl,aD,hb⟩:=hrel;by_cases aF:4*k+4≤l.length
  ·obtain⟨a,b,c,d,t,e⟩:=pg l (4*k) aF;have rI:=ke low cv start l k hk;have p_:Hid (pre low cv start l (k+1)++l.drop (4*(k+1))=pre low cv start l k++bytesOf low (cv (word low a b c d) ((start+4*k)%4294967296))++t):=(by apply hdd;have h2:l.drop (4*(k+1))=t:=(by rw[show 4*(k+1)=4*k+4 by omega,←List.drop_drop,e];rfl);rw[h2];simp only[pre,Rs,e]);rw[e]at aD;have sN:l.length=(pre low cv start l k++a::b::c::d::t).length:=(by have:=congrArg List.length e;simp at this;simp[rI];omega);generalize pre low cv start l k=R at*;have how:=ET aD sN;obtain⟨g,cap,hgc,Lm,alo⟩:=World.ownsRow.form how aa;injection hgc with alp _ alq;subst alp;subst alq;have hc: ∀j (hj:j<4),wr.cell? ⟨g,4*k+j,none⟩=some (B8 ([a,b,c,d][j])):=by
    intro j hj;rw[how.cellAt (4*k+j) aa,List.getElem?_map,List.getElem?_append_right aa,rI];rw[show 4*k+j-4*k=j by omega];match j,hj with
    | 0,_=>rfl
    | 1,_=>rfl
    | 2,_=>rfl
    | 3,_=>rfl
   have h0:=hc 0 aa;have h1:=hc 1 aa;have h2:=hc 2 aa;have h3:=hc 3 aa;rw[Nat.add_zero]at h0;simp only[List.getElem_cons_zero,List.getElem_cons_succ]at h0 h1 h2 h3;have HG:=hdd (Mk id g (4*k) (c2-4*k) a b c d wr h0 h1 h2 h3);rw[HID.out]at HG;have N1:=word_lt low a b c d;have pG:=yI.out (word low a b c d) ((start+4*k)%4294967296) N1;have HC:=hdd (fun w'=>HCV.out (word low a b c d) ((start+4*k)%4294967296) w' N1 aa);generalize word low a b c d=W at*;generalize cv W ((start+4*k)%4294967296)=V at*;have hH:=HFN.out;have k0: ¬c2=4*k:=aa;clear hc h0 h1 h2 h3 e;have CO:=hdd rI;have yJ:=hdd sN;clear rI sN;go_wp2_with fail
   ((with_reducible refine HG.out.mono ?_);rintro e w3 ⟨rfl,aW⟩)
   have aeY:w3.ownsRow w.heap.size 5 1 (.slice (some ⟨g,0,none⟩) l.length c2) l.length ((R++a::b::c::d::t).map B8):=ET (aD.below aW) yJ.out;have rI:((start:Int)+4*(k:Int)%4294967296)%4294967296=(((start+4*k)%4294967296:Nat):Int):=aa;have HPU:=hdd (VJ id low HID.out w.heap.size g l.length c2 (c2-4*k) (4*k) V R t a b c d w3 pG CO.out Lm yJ.out aeY);have kt:=aO hb aW;generalize(start+4*k)%4294967296=PL at*;clear how aeY aW aD hb;go_wp2_with fail;refine(HC.out w3).mono ?_;rintro e w' ⟨rfl,rfl⟩;go_wp2_with fail;refine HPU.out.mono ?_;rintro e w4 ⟨rfl,cH,bc⟩;go_wp2_with fail;go_roundw;case rel=>exact⟨k+1,aa,aq,by rw[p_.out];exact cH,kt.trans bc⟩
   case measure=>simp[intOf];omega
  ·have Ya:l.length/4=k:=(by omega);have ZZ:Hid (pre low cv start l k++l.drop (4*k)=dh low cv start l):=(by apply Lib.hid;unfold dh;rw[Ya]);clear Ya;go_wp2_with fail;go_ret2;exact⟨_,rfl,by rw[←ZZ.out];exact aD,hb⟩
def tld(back:Bool)(n p m:Nat):Nat:=if back then(((n:Int)-(p:Int))%(m:Int)).toNat else(n+p)%m
theorem fx(back:Bool)(n p m:Nat)(hm:0<m):tld back n p m<m:=by
 unfold tld;split;·have:=Int.emod_lt_of_pos ((n:Int)-p) (show(0:Int)<m by omega);omega
 ·exact Nat.mod_lt _ hm
theorem VK(x m:Int)(hl: -m<x):(x+m).tmod m=x%m:=by rw[Int.tmod_eq_emod_of_nonneg aa,Int.add_emod_right]
theorem Id(x m:Int)(hm:0<m):(x.tmod m+m).tmod m=x%m:=by
 have h1:=Int.lt_tmod_of_pos x hm;rw[VK _ m h1];rw[Int.kB x m]
 where
  Int.kB (x m:Int):x.tmod m%m=x%m:=by
   have h:=Int.tmod_add_mul_tdiv x m;conv=>rhs;rw[←h]
   rw[Int.add_mul_emod_self_left]
theorem og(back:Bool)(n p m:Nat)(w:World)(hn:n<4294967296)(hp:p<4294967296)(hm:0<m)(eY:m<4294967296):
  Calls prog 144 #[.int .i64 (n:Nat),.int .i64 (p:Nat),.bool back,.int .i64 (m:Nat)] w fun e w'=>e= .returned (.int .i64 (tld back n p m:Nat))∧w=w':=by
 cases back with
 | false=>
  have hc:((tld false n p m:Nat):Int)=((n:Int)+p)%m:=by unfold tld;simp
  have hl:=fx false n p m hm;have KV:=Int.emod_lt_of_pos ((n:Int)+p) (show(0:Int)<m by omega);have hmn:=Int.emod_nonneg ((n:Int)+p) (show(m:Int)≠0 by omega);have HC:=hdd hc;clear hc;have Em:(m:Int)≠0:=aa;go_enter func144,ntmps144;go_wp2_with fail;go_ret;refine⟨congrArg (fun n:Int=>Ending.returned (Value.int .i64 n)) ?_,rfl⟩;rw[HC.out,Int.add_emod_right,Int.emod_emod]
 | true=>
  have hc:((tld true n p m:Nat):Int)=((n:Int)-p)%m:=by have hmn:=Int.emod_nonneg ((n:Int)-p) (show(m:Int)≠0 by omega);unfold tld;simp;omega
  have hl:=fx true n p m hm;have h1:=Int.lt_tmod_of_pos ((n:Int)+ -(p:Int)) (show(0:Int)<m by omega);have h2:=Int.tmod_lt_of_pos ((n:Int)+ -(p:Int)) (show(0:Int)<m by omega);have HC:=hdd hc;clear hc;have Em:(m:Int)≠0:=aa;go_enter func144,ntmps144;go_wp2_with fail;go_ret;refine⟨congrArg (fun n:Int=>Ending.returned (Value.int .i64 n)) ?_,rfl⟩;have key:=Id ((n:Int)+ -(p:Int)) m aa;rw[Int.tmod_eq_emod_of_nonneg aa]at key;rw[HC.out,key,Int.sub_eq_add_neg]
def pX(n m all:Nat):Nat:=if n≥m/2 then n+all-m else n
theorem xP(n m all:Nat)(w:World)(hn:n<4294967296)(eY:m≤all)(ha:all<4294967296):
  Calls prog 145 #[.int .i64 (n:Nat),.int .i64 (m:Nat),.int .i64 (all:Nat)] w fun e w'=>e= .returned (.int .i64 (pX n m all:Nat))∧w=w':=by
 by_cases h:n≥m/2
 ·have hs:((pX n m all:Nat):Int)=(n:Int)+all-m:=by unfold pX;rw[if_pos h];omega
  have HC:=hdd hs;clear hs;go_enter func145,ntmps145;go_wp2_with fail;go_ret;exact⟨congrArg (fun n:Int=>Ending.returned (Value.int .i64 n)) HC.out.symm,rfl⟩
 ·have hs:((pX n m all:Nat):Int)=(n:Int):=by unfold pX;rw[if_neg h]
  have HC:=hdd hs;clear hs;go_enter func145,ntmps145;go_wp2_with fail;go_ret;exact⟨congrArg (fun n:Int=>Ending.returned (Value.int .i64 n)) HC.out.symm,rfl⟩
def pA(back:Bool)(W P:Nat):Nat:=if W/67108864=18∧W%4=1 then 1207959552+4*tld back (W/4%16777216) (P/4) 16777216+1 else W
def pB(back:Bool)(W P:Nat):Nat:=if W/16777216=235 then 3942645760+tld back (W%16777216) (P/4+2) 16777216 else W
def fW(back:Bool)(W P:Nat):Nat:=if W/4194304=256∨W/4194304=511 then 1073741824+pX (tld back (W%8388608) (P/4) 8388608) 8388608 1073741824 else W
def dP(W m:Nat):Nat:=2147483648+m%4*536870912+268435456+m/4*32+W%32
def ey(back:Bool)(W P:Nat):Nat:=
 if W/67108864=37 then 2483027968+tld back (W%67108864) (P/4) 67108864
 else if(W/2147483648=1∧W/16777216%32=16)∧(aM W+131072)%2097152<262144 then dP W (pX (tld back (aM W%262144) (P/4096) 262144) 262144 2097152)else W
theorem Rt(back:Bool)(W P:Nat)(w:World)(hW:W<4294967296)(hP:P<4294967296):
  Calls prog 98 #[.int .i64 5,.int .i64 (W:Nat),.int .i64 (P:Nat),.bool back] w fun e w'=>e= .returned (.int .i64 (pA back W P:Nat))∧w=w':=by
 have hp:pA back W P=if W/67108864=18∧W%4=1 then 1207959552+4*tld back (W/4%16777216) (P/4) 16777216+1 else W:=rfl;generalize pA back W P=R at*;by_cases h1:W/67108864=18
 ·by_cases h2:W%4=1;·rw[if_pos ⟨h1,h2⟩]at hp;have HT:=hdd (og back (W/4%16777216) (P/4) 16777216 w aa aa aa aa);have hl:=fx back (W/4%16777216) (P/4) 16777216 aa;generalize tld back (W/4%16777216) (P/4) 16777216=T at*;have HP:=hdd hp;clear hp;go_enter func98,ntmps98;go_wp2_with fail;refine HT.out.mono ?_;rintro e w' ⟨rfl,rfl⟩;go_wp2_with fail;go_ret;exact⟨congrArg (fun n:Int=>Ending.returned (Value.int .i64 n)) ra,rfl⟩
  ·rw[if_neg (fun h=>h2 h.2)]at hp;have wC:=hp.symm;subst wC;go_enter func98,ntmps98;go_wp2_with fail;go_ret;exact⟨rfl,rfl⟩
 ·rw[if_neg (fun h=>h1 h.1)]at hp;have wC:=hp.symm;subst wC;go_enter func98,ntmps98;go_wp2_with fail;go_ret;exact⟨rfl,rfl⟩
theorem Ru(back:Bool)(W P:Nat)(w:World)(hW:W<4294967296)(hP:P<4294967296):
  Calls prog 98 #[.int .i64 7,.int .i64 (W:Nat),.int .i64 (P:Nat),.bool back] w fun e w'=>e= .returned (.int .i64 (pB back W P:Nat))∧w=w':=by
 have hp:pB back W P=if W/16777216=235 then 3942645760+tld back (W%16777216) (P/4+2) 16777216 else W:=rfl;generalize pB back W P=R at*;by_cases h1:W/16777216=235;·rw[if_pos h1]at hp;have HT:=hdd (og back (W%16777216) (P/4+2) 16777216 w aa aa aa aa);have hl:=fx back (W%16777216) (P/4+2) 16777216 aa;generalize tld back (W%16777216) (P/4+2) 16777216=T at*;have HP:=hdd hp;clear hp;go_enter func98,ntmps98;go_wp2_with fail;refine HT.out.mono ?_;rintro e w' ⟨rfl,rfl⟩;go_wp2_with fail;go_ret;exact⟨congrArg (fun n:Int=>Ending.returned (Value.int .i64 n)) ra,rfl⟩
 ·rw[if_neg h1]at hp;have wC:=hp.symm;subst wC;go_enter func98,ntmps98;go_wp2_with fail;go_ret;exact⟨rfl,rfl⟩
theorem An(N:Nat):(((N:Int)+131072)%2097152<262144)↔((N+131072)%2097152<262144):=aa
theorem xQ(n m all:Nat)(h:n<m)(h2:m≤all):pX n m all<all:=by unfold pX;split<;>omega
theorem Rv(back:Bool)(W P:Nat)(w:World)(hW:W<4294967296)(hP:P<4294967296):
  Calls prog 98 #[.int .i64 9,.int .i64 (W:Nat),.int .i64 (P:Nat),.bool back] w fun e w'=>e= .returned (.int .i64 (fW back W P:Nat))∧w=w':=by
 have hp:fW back W P=if W/4194304=256∨W/4194304=511 then 1073741824+pX (tld back (W%8388608) (P/4) 8388608) 8388608 1073741824 else W:=rfl;generalize fW back W P=R at*;by_cases h1:W/4194304=256∨W/4194304=511
 ·rw[if_pos h1]at hp;have HT:=hdd (og back (W%8388608) (P/4) 8388608 w aa aa aa aa);have hl:=fx back (W%8388608) (P/4) 8388608 aa;generalize tld back (W%8388608) (P/4) 8388608=T at*;have HS:=hdd (xP T 8388608 1073741824 w aa aa aa);have qT:=xQ T 8388608 1073741824 hl aa;generalize pX T 8388608 1073741824=U at*;have HP:=hdd hp;clear hp;have h2:((W:Int)/4194304==256)=true∨(((W:Int)/4194304==256)=false∧((W:Int)/4194304==511)=true):=by
   rcases h1 with h1 | h1;·have:(W:Int)/4194304=256:=(by omega);simp[this]
   ·have:(W:Int)/4194304=511:=(by omega);simp[this]
  clear h1;rcases h2 with h2 | ⟨h2,h3⟩
  all_goals
   go_enter func98,ntmps98;go_wp2_with fail;refine HT.out.mono ?_;rintro e w' ⟨rfl,rfl⟩;go_wp2_with fail;refine HS.out.mono ?_;rintro e w' ⟨rfl,rfl⟩;go_wp2_with fail;go_ret;exact⟨congrArg (fun n:Int=>Ending.returned (Value.int .i64 n)) ra,rfl⟩
 ·rw[if_neg h1]at hp;have wC:=hp.symm;subst wC;have h2:((W:Int)/4194304==256)=false:=av;have h3:((W:Int)/4194304==511)=false:=av;clear h1;go_enter func98,ntmps98;go_wp2_with fail;go_ret;exact⟨rfl,rfl⟩
theorem Mr(back:Bool)(W P:Nat)(w:World)(hW:W<4294967296)(hP:P<4294967296):
  Calls prog 98 #[.int .i64 10,.int .i64 (W:Nat),.int .i64 (P:Nat),.bool back] w fun e w'=>e= .returned (.int .i64 (ey back W P:Nat))∧w=w':=by
 have hp:ey back W P=if W/67108864=37 then 2483027968+tld back (W%67108864) (P/4) 67108864
  else if(W/2147483648=1∧W/16777216%32=16)∧(aM W+131072)%2097152<262144 then dP W (pX (tld back (aM W%262144) (P/4096) 262144) 262144 2097152)else W:=rfl
 generalize ey back W P=R at*;by_cases h1:W/67108864=37;·rw[if_pos h1]at hp;have HT:=hdd (og back (W%67108864) (P/4) 67108864 w aa aa aa aa);have hl:=fx back (W%67108864) (P/4) 67108864 aa;generalize tld back (W%67108864) (P/4) 67108864=T at*;have HP:=hdd hp;clear hp;go_enter func98,ntmps98;go_wp2_with fail;refine HT.out.mono ?_;rintro e w' ⟨rfl,rfl⟩;go_wp2_with fail;go_ret;exact⟨congrArg (fun n:Int=>Ending.returned (Value.int .i64 n)) ra,rfl⟩
 ·rw[if_neg h1]at hp;have hg:((W:Int)/67108864==37)=false:=av;have hN:(W:Int)/32%524288*4+(W:Int)/536870912%4=((aM W:Nat):Int):=by unfold aM;omega
  have hNl:aM W<2097152:=by unfold aM;omega
  by_cases h2:W/2147483648=1∧W/16777216%32=16
  ·by_cases h3:(aM W+131072)%2097152<262144;·rw[if_pos ⟨h2,h3⟩]at hp;have HT:=hdd (og back (aM W%262144) (P/4096) 262144 w aa aa aa aa);have hl:=fx back (aM W%262144) (P/4096) 262144 aa;generalize tld back (aM W%262144) (P/4096) 262144=T at*;have HS:=hdd (xP T 262144 2097152 w aa aa aa);have qT:=xQ T 262144 2097152 hl aa;generalize pX T 262144 2097152=U at*;unfold dP at hp;generalize aM W=N at*;have HP:=hdd hp;have g1:((W:Int)/2147483648==1)=true:=av;have g2:((W:Int)/16777216%32==16)=true:=av;have g3:decide (((N:Int)+131072)%2097152<262144)=true:=(by rw[decide_eq_true_iff];exact(An N).2 h3);clear hp h1 h2 h3;go_enter func98,ntmps98;go_wp2_with fail;refine HT.out.mono ?_;rintro e w' ⟨rfl,rfl⟩;go_wp2_with fail;refine HS.out.mono ?_;rintro e w' ⟨rfl,rfl⟩;go_wp2_with fail;go_ret;exact⟨congrArg (fun n:Int=>Ending.returned (Value.int .i64 n)) ra,rfl⟩
   ·rw[if_neg (fun h=>h3 h.2)]at hp;have wC:=hp.symm;subst wC;generalize aM W=N at*;have g1:((W:Int)/2147483648==1)=true:=av;have g2:((W:Int)/16777216%32==16)=true:=av;have g3:decide (((N:Int)+131072)%2097152<262144)=false:=(by rw[decide_eq_false_iff_not];exact fun h=>h3 ((An N).1 h));clear h1 h2 h3;go_enter func98,ntmps98;go_wp2_with fail;go_ret;exact⟨rfl,rfl⟩
  ·rw[if_neg (fun h=>h2 h.1)]at hp;have wC:=hp.symm;subst wC;generalize aM W=N at*;have g1:((W:Int)/2147483648==1)=false∨(((W:Int)/2147483648==1)=true∧((W:Int)/16777216%32==16)=false):=by
    by_cases h:W/2147483648=1;·right;simp;omega
    ·left;simp;omega
   clear h1 h2;rcases g1 with g1 | ⟨g1,g2⟩
   all_goals
    go_enter func98,ntmps98;go_wp2_with fail;go_ret;exact⟨rfl,rfl⟩
theorem oh(back:Bool)(n p k:Nat)(hn:n<4294967296)(hp:p<4294967296)(hk:k≤32):tld back (n%2^k) p (2^k)=comb back n p%2^k:=by
 have hd:(4294967296:Nat)=2^k*2^(32-k):=by rw[←Nat.pow_add,show k+(32-k)=32 by omega]
 unfold tld comb;cases back with
 | false=>
  simp only[Bool.false_eq_true,if_false];rw[hd,Nat.mod_mul_right_mod,Nat.mod_add_mod]
 | true=>
  simp only[if_true];have e:(n+4294967296-p:Nat)%4294967296%2^k=(n+4294967296-p:Nat)%2^k:=by generalize n+4294967296-p=x;rw[hd,Nat.mod_mul_right_mod]
  rw[e];have h1:(((n+4294967296-p)%2^k:Nat):Int)=((n:Int)-p)%((2^k:Nat):Int):=by rw[Int.natCast_emod];have:((n+4294967296-p:Nat):Int)=((n:Int)-p)+((2^k:Nat):Int)*((2^(32-k):Nat):Int):=(by rw[←Int.natCast_mul,←hd];omega);rw[this,Int.add_mul_emod_self_left]
  have h2:(((n%2^k:Nat):Int)-p)%((2^k:Nat):Int)=((n:Int)-p)%((2^k:Nat):Int):=by rw[Int.natCast_emod,Int.emod_sub_emod]
  rw[h2,←h1,Int.toNat_natCast]
theorem q_(back:Bool)(W P:Nat)(hW:W<4294967296)(hP:P<4294967296):n_ back W P=pA back W P:=by
 unfold n_ pA;split;·have h:=oh back (W/4) (P/4) 24 aa aa aa;have hl:=jQ back (W/4) (P/4);simp only[mix];generalize comb back (W/4) (P/4)=C at*;rw[show(16777216:Nat)=2^24 from rfl,h];simp only[Nat.reducePow,Nat.reduceSub];omega
 ·rfl
theorem r_(back:Bool)(W P:Nat)(hW:W<4294967296)(hP:P<4294967296):arm back W P=pB back W P:=by
 unfold arm pB;split;·have h:=oh back W (P/4+2) 24 aa aa aa;have hl:=jQ back W (P/4+2);simp only[mix];generalize comb back W (P/4+2)=C at*;rw[show W%16777216=W%2^24 from rfl,show tld back (W%2^24) (P/4+2) 16777216=tld back (W%2^24) (P/4+2) (2^24)from rfl,h];simp only[Nat.reducePow,Nat.reduceSub];omega
 ·rfl
theorem Rw(back:Bool)(W P:Nat)(hW:W<4294967296)(hP:P<4294967296):xM back W P=fW back W P:=by
 unfold xM fW;split;·have h:=oh back W (P/4) 23 aa aa aa;have hl:=jQ back W (P/4);simp only[mix];generalize comb back W (P/4)=C at*;rw[show W%8388608=W%2^23 from rfl,show tld back (W%2^23) (P/4) 8388608=tld back (W%2^23) (P/4) (2^23)from rfl,h];unfold ext pX;simp only[Nat.reducePow,Nat.reduceSub,Nat.reduceDiv];split<;>split<;>omega
 ·rfl
theorem VL(x:Nat):ext 262144 x%2097152=pX (x%262144) 262144 2097152:=by unfold ext pX;split<;>split<;>omega
theorem Ms(W E:Nat)(h1:W/2147483648=1)(h2:W/16777216%32=16):xN W E=dP W (E%2097152):=by unfold xN dP;simp only[mix,Nat.reducePow,Nat.reduceSub];omega
theorem Rx(back:Bool)(W P:Nat)(hW:W<4294967296)(hP:P<4294967296):xO back W P=ey back W P:=by
 unfold xO ey page;split;·have h:=oh back W (P/4) 26 aa aa aa;have hl:=jQ back W (P/4);simp only[mix];generalize comb back W (P/4)=C at*;rw[show W%67108864=W%2^26 from rfl,show tld back (W%2^26) (P/4) 67108864=tld back (W%2^26) (P/4) (2^26)from rfl,h];simp only[Nat.reducePow,Nat.reduceSub];omega
 ·split;·rename_i h;have hN:aM W<2097152:=(by unfold aM;omega);have ht:=oh back (aM W) (P/4096) 18 aa aa aa;rw[Ms W _ h.1.1 h.1.2,VL];rw[show aM W%262144=aM W%2^18 from rfl,show tld back (aM W%2^18) (P/4096) 262144=tld back (aM W%2^18) (P/4096) (2^18)from rfl,ht]
  ·rfl
theorem oj(back:Bool)(n p m:Nat)(hn:n<m):tld (!back) (tld back n p m) p m=n:=by
 unfold tld;have hm:(0:Int)<m:=aa;cases back with
 | false=>
  simp only[Bool.not_false,if_true,Bool.false_eq_true,if_false];rw[Int.natCast_emod,Int.emod_sub_emod];have e:((n+p:Nat):Int)-(p:Int)=n:=aa;rw[e,Int.emod_eq_of_lt aa aa];simp
 | true=>
  simp only[Bool.not_true,if_true,Bool.false_eq_true,if_false];have h1:=Int.emod_nonneg ((n:Int)-p) (show(m:Int)≠0 by omega);have h2:((((((n:Int)-p)%m).toNat+p)%m:Nat):Int)=n:=by rw[Int.natCast_emod,Int.natCast_add,Int.toNat_of_nonneg h1,Int.emod_add_emod,Int.sub_add_cancel,Int.emod_eq_of_lt aa aa]
  omega
theorem Mt(back:Bool)(W P:Nat):pA (!back) (pA back W P) P=W:=by
 by_cases h:W/67108864=18∧W%4=1
 ·have hl:=fx back (W/4%16777216) (P/4) 16777216 aa;have hb:=oj back (W/4%16777216) (P/4) 16777216 aa;have e:pA back W P=1207959552+4*tld back (W/4%16777216) (P/4) 16777216+1:=by unfold pA;rw[if_pos h]
  rw[e];generalize tld back (W/4%16777216) (P/4) 16777216=T at*;unfold pA;rw[if_pos aa,show(1207959552+4*T+1)/4%16777216=T by omega,hb];omega
 ·have e:pA back W P=W:=by unfold pA;rw[if_neg h]
  rw[e];unfold pA;rw[if_neg h]
theorem Mu(back:Bool)(W P:Nat):pB (!back) (pB back W P) P=W:=by
 by_cases h:W/16777216=235
 ·have hl:=fx back (W%16777216) (P/4+2) 16777216 aa;have hb:=oj back (W%16777216) (P/4+2) 16777216 aa;have e:pB back W P=3942645760+tld back (W%16777216) (P/4+2) 16777216:=by unfold pB;rw[if_pos h]
  rw[e];generalize tld back (W%16777216) (P/4+2) 16777216=T at*;unfold pB;rw[if_pos aa,show(3942645760+T)%16777216=T by omega,hb];omega
 ·have e:pB back W P=W:=by unfold pB;rw[if_neg h]
  rw[e];unfold pB;rw[if_neg h]
theorem EU(back:Bool)(W P:Nat)(hW:W<4294967296):fW (!back) (fW back W P) P=W:=by
 by_cases h:W/4194304=256∨W/4194304=511
 ·have hl:=fx back (W%8388608) (P/4) 8388608 aa;have hb:=oj back (W%8388608) (P/4) 8388608 aa;have e:fW back W P=1073741824+pX (tld back (W%8388608) (P/4) 8388608) 8388608 1073741824:=by unfold fW;rw[if_pos h]
  rw[e];generalize tld back (W%8388608) (P/4) 8388608=T at*;have hs:pX T 8388608 1073741824=if T≥4194304 then T+1065353216 else T:=by unfold pX;split<;>simp
  have h2:(1073741824+pX T 8388608 1073741824)/4194304=256∨(1073741824+pX T 8388608 1073741824)/4194304=511:=by rw[hs];split<;>omega
  have h3:(1073741824+pX T 8388608 1073741824)%8388608=T:=by rw[hs];split<;>omega
  unfold fW;rw[if_pos h2,h3,hb];unfold pX;split<;>omega
 ·have e:fW back W P=W:=by unfold fW;rw[if_neg h]
  rw[e];unfold fW;rw[if_neg h]
theorem Ie(W U:Nat)(hU:U<2097152):dP W U/67108864≠37∧dP W U/2147483648=1∧dP W U/16777216%32=16∧aM (dP W U)=U∧dP W U%32=W%32:=by
 unfold dP aM;obtain⟨a,b,hb,rfl⟩: ∃a b,b<4∧U=4*a+b:=⟨U/4,U%4,aa,aa⟩
 have hr:W%32<32:=aa;have e1:(4*a+b)%4=b:=aa;have e2:(4*a+b)/4=a:=aa;rw[e1,e2];have ha:a<524288:=aa;generalize W%32=r at*;clear e1 e2 hU;have:b=0∨b=1∨b=2∨b=3:=aa;rcases this with rfl | rfl | rfl | rfl<;>refine⟨aa,aa,aa,aa,aa⟩
theorem If(W:Nat)(h1:W/2147483648=1)(h2:W/16777216%32=16):dP W (aM W)=W:=by
 unfold dP aM;have e1:(W/32%524288*4+W/536870912%4)%4=W/536870912%4:=aa;have e2:(W/32%524288*4+W/536870912%4)/4=W/32%524288:=aa;rw[e1,e2];clear e1 e2;have e3:W/32/524288=W/16777216:=by rw[Nat.div_div_eq_div_mul]
 have e4:W/536870912=W/16777216/32:=by rw[Nat.div_div_eq_div_mul]
 have e5:W/2147483648=W/16777216/32/4:=by rw[Nat.div_div_eq_div_mul,Nat.div_div_eq_div_mul]
 rw[e5]at h1;rw[e4];generalize W/16777216=X at*;clear e4 e5;omega
theorem EV(back:Bool)(W P:Nat):ey (!back) (ey back W P) P=W:=by
 by_cases h:W/67108864=37
 ·have hl:=fx back (W%67108864) (P/4) 67108864 aa;have hb:=oj back (W%67108864) (P/4) 67108864 aa;have e:ey back W P=2483027968+tld back (W%67108864) (P/4) 67108864:=by unfold ey;rw[if_pos h]
  rw[e];generalize tld back (W%67108864) (P/4) 67108864=T at*;unfold ey;rw[if_pos aa,show(2483027968+T)%67108864=T by omega,hb];omega
 ·by_cases hc:(W/2147483648=1∧W/16777216%32=16)∧(aM W+131072)%2097152<262144;·have hN:aM W<2097152:=(by unfold aM;omega);have hl:=fx back (aM W%262144) (P/4096) 262144 aa;have hb:=oj back (aM W%262144) (P/4096) 262144 aa;have e:ey back W P=dP W (pX (tld back (aM W%262144) (P/4096) 262144) 262144 2097152):=(by unfold ey;rw[if_neg h,if_pos hc]);rw[e];generalize tld back (aM W%262144) (P/4096) 262144=T at*;have kG:pX T 262144 2097152%262144=T:=(by unfold pX;split<;>omega);have ro:(pX T 262144 2097152+131072)%2097152<262144:=(by unfold pX;split<;>omega);have PJ:=xQ T 262144 2097152 hl aa;generalize pX T 262144 2097152=U at*;obtain⟨q1,q2,q3,q4,q5⟩:=Ie W U PJ;generalize dP W U=V at*;unfold ey;rw[q4,if_neg q1,if_pos ⟨⟨q2,q3⟩,ro⟩,kG,hb];have hsg:pX (aM W%262144) 262144 2097152=aM W:=(by have:=hc.2;unfold pX;split<;>omega);rw[hsg];have hw:=If W hc.1.1 hc.1.2;unfold dP at hw ⊢;rw[q5];exact hw
  ·have e:ey back W P=W:=(by unfold ey;rw[if_neg h,if_neg hc]);rw[e];unfold ey;rw[if_neg h,if_neg hc]
end Go.Proofs.YtgfpocdiojifoaaGreatDoor
