import Derived.Test.YtfcaoggfnkhfiaaGreatDoorZ01
import Derived.MapKept
import Derived.Deep.RegionHeld3
namespace Go.Proofs.YtfcaoggfnkhfiaaGreatDoor
set_option maxRecDepth 100000
set_option maxHeartbeats 8000000
open Go.RowKit Go.Proofs.Tryz
variable{w:World}
theorem Yd(w:World)(r clock:Nat)(k:Int)(es:Array MapEntry)(v:Value)(hb:w.heap[r]? =some (.map es clock))(hf:Instr.findNow (.int .i64) (.int .i64 k) es.toList 0=some none):
  (Instr.mapUpdate 255 (.map (some r)) (.int .i64 k) v).run prog w= .ok () {w with heap:=w.heap.setIfInBounds r (.map (es.push {key:= .int .i64 k,val:=v,born:=clock}) (clock+1))}:=by
 have hc:(Instr.checkKey false 10000 3 (.int .i64 k)).run prog w= .ok () w:=MapKept.run_checkKey (k:= .int .i64 k) underlying3 (by simp[MapKept.IsKey]) false 9999;simp[Instr.mapUpdate,run_underlying underlying255,MapKept.run_getObj_map hb,hc,MapKept.run_findKey underlying3 hf,MapKept.run_setObj_map _ hb,Result.andThen]
def yZ:Array MapEntry:= #[⟨.int .i64 5,.func (.func 220) #[] #[],0⟩,⟨.int .i64 7,.func (.func 222) #[] #[],1⟩,⟨.int .i64 9,.func (.func 223) #[] #[],2⟩,⟨.int .i64 10,.func (.func 225) #[] #[],3⟩]
def Gn(w:World)(e:Ending)(w':World):Prop:= ∃r,e= .returned (.map (some r))∧w'.heap[r]? =some (.map yZ 4)∧w.heap.size≤r∧Below w.heap.size w w'
theorem te{W:World}{r c:Nat}{es:Array MapEntry}(k:Int)(v:Value)(hb:W.heap[r]? =some (.map es c))(hf:Instr.findNow (.int .i64) (.int .i64 k) es.toList 0=some none)(hB:Below w.heap.size w W)(hr:w.heap.size≤r):
  ∃W',(Instr.mapUpdate 255 (.map (some r)) (.int .i64 k) v).run prog W= .ok () W'∧W'.heap[r]? =some (.map (es.push {key:= .int .i64 k,val:=v,born:=c}) (c+1))∧Below w.heap.size w W':=by
 refine⟨_,Yd W r c k es v hb hf,(MapKept.heap_set hb).1,?_⟩;exact⟨hB.os,hB.tape,hB.output,by simpa using hB.size,fun i hi=>((MapKept.heap_set hb).2 i aa).trans (hB.block i hi)⟩
theorem vS(w:World):Calls prog 186 #[] w (Gn w):=by have IH:=run_makeMap (P:=prog) 255 w;have b0:=(MapKept.heap_alloc w (.map #[] 0)).1;have B0:Below w.heap.size w (w.alloc (.map #[] 0)):=ar;generalize w.alloc (.map #[] 0)=W0 at*;obtain⟨W1,i1,b1,B1⟩:=te 5 (.func (.func 220) #[] #[]) b0 rfl B0 (Nat.le_refl _);obtain⟨W2,i2,b2,B2⟩:=te 7 (.func (.func 222) #[] #[]) b1 rfl B1 (Nat.le_refl _);obtain⟨W3,i3,b3,B3⟩:=te 9 (.func (.func 223) #[] #[]) b2 rfl B2 (Nat.le_refl _);obtain⟨W4,i4,b4,B4⟩:=te 10 (.func (.func 225) #[] #[]) b3 rfl B3 (Nat.le_refl _);have iV:=ae b4;clear b0 b1 b2 b3 b4;go_enter func186,ntmps186;go_wp2_with fail;go_ret;exact⟨w.heap.size,rfl,iV.out,Nat.le_refl _,B4⟩
theorem Gp(w:World)(r:Nat)(id:Int)(hb:w.heap[r]? =some (.map yZ 4))(a:Option (Nat×Value))(hf:Instr.findNow (.int .i64) (.int .i64 id) yZ.toList 0=some a)(z:Value)(hz:(zeroValue 253).run prog w= .ok z w):
  (Instr.lookup 255 (.map (some r)) (.int .i64 id) true).run prog w= .ok (.tuple #[(a.map (·.2)).getD z,.bool a.isSome]) w:=by
 have hc: ∀e,(Instr.checkKey e 10000 3 (.int .i64 id)).run prog w= .ok () w:=fun e=>MapKept.run_checkKey (k:= .int .i64 id) underlying3 (by simp[MapKept.IsKey]) e 9999;cases a<;>simp[Instr.lookup,run_underlying underlying255,MapKept.run_getObj_map hb,hc,MapKept.run_findKey underlying3 hf,hz,Result.andThen]
theorem S9:Instr.findNow (.int .i64) (.int .i64 5) yZ.toList 0=some (some (0,.func (.func 220) #[] #[])):=rfl
theorem Ta:Instr.findNow (.int .i64) (.int .i64 7) yZ.toList 0=some (some (1,.func (.func 222) #[] #[])):=rfl
theorem Tb:Instr.findNow (.int .i64) (.int .i64 9) yZ.toList 0=some (some (2,.func (.func 223) #[] #[])):=rfl
theorem L8:Instr.findNow (.int .i64) (.int .i64 10) yZ.toList 0=some (some (3,.func (.func 225) #[] #[])):=rfl
theorem N3(id:Int)(h5:id≠5)(h7:id≠7)(h9:id≠9)(Cw:id≠10):Instr.findNow (.int .i64) (.int .i64 id) yZ.toList 0=some none:=by
 have e5:(id==5)=false:=by simp[h5]
 have e7:(id==7)=false:=by simp[h7]
 have e9:(id==9)=false:=by simp[h9]
 have e10:(id==10)=false:=by simp[Cw]
 simp[yZ,Instr.findNow,Instr.sameNow,e5,e7,e9,e10]
theorem bv_and(a b:BitVec 32):bits .and .u32 (a.toNat:Int) (b.toNat:Int)=((a &&& b).toNat:Int):=by rw[u32_and_nat _ _ a.isLt b.isLt,BitVec.toNat_and]
theorem agx(a b:BitVec 32):bits .or .u32 (a.toNat:Int) (b.toNat:Int)=((a ||| b).toNat:Int):=by rw[u32_or_nat _ _ a.isLt b.isLt,BitVec.toNat_or]
theorem N4(a b:BitVec 32):bits .andNot .u32 (a.toNat:Int) (b.toNat:Int)=((a &&& ~~~b).toNat:Int):=by rw[u32_andNot_nat _ _ a.isLt b.isLt,BitVec.toNat_and,BitVec.toNat_not]
theorem uI(id:Int)(w:World):Calls prog 227 #[.int .i64 id] w fun e w'=>e= .returned (.bool (id==7||id==10))∧w=w':=by
 by_cases h7:id=7;·subst h7;go_enter func227,ntmps227;go_wp2_with fail;go_ret;exact⟨rfl,rfl⟩
 ·have h7b:(id==7)=false:=by simp[h7]
  rw[h7b,Bool.false_or];clear h7;go_enter func227,ntmps227;go_wp2_with fail;go_ret;exact⟨rfl,rfl⟩
theorem Ed(a b m:BitVec 32)(w:World):Calls prog 221 #[.int .u32 a.toNat,.int .u32 b.toNat,.int .u32 m.toNat] w fun e w'=>e= .returned (.int .u32 ((a &&& ~~~m) ||| (b &&& m)).toNat)∧w=w':=by go_enter func221,ntmps221;go_wp2_with fail;go_ret;exact⟨congrArg (fun n:Int=>Ending.returned (Value.int .u32 n)) (by rw[N4,bv_and,agx]),rfl⟩
theorem y8(a b k:Nat)(ha:a<2^k):a ||| b*2^k=a+b*2^k:=by rw[Nat.or_comm,←Nat.shiftLeft_eq,←Nat.shiftLeft_add_eq_or_of_lt ha,Nat.add_comm]
theorem Ee(a b c d:Nat)(ha:a<256)(hb:b<256)(hc:c<256)(hd:d<256):
  bits .or .u32 (bits .or .u32 (bits .or .u32 (IntKind.u32.wrap (a:Int)) (IntKind.u32.wrap (IntKind.u32.wrap (b:Int)*256))) (IntKind.u32.wrap (IntKind.u32.wrap (c:Int)*65536))) (IntKind.u32.wrap (IntKind.u32.wrap (d:Int)*16777216))=((a+b*256+c*65536+d*16777216:Nat):Int):=by
 have w0: ∀x:Nat,x<256→IntKind.u32.wrap (x:Int)=(x:Int):=fun x hx=>eE;rw[w0 a ha,w0 b hb,w0 c hc,w0 d hd];have e1:IntKind.u32.wrap ((b:Int)*256)=((b*256:Nat):Int):=eE;have e2:IntKind.u32.wrap ((c:Int)*65536)=((c*65536:Nat):Int):=eE;have e3:IntKind.u32.wrap ((d:Int)*16777216)=((d*16777216:Nat):Int):=eE;have o1:a ||| b*256=a+b*256:=y8 a b 8 aa;have o2:(a+b*256) ||| c*65536=a+b*256+c*65536:=y8 _ c 16 aa;have o3:(a+b*256+c*65536) ||| d*16777216=a+b*256+c*65536+d*16777216:=y8 _ d 24 aa;rw[e1,e2,e3,u32_or_nat _ _ aa aa,o1,u32_or_nat _ _ aa aa,o2,u32_or_nat _ _ aa aa,o3]
def word(low:Bool)(x0 x1 x2 x3:UInt8):Nat:=if low then x0.toNat+x1.toNat*256+x2.toNat*65536+x3.toNat*16777216 else x3.toNat+x2.toNat*256+x1.toNat*65536+x0.toNat*16777216
theorem N5(id:Int)(b off c:Nat)(x0 x1 x2 x3:UInt8)(w:World)(h0:w.cell? ⟨b,off,none⟩=some (B8 x0))(h1:w.cell? ⟨b,off+1,none⟩=some (B8 x1))(h2:w.cell? ⟨b,off+2,none⟩=some (B8 x2))(h3:w.cell? ⟨b,off+3,none⟩=some (B8 x3)):
  Calls prog 188 #[.int .i64 id,.slice (some ⟨b,off,none⟩) 4 c] w fun e w'=>e= .returned (.int .u32 (word (id==7||id==10) x0 x1 x2 x3:Nat))∧Below w.heap.size w w':=by
 have HL:=ae (uI id w);have k0:w.drew.cell? ⟨b,off,none⟩=some (B8 x0):=h0;have k1:w.drew.cell? ⟨b,off+1,none⟩=some (B8 x1):=h1;have k2:w.drew.cell? ⟨b,off+2,none⟩=some (B8 x2):=h2;have k3:w.drew.cell? ⟨b,off+3,none⟩=some (B8 x3):=h3;generalize(id==7||id==10)=lo at*;cases lo with
 | true=>
  have HW:=ae (Ee _ _ _ _ x0.toNat_lt x1.toNat_lt x2.toNat_lt x3.toNat_lt);go_enter func188,ntmps188;go_wp2_with fail;refine HL.out.mono ?_;rintro e w' ⟨rfl,rfl⟩;go_wp2_with fail;refine wp_region_held_drew (S:=fun w'=>w'.cell? ⟨b,off,none⟩=some (B8 x0)∧w'.cell? ⟨b,off+1,none⟩=some (B8 x1)∧w'.cell? ⟨b,off+2,none⟩=some (B8 x2)∧w'.cell? ⟨b,off+3,none⟩=some (B8 x3)) ai ⟨k0,k1,k2,k3⟩ (fun hS=> ?_);refine af 0 hS (h:=af 1 hS (h:=aL 2 hS (h:=af 3 hS (h:=af 4 hS (h:=af 5 hS (h:=aL 6 hS (h:=af 7 hS (h:=af 8 hS (h:=af 9 hS (h:=af 10 hS (h:=af 11 hS (h:= ?_))))))))))));refine aL 12 hS (h:=af 13 hS (h:=af 14 hS (h:=af 15 hS (h:=af 16 hS (h:=af 17 hS (h:=aL 18 hS (h:=af 19 hS (h:=af 20 hS (h:=af 21 hS (h:=af 22 hS (h:= ?_)))))))))));refine wpAnyH_done ai ?_ _;rw[HW.out];go_wp2_with fail;go_ret;exact⟨rfl,(Below.refl _ _).drew⟩
 | false=>
  have HW:=ae (Ee _ _ _ _ x3.toNat_lt x2.toNat_lt x1.toNat_lt x0.toNat_lt);go_enter func188,ntmps188;go_wp2_with fail;refine HL.out.mono ?_;rintro e w' ⟨rfl,rfl⟩;go_wp2_with fail;refine wp_region_held_drew (S:=fun w'=>w'.cell? ⟨b,off,none⟩=some (B8 x0)∧w'.cell? ⟨b,off+1,none⟩=some (B8 x1)∧w'.cell? ⟨b,off+2,none⟩=some (B8 x2)∧w'.cell? ⟨b,off+3,none⟩=some (B8 x3)) ai ⟨k0,k1,k2,k3⟩ (fun hS=> ?_);refine af 0 hS (h:=af 1 hS (h:=aL 2 hS (h:=af 3 hS (h:=af 4 hS (h:=af 5 hS (h:=aL 6 hS (h:=af 7 hS (h:=af 8 hS (h:=af 9 hS (h:=af 10 hS (h:=af 11 hS (h:= ?_))))))))))));refine aL 12 hS (h:=af 13 hS (h:=af 14 hS (h:=af 15 hS (h:=af 16 hS (h:=af 17 hS (h:=aL 18 hS (h:=af 19 hS (h:=af 20 hS (h:=af 21 hS (h:=af 22 hS (h:= ?_)))))))))));refine wpAnyH_done ai ?_ _;rw[HW.out];go_wp2_with fail;go_ret;exact⟨rfl,(Below.refl _ _).drew⟩
def Tc(w:World)(b i:Nat)(y0 y1 y2 y3:Nat):World:=(((w.setCell ⟨b,i,none⟩ (.int .u8 (y0:Nat))).setCell ⟨b,i+1,none⟩ (.int .u8 (y1:Nat))).setCell ⟨b,i+2,none⟩ (.int .u8 (y2:Nat))).setCell ⟨b,i+3,none⟩ (.int .u8 (y3:Nat))
def i_(w:World)(b i:Nat)(y0 y1 y2 y3:Nat):World:=(((w.setCell ⟨b,i+3,none⟩ (.int .u8 (y3:Nat))).setCell ⟨b,i+2,none⟩ (.int .u8 (y2:Nat))).setCell ⟨b,i+1,none⟩ (.int .u8 (y1:Nat))).setCell ⟨b,i,none⟩ (.int .u8 (y0:Nat))
theorem Ye(id:Int)(hid:(id==7||id==10)=true)(b i c W y0 y1 y2 y3:Nat)(x0 x1 x2 x3:Value)(w:World)(hW:W<4294967296)(e0:W%256=y0)(e1:W/256%256=y1)(e2:W/65536%256=y2)(e3:W/16777216%256=y3)
  (h0:w.cell? ⟨b,i,none⟩=some x0) (h1:w.cell? ⟨b,i+1,none⟩=some x1) (h2:w.cell? ⟨b,i+2,none⟩=some x2) (h3:w.cell? ⟨b,i+3,none⟩=some x3)
  (f0:w.frozen? ⟨b,i,none⟩=false) (f1:w.frozen? ⟨b,i+1,none⟩=false) (f2:w.frozen? ⟨b,i+2,none⟩=false) (f3:w.frozen? ⟨b,i+3,none⟩=false):
  Calls prog 187 #[.int .i64 id,.slice (some ⟨b,i,none⟩) 4 c,.int .u32 (W:Nat)] w fun e w'=>e= .returned (.tuple #[])∧Tc w b i y0 y1 y2 y3=w':=by
 have HL:=uI id w;rw[hid]at HL;have Ck:=ae HL;have g0:(W:Int)%256=(y0:Int):=aa;have g1:(W:Int)/256%256=(y1:Int):=aa;have g2:(W:Int)/65536%256=(y2:Int):=aa;have g3:(W:Int)/16777216=(y3:Int):=aa;have g3':(W:Int)/16777216%256=(y3:Int):=aa;clear HL hid e0 e1 e2 e3;go_enter func187,ntmps187;go_wp2_with fail;refine Ck.out.mono ?_;rintro e w' ⟨rfl,rfl⟩;go_wp2_with fail;refine bodyPost_ret (v:= .tuple #[]) (by simp[results,results187]) rfl ?_;exact⟨rfl,rfl⟩
theorem Td(id:Int)(hid:(id==7||id==10)=false)(b i c W y0 y1 y2 y3:Nat)(x0 x1 x2 x3:Value)(w:World)(hW:W<4294967296)(e0:W%256=y3)(e1:W/256%256=y2)(e2:W/65536%256=y1)(e3:W/16777216%256=y0)
  (h0:w.cell? ⟨b,i,none⟩=some x0) (h1:w.cell? ⟨b,i+1,none⟩=some x1) (h2:w.cell? ⟨b,i+2,none⟩=some x2) (h3:w.cell? ⟨b,i+3,none⟩=some x3)
  (f0:w.frozen? ⟨b,i,none⟩=false) (f1:w.frozen? ⟨b,i+1,none⟩=false) (f2:w.frozen? ⟨b,i+2,none⟩=false) (f3:w.frozen? ⟨b,i+3,none⟩=false):
  Calls prog 187 #[.int .i64 id,.slice (some ⟨b,i,none⟩) 4 c,.int .u32 (W:Nat)] w fun e w'=>e= .returned (.tuple #[])∧i_ w b i y0 y1 y2 y3=w':=by
 have HL:=uI id w;rw[hid]at HL;have Ck:=ae HL;have g0:(W:Int)%256=(y3:Int):=aa;have g1:(W:Int)/256%256=(y2:Int):=aa;have g2:(W:Int)/65536%256=(y1:Int):=aa;have g3:(W:Int)/16777216=(y0:Int):=aa;have g3':(W:Int)/16777216%256=(y0:Int):=aa;clear HL hid e0 e1 e2 e3;go_enter func187,ntmps187;go_wp2_with fail;refine Ck.out.mono ?_;rintro e w' ⟨rfl,rfl⟩;go_wp2_with fail;go_end0;exact⟨rfl,rfl⟩
def comb(back:Bool)(n p:Nat):Nat:=if back then(n+4294967296-p)%4294967296 else(n+p)%4294967296
def km(back:Bool):Nat:=if back then 251 else 148
theorem za(n p:Nat)(w:World):Calls prog 148 #[.int .u32 (n:Nat),.int .u32 (p:Nat)] w fun e w'=>e= .returned (.int .u32 (comb false n p:Nat))∧w=w':=by
 have hc:((comb false n p:Nat):Int)=((n:Int)+(p:Int))%4294967296:=by unfold comb;simp
 have HC:=ae hc;clear hc;go_enter func148,ntmps148;go_wp2_with fail;go_ret;exact⟨congrArg (fun n:Int=>Ending.returned (Value.int .u32 n)) HC.out.symm,rfl⟩
theorem JT(n p:Nat)(w:World)(hn:n<4294967296)(hp:p<4294967296):Calls prog 251 #[.int .u32 (n:Nat),.int .u32 (p:Nat)] w fun e w'=>e= .returned (.int .u32 (comb true n p:Nat))∧w=w':=by
 have hc:((comb true n p:Nat):Int)=((n:Int)-(p:Int))%4294967296:=by unfold comb;simp;omega
 have HC:=ae hc;clear hc;go_enter func251,ntmps251;go_wp2_with fail;go_ret;exact⟨congrArg (fun n:Int=>Ending.returned (Value.int .u32 n)) HC.out.symm,rfl⟩
theorem pr(back:Bool)(n p:Nat)(w:World)(hn:n<4294967296)(hp:p<4294967296):Calls prog (km back) #[.int .u32 (n:Nat),.int .u32 (p:Nat)] w fun e w'=>e= .returned (.int .u32 (comb back n p:Nat))∧w=w':=by
 cases back;·exact za n p w
 ·exact JT n p w hn hp
def ext(m x:Nat):Nat:=if x%m<m/2 then x%m else x%m+4294967296-m
theorem Cx(x:Int):wrap32 x=(x+2147483648)%4294967296-2147483648:=by unfold wrap32;rfl
theorem N6(x:Nat)(w:World):Calls prog 224 #[.int .u32 (x:Nat),.int .i64 23] w fun e w'=>e= .returned (.int .u32 (ext 8388608 x:Nat))∧w=w':=by go_enter func224,ntmps224;go_wp2_with fail;go_ret;refine⟨congrArg (fun n:Int=>Ending.returned (Value.int .u32 n)) ?_,rfl⟩;rw[Cx];unfold ext;split<;>omega
theorem N7(x:Nat)(w:World):Calls prog 224 #[.int .u32 (x:Nat),.int .i64 18] w fun e w'=>e= .returned (.int .u32 (ext 262144 x:Nat))∧w=w':=by go_enter func224,ntmps224;go_wp2_with fail;go_ret;refine⟨congrArg (fun n:Int=>Ending.returned (Value.int .u32 n)) ?_,rfl⟩;rw[Cx];unfold ext;split<;>omega
def mix(lo hi a b:Nat):Nat:=a%2^lo+b/2^lo%2^(hi-lo)*2^lo+a/2^hi*2^hi
theorem abx(lo hi a b:Nat)(h:lo≤hi):mix lo hi a b=(a%2^lo ||| b/2^lo%2^(hi-lo)*2^lo) ||| a/2^hi*2^hi:=by
 unfold mix;have h1:a%2^lo<2^lo:=Nat.mod_lt _ (Nat.two_pow_pos _);rw[y8 _ _ lo h1];have h2:b/2^lo%2^(hi-lo)<2^(hi-lo):=Nat.mod_lt _ (Nat.two_pow_pos _);have h3:a%2^lo+b/2^lo%2^(hi-lo)*2^lo<2^hi:=by have h4:(b/2^lo%2^(hi-lo)+1)*2^lo≤2^(hi-lo)*2^lo:=Nat.mul_le_mul_right _ h2;rw[←Nat.pow_add,show hi-lo+lo=hi from aa,Nat.add_mul]at h4;omega
 rw[y8 _ _ hi h3]
theorem Yf(lo hi a b:Nat)(h:lo≤hi)(j:Nat):(mix lo hi a b).testBit j=if lo≤j∧j<hi then b.testBit j else a.testBit j:=by
 rw[abx _ _ _ _ h,Nat.testBit_or,Nat.testBit_or,Nat.testBit_mod_two_pow,Nat.testBit_mul_two_pow,Nat.testBit_mul_two_pow,Nat.testBit_mod_two_pow,Nat.testBit_div_two_pow,Nat.testBit_div_two_pow];by_cases h1:lo≤j<;>by_cases h2:j<hi
 ·have e:j-lo+lo=j:=by omega
  have e2:j-lo<hi-lo:=aa;simp[h1,h2,e,e2,Nat.not_lt.mpr h1,Nat.not_le.mpr h2]
 ·have e:j-hi+hi=j:=by omega
  have e2: ¬(j-lo<hi-lo):=aa;simp[h1,h2,e,e2,Nat.not_lt.mpr h1,Nat.not_lt.mp h2]
 ·simp[h1,h2,Nat.not_le.mp h1,Nat.not_le.mpr h2]
 ·omega
theorem vT(lo hi a b:Nat)(h:lo≤hi)(IU:hi≤32)(ha:a<4294967296):((BitVec.ofNat 32 a &&& ~~~(BitVec.ofNat 32 ((2^(hi-lo)-1)*2^lo))) ||| (BitVec.ofNat 32 b &&& BitVec.ofNat 32 ((2^(hi-lo)-1)*2^lo))).toNat=mix lo hi a b:=by
 apply Nat.eq_of_testBit_eq;intro j;rw[Yf lo hi a b h];rw[BitVec.testBit_toNat];by_cases hj:j<32
 ·simp only[BitVec.getLsbD_or,BitVec.getLsbD_and,BitVec.getLsbD_not,BitVec.getLsbD_ofNat,hj,decide_true,Bool.true_and,Nat.testBit_mul_two_pow,Nat.testBit_two_pow_sub_one];by_cases h1:lo≤j<;>by_cases h2:j<hi;·have e2:j-lo<hi-lo:=(by omega);simp[h1,h2,e2]
  ·have e2: ¬(j-lo<hi-lo):=(by omega);simp[h1,h2,e2]
  ·simp[h1]
  ·simp[h1]
 ·rw[if_neg aa];rw[BitVec.getLsbD_of_ge _ _ aa];rw[Nat.testBit_lt_two_pow];exact Nat.lt_of_lt_of_le ha (by have:=Nat.pow_le_pow_right (n:=2) aa (show 32≤j by omega);omega)
theorem jk(lo hi a b m:Nat)(w:World)(h:lo≤hi)(IU:hi≤32)(ha:a<4294967296)(hb:b<4294967296)(hm:(2^(hi-lo)-1)*2^lo=m)(fJ:m<4294967296):
  Calls prog 221 #[.int .u32 (a:Nat),.int .u32 (b:Nat),.int .u32 (m:Nat)] w fun e w'=>e= .returned (.int .u32 (mix lo hi a b:Nat))∧w=w':=by
 have:=Ed (BitVec.ofNat 32 a) (BitVec.ofNat 32 b) (BitVec.ofNat 32 m) w;rw[←hm]at this;rw[vT lo hi a b h IU ha]at this;rw[hm]at this;simp only[BitVec.toNat_ofNat]at this;rw[Nat.mod_eq_of_lt ha,Nat.mod_eq_of_lt hb,Nat.mod_eq_of_lt fJ]at this;exact this
theorem Ef(x k m:Nat)(hx:x<4294967296)(hm:2^k-1=m)(fJ:m<4294967296):bits .and .u32 (x:Int) ((m:Nat):Int)=((x%2^k:Nat):Int):=by rw[u32_and_nat _ _ hx fJ,←hm,Nat.and_two_pow_sub_one_eq_mod]
theorem aby(x:Nat)(hx:x<4294967296):bits .and .u32 (x:Int) 2667577344=((x/2147483648*2147483648+x/16777216%32*16777216:Nat):Int):=by
 have:=u32_and_nat x 2667577344 hx aa;rw[show((2667577344:Nat):Int)=2667577344 from rfl]at this;rw[this];congr 1;have e:x/2147483648*2147483648+x/16777216%32*16777216=(x/16777216%2^5*2^24) ||| x/2^31*2^31:=by rw[y8 _ _ 31 aa];omega
 rw[e];apply Nat.eq_of_testBit_eq;intro j;have hb:(2667577344:Nat)=(2^5-1)*2^24 ||| 1*2^31:=ak;rw[hb,Nat.testBit_and,Nat.testBit_or,Nat.testBit_or,Nat.testBit_mul_two_pow,Nat.testBit_mul_two_pow,Nat.testBit_mul_two_pow,Nat.testBit_mul_two_pow,Nat.testBit_two_pow_sub_one,Nat.testBit_mod_two_pow,show(16777216:Nat)=2^24 from rfl,Nat.testBit_div_two_pow,Nat.testBit_div_two_pow];by_cases hj:j<32
 ·by_cases h1:24≤j
  ·have e:j-24+24=j:=(by omega);by_cases h2:31≤j;·have e2:j=31:=(by omega);subst e2;simp
   ·have e3:Nat.testBit 1 (j-31)=true:=(by rw[show j-31=0 from aa];rfl);simp[h1,h2,e];exact Bool.and_comm _ _
  ·have h2: ¬31≤j:=(by omega);simp[h1,h2]
 ·have hz:x.testBit j=false:=Nat.testBit_lt_two_pow (Nat.lt_of_lt_of_le hx (by have:=Nat.pow_le_pow_right (n:=2) aa (show 32≤j by omega);omega));have e:j-24+24=j:=aa;have e2:j-31+31=j:=aa;rw[e,e2,hz];simp
theorem kn(back:Bool)(n p:Nat):comb back n p<4294967296:=by unfold comb;split<;>omega
theorem uJ:km false=148:=rfl
theorem mH:km true=251:=rfl
def ppc(back:Bool)(W P:Nat):Nat:=if W/67108864=18∧W%4=1 then mix 2 26 W (comb back (W/4) (P/4)*4%4294967296)else W
theorem Yg(back:Bool)(W P:Nat)(w:World)(hW:W<4294967296)(hP:P<4294967296):
  Calls prog 220 #[.int .u32 (W:Nat),.int .u32 (P:Nat),.func (.func (km back)) #[] #[]] w fun e w'=>e= .returned (.int .u32 (ppc back W P:Nat))∧w=w':=by
 have hand:bits .and .u32 (W:Int) 3=((W%4:Nat):Int):=Ef W 2 3 hW rfl aa;have HC:=ae (pr back (W/4) (P/4) w aa aa);have eS:=kn back (W/4) (P/4);have hp:ppc back W P=if W/67108864=18∧W%4=1 then mix 2 26 W (comb back (W/4) (P/4)*4%4294967296)else W:=rfl;generalize ppc back W P=R at*;generalize comb back (W/4) (P/4)=C at*;by_cases h1:W/67108864=18
 ·by_cases h2:W%4=1
  ·rw[if_pos ⟨h1,h2⟩]at hp;have HM:=ae (jk 2 26 W (C*4%4294967296) 67108860 w aa aa hW aa rfl aa);rw[←hp]at HM;clear hp;cases back<;>simp only[uJ,mH]at HC ⊢
   all_goals
    go_enter func220,ntmps220;go_wp2_with fail;refine HC.out.mono ?_;rintro e w' ⟨rfl,rfl⟩;go_wp2_with fail;refine HM.out.mono ?_;rintro e w' ⟨rfl,rfl⟩;go_wp2_with fail;go_ret;exact⟨rfl,rfl⟩
  ·rw[if_neg (fun h=>h2 h.2)]at hp;subst hp;go_enter func220,ntmps220;go_wp2_with fail;go_ret;exact⟨rfl,rfl⟩
 ·rw[if_neg (fun h=>h1 h.1)]at hp;subst hp;go_enter func220,ntmps220;go_wp2_with fail;go_ret;exact⟨rfl,rfl⟩
def arm(back:Bool)(W P:Nat):Nat:=if W/16777216=235 then mix 0 24 W (comb back W (P/4+2))else W
theorem Yh(back:Bool)(W P:Nat)(w:World)(hW:W<4294967296)(hP:P<4294967296):
  Calls prog 222 #[.int .u32 (W:Nat),.int .u32 (P:Nat),.func (.func (km back)) #[] #[]] w fun e w'=>e= .returned (.int .u32 (arm back W P:Nat))∧w=w':=by
 have HC:=ae (pr back W (P/4+2) w aa aa);have eS:=kn back W (P/4+2);have hp:arm back W P=if W/16777216=235 then mix 0 24 W (comb back W (P/4+2))else W:=rfl;generalize arm back W P=R at*;generalize comb back W (P/4+2)=C at*;by_cases h1:W/16777216=235
 ·rw[if_pos h1]at hp;have HM:=ae (jk 0 24 W C 16777215 w aa aa hW aa rfl aa);rw[←hp]at HM;clear hp;cases back<;>simp only[uJ,mH]at HC ⊢
  all_goals
   go_enter func222,ntmps222;go_wp2_with fail;refine HC.out.mono ?_;rintro e w' ⟨rfl,rfl⟩;go_wp2_with fail;refine HM.out.mono ?_;rintro e w' ⟨rfl,rfl⟩;go_wp2_with fail;go_ret;exact⟨rfl,rfl⟩
 ·rw[if_neg h1]at hp;subst hp;go_enter func222,ntmps222;go_wp2_with fail;go_ret;exact⟨rfl,rfl⟩
def zb(back:Bool)(W P:Nat):Nat:=if W/4194304=256∨W/4194304=511 then mix 0 30 1073741824 (ext 8388608 (comb back W (P/4)))else W
theorem Te(m x:Nat)(h:0<m)(h2:m≤4294967296):ext m x<4294967296:=by unfold ext;have:=Nat.mod_lt x h;split<;>omega
theorem N8(back:Bool)(W P:Nat)(w:World)(hW:W<4294967296)(hP:P<4294967296):
  Calls prog 223 #[.int .u32 (W:Nat),.int .u32 (P:Nat),.func (.func (km back)) #[] #[]] w fun e w'=>e= .returned (.int .u32 (zb back W P:Nat))∧w=w':=by
 have HC:=ae (pr back W (P/4) w aa aa);have eS:=kn back W (P/4);have hp:zb back W P=if W/4194304=256∨W/4194304=511 then mix 0 30 1073741824 (ext 8388608 (comb back W (P/4)))else W:=rfl;generalize zb back W P=R at*;generalize comb back W (P/4)=C at*;by_cases h1:W/4194304=256∨W/4194304=511
 ·rw[if_pos h1]at hp;have HE:=ae (N6 C w);have hel:=Te 8388608 C aa aa;generalize ext 8388608 C=E at*;have HM:=ae (jk 0 30 1073741824 E 1073741823 w aa aa aa aa rfl aa);rw[←hp]at HM;clear hp;have h2:((W:Int)/4194304 !=256)=false∨(((W:Int)/4194304 !=256)=true∧((W:Int)/4194304 !=511)=false):=by
   rcases h1 with h1 | h1;·have:(W:Int)/4194304=256:=(by omega);simp[this]
   ·have:(W:Int)/4194304=511:=(by omega);simp[this]
  clear h1;rcases h2 with h2 | ⟨h2,h3⟩
  all_goals
   cases back<;>simp only[uJ,mH]at HC ⊢
   all_goals
    go_enter func223,ntmps223;go_wp2_with fail;refine HC.out.mono ?_;rintro e w' ⟨rfl,rfl⟩;go_wp2_with fail;refine HE.out.mono ?_;rintro e w' ⟨rfl,rfl⟩;go_wp2_with fail;refine HM.out.mono ?_;rintro e w' ⟨rfl,rfl⟩;go_wp2_with fail;go_ret;exact⟨rfl,rfl⟩
 ·rw[if_neg h1]at hp;have Dy:=hp.symm;subst Dy;have h2:((W:Int)/4194304 !=256)=true:=av;have h3:((W:Int)/4194304 !=511)=true:=av;clear h1;go_enter func223,ntmps223;go_wp2_with fail;go_ret;exact⟨rfl,rfl⟩
def bz(W:Nat):Nat:=W/32%524288*4+W/536870912%4
def zc(W E:Nat):Nat:=mix 5 24 (mix 29 31 W (E*536870912%4294967296)) (E/4*32%4294967296)
def page(back:Bool)(W P:Nat):Nat:=if(W/2147483648=1∧W/16777216%32=16)∧(bz W+131072)%2097152<262144 then zc W (ext 262144 (comb back (bz W) (P/4096)))else W
theorem rJ(lo hi a b:Nat)(h:lo≤hi)(IU:hi≤32)(ha:a<4294967296):mix lo hi a b<4294967296:=by rw[←vT lo hi a b h IU ha];exact BitVec.isLt _
theorem Tf(back:Bool)(W P:Nat)(w:World)(hW:W<4294967296)(hP:P<4294967296):
  Calls prog 226 #[.int .u32 (W:Nat),.int .u32 (P:Nat),.func (.func (km back)) #[] #[]] w fun e w'=>e= .returned (.int .u32 (page back W P:Nat))∧w=w':=by
 have e1:bits .and .u32 ((W:Int)/32) 524287=((W/32%524288:Nat):Int):=Ef (W/32) 19 524287 aa rfl aa;have e2:bits .and .u32 ((W:Int)/536870912) 3=((W/536870912%4:Nat):Int):=Ef (W/536870912) 2 3 aa rfl aa;have e3:bits .or .u32 (((W/32%524288:Nat):Int)*4) ((W/536870912%4:Nat):Int)=((bz W:Nat):Int):=by have:=u32_or_nat (W/32%524288*4) (W/536870912%4) aa aa;rw[Nat.or_comm,y8 _ _ 2 aa]at this;rw[show(((W/32%524288:Nat):Int)*4)=((W/32%524288*4:Nat):Int)from rfl,this];unfold bz;omega
 have hN:bz W<2097152:=by unfold bz;omega
 have hA:W/32%524288<524288:=aa;have e4:=aby W hW;have hG:W/2147483648*2147483648+W/16777216%32*16777216=2415919104↔(W/2147483648=1∧W/16777216%32=16):=aa;have hp:page back W P=if(W/2147483648=1∧W/16777216%32=16)∧(bz W+131072)%2097152<262144 then zc W (ext 262144 (comb back (bz W) (P/4096)))else W:=rfl;simp only[←hG]at hp;clear hG;generalize W/2147483648*2147483648+W/16777216%32*16777216=G at*;have HC:=ae (pr back (bz W) (P/4096) w aa aa);have eS:=kn back (bz W) (P/4096);generalize page back W P=R at*;generalize comb back (bz W) (P/4096)=C at*;generalize bz W=N at*;generalize W/32%524288=A at*;generalize W/536870912%4=B at*;by_cases h1:G=2415919104
 ·by_cases h2:(N+131072)%2097152<262144
  ·rw[if_pos ⟨h1,h2⟩]at hp;have g1:((G:Int) !=2415919104)=false:=av;have g2:decide (262144≤((N:Int)+131072)%2097152)=false:=av;have HE:=ae (N7 C w);have hel:=Te 262144 C aa aa;generalize ext 262144 C=E at*;unfold zc at hp;have HM:=ae (jk 29 31 W (E*536870912%4294967296) 1610612736 w aa aa hW aa rfl aa);have un:=rJ 29 31 W (E*536870912%4294967296) aa aa hW;generalize mix 29 31 W (E*536870912%4294967296)=M at*;have HN:=ae (jk 5 24 M (E/4*32%4294967296) 16777184 w aa aa un aa rfl aa);rw[←hp]at HN;clear hp h1 h2;cases back<;>simp only[uJ,mH]at HC ⊢
   all_goals
    go_enter func226,ntmps226;go_wp2_with fail;refine HC.out.mono ?_;rintro e w' ⟨rfl,rfl⟩;go_wp2_with fail;refine HE.out.mono ?_;rintro e w' ⟨rfl,rfl⟩;go_wp2_with fail;refine HM.out.mono ?_;rintro e w' ⟨rfl,rfl⟩;go_wp2_with fail;refine HN.out.mono ?_;rintro e w' ⟨rfl,rfl⟩;go_wp2_with fail;go_ret;exact⟨rfl,rfl⟩
  ·rw[if_neg (fun h=>h2 h.2)]at hp;have Dy:=hp.symm;subst Dy;have g1:((G:Int) !=2415919104)=false:=av;have g2:decide (262144≤((N:Int)+131072)%2097152)=true:=av;clear h1 h2;go_enter func226,ntmps226;go_wp2_with fail;go_ret;exact⟨rfl,rfl⟩
 ·rw[if_neg (fun h=>h1 h.1)]at hp;have Dy:=hp.symm;subst Dy;have g1:((G:Int) !=2415919104)=true:=av;clear h1;go_enter func226,ntmps226;go_wp2_with fail;go_ret;exact⟨rfl,rfl⟩
def zd(back:Bool)(W P:Nat):Nat:=if W/67108864=37 then mix 0 26 W (comb back W (P/4))else page back W P
theorem N9(back:Bool)(W P:Nat)(w:World)(hW:W<4294967296)(hP:P<4294967296):
  Calls prog 225 #[.int .u32 (W:Nat),.int .u32 (P:Nat),.func (.func (km back)) #[] #[]] w fun e w'=>e= .returned (.int .u32 (zd back W P:Nat))∧w=w':=by
 have HC:=ae (pr back W (P/4) w aa aa);have eS:=kn back W (P/4);have hp:zd back W P=if W/67108864=37 then mix 0 26 W (comb back W (P/4))else page back W P:=rfl;have HP:=ae (Tf back W P w hW hP);generalize zd back W P=R at*;generalize comb back W (P/4)=C at*;by_cases h1:W/67108864=37
 ·rw[if_pos h1]at hp;have HM:=ae (jk 0 26 W C 67108863 w aa aa hW aa rfl aa);rw[←hp]at HM;clear hp;cases back<;>simp only[uJ,mH]at HC ⊢
  all_goals
   go_enter func225,ntmps225;go_wp2_with fail;refine HC.out.mono ?_;rintro e w' ⟨rfl,rfl⟩;go_wp2_with fail;refine HM.out.mono ?_;rintro e w' ⟨rfl,rfl⟩;go_wp2_with fail;go_ret;exact⟨rfl,rfl⟩
 ·rw[if_neg h1]at hp;rw[←hp]at HP;clear hp;go_enter func225,ntmps225;go_wp2_with fail;refine HP.out.mono ?_;rintro e w' ⟨rfl,rfl⟩;go_wp2_with fail;go_ret;exact⟨rfl,rfl⟩
def bytesOf(low:Bool)(W:Nat):List UInt8:=if low then [UInt8.ofNat (W%256),UInt8.ofNat (W/256%256),UInt8.ofNat (W/65536%256),UInt8.ofNat (W/16777216%256)]else [UInt8.ofNat (W/16777216%256),UInt8.ofNat (W/65536%256),UInt8.ofNat (W/256%256),UInt8.ofNat (W%256)]
theorem bytesOf_length(low:Bool)(W:Nat):(bytesOf low W).length=4:=by unfold bytesOf;cases low<;>rfl
theorem jX(n:Nat):B8 (UInt8.ofNat (n%256))= .int .u8 ((n%256:Nat):Int):=by have:n%256<256:=aa;simp[B8,Nat.mod_eq_of_lt this]
theorem Tg(R t:List Value)(a b c d x0 x1 x2 x3:Value)(i:Nat)(h:R.length=i):((((R++a::b::c::d::t).set i x0).set (i+1) x1).set (i+2) x2).set (i+3) x3=R++x0::x1::x2::x3::t:=by subst h;simp
theorem Oa(R t:List Value)(a b c d x0 x1 x2 x3:Value)(i:Nat)(h:R.length=i):((((R++a::b::c::d::t).set (i+3) x3).set (i+2) x2).set (i+1) x1).set i x0=R++x0::x1::x2::x3::t:=by subst h;simp
def Put(base:Nat)(w:World)(v:Value)(l:List UInt8)(e:Ending)(w':World):Prop:=e= .returned (.tuple #[])∧Own base w' v l∧Below base w w'
theorem Yi(id:Int)(low:Bool)(hid:(id==7||id==10)=low)(base g n cap c i W:Nat)(R t:List UInt8)(x0 x1 x2 x3:UInt8)(w:World)(hW:W<4294967296)(hi:R.length=i)(hg:base≤g)
  (hn:n=(R++x0::x1::x2::x3::t).length) (ho:w.ownsRow base 5 1 (.slice (some ⟨g,0,none⟩) n cap) n ((R++x0::x1::x2::x3::t).map B8)):
  Calls prog 187 #[.int .i64 id,.slice (some ⟨g,i,none⟩) 4 c,.int .u32 (W:Nat)] w (Put base w (.slice (some ⟨g,0,none⟩) n cap) (R++bytesOf low W++t)):=by
 have hlen:(R++x0::x1::x2::x3::t).length=R.length+(t.length+4):=ag;have hc: ∀j,j<4→ ∃x,w.cell? ⟨g,i+j,none⟩=some x:=by intro j hj;have h:=ho.cellAt (i+j) aa;rw[List.getElem?_eq_getElem av]at h;exact⟨_,h⟩
 have hf: ∀j,w.frozen? ⟨g,i+j,none⟩=false:=fun j=>ho.frozenAt _;obtain⟨y0,h0⟩:=hc 0 aa;obtain⟨y1,h1⟩:=hc 1 aa;obtain⟨y2,h2⟩:=hc 2 aa;obtain⟨y3,h3⟩:=hc 3 aa;have f0:=hf 0;have f1:=hf 1;have f2:=hf 2;have f3:=hf 3;rw[Nat.add_zero]at h0 f0;have ij:n=(R++bytesOf low W++t).length:=by rw[hn,hlen];simp[bytesOf_length];omega
 cases low with
 | true=>
  refine(Ye id hid g i c W _ _ _ _ y0 y1 y2 y3 w hW rfl rfl rfl rfl h0 h1 h2 h3 f0 f1 f2 f3).mono ?_;rintro e w' ⟨rfl,rfl⟩;refine⟨rfl,?_,?_⟩;·unfold Own;rw[←ij];unfold Tc;have s1:=(ho.stored i (B8 (UInt8.ofNat (W%256)))).1;have s2:=(s1.stored (i+1) (B8 (UInt8.ofNat (W/256%256)))).1;have s3:=(s2.stored (i+2) (B8 (UInt8.ofNat (W/65536%256)))).1;have s4:=(s3.stored (i+3) (B8 (UInt8.ofNat (W/16777216%256)))).1;rw[List.map_append,List.map_cons,List.map_cons,List.map_cons,List.map_cons,Tg _ _ _ _ _ _ _ _ _ _ _ iZ]at s4;rw[jX W,jX (W/256),jX (W/65536),jX (W/16777216)]at s4;have e:(R++bytesOf true W++t).map B8=R.map B8++B8 (UInt8.ofNat (W%256))::B8 (UInt8.ofNat (W/256%256))::B8 (UInt8.ofNat (W/65536%256))::B8 (UInt8.ofNat (W/16777216%256))::t.map B8:=(by simp[bytesOf]);rw[e,jX W,jX (W/256),jX (W/65536),jX (W/16777216)];exact s4
  ·exact((((Below.refl base w).setCell hg _).setCell hg _).setCell hg _).setCell hg _
 | false=>
  refine(Td id hid g i c W _ _ _ _ y0 y1 y2 y3 w hW rfl rfl rfl rfl h0 h1 h2 h3 f0 f1 f2 f3).mono ?_;rintro e w' ⟨rfl,rfl⟩;refine⟨rfl,?_,?_⟩;·unfold Own;rw[←ij];unfold i_;have s1:=(ho.stored (i+3) (B8 (UInt8.ofNat (W%256)))).1;have s2:=(s1.stored (i+2) (B8 (UInt8.ofNat (W/256%256)))).1;have s3:=(s2.stored (i+1) (B8 (UInt8.ofNat (W/65536%256)))).1;have s4:=(s3.stored i (B8 (UInt8.ofNat (W/16777216%256)))).1;rw[List.map_append,List.map_cons,List.map_cons,List.map_cons,List.map_cons,Oa _ _ _ _ _ _ _ _ _ _ _ iZ]at s4;rw[jX W,jX (W/256),jX (W/65536),jX (W/16777216)]at s4;have e:(R++bytesOf false W++t).map B8=R.map B8++B8 (UInt8.ofNat (W/16777216%256))::B8 (UInt8.ofNat (W/65536%256))::B8 (UInt8.ofNat (W/256%256))::B8 (UInt8.ofNat (W%256))::t.map B8:=(by simp[bytesOf]);rw[e,jX W,jX (W/256),jX (W/65536),jX (W/16777216)];exact s4
  ·exact((((Below.refl base w).setCell hg _).setCell hg _).setCell hg _).setCell hg _
def V6(low:Bool)(cv:Nat→Nat→Nat)(start:Nat)(l:List UInt8)(k:Nat):List UInt8:=
 match l.drop (4*k)with
 | a::b::c::d::_=>bytesOf low (cv (word low a b c d) ((start+4*k)%4294967296))
 | _=>[]
def pre(low:Bool)(cv:Nat→Nat→Nat)(start:Nat)(l:List UInt8):Nat→List UInt8
 | 0=>[]
 | k+1=>pre low cv start l k++V6 low cv start l k
def dO(low:Bool)(cv:Nat→Nat→Nat)(start:Nat)(l:List UInt8):List UInt8:=pre low cv start l (l.length/4)++l.drop (4*(l.length/4))
theorem uK(l:List UInt8)(i:Nat)(h:i+4≤l.length): ∃a b c d t,l.drop i=a::b::c::d::t:=by
 have hl:(l.drop i).length=l.length-i:=List.length_drop ..;match hd:l.drop i with
 | a::b::c::d::t=>exact⟨a,b,c,d,t,rfl⟩
 | []=>rw[hd]at hl;simp at hl;omega
 | [_]=>rw[hd]at hl;simp at hl;omega
 | [_,_]=>rw[hd]at hl;simp at hl;omega
 | [_,_,_]=>rw[hd]at hl;simp at hl;omega
theorem nu(low:Bool)(cv:Nat→Nat→Nat)(start:Nat)(l:List UInt8)(k:Nat)(h:4*k≤l.length):(pre low cv start l k).length=4*k:=by
 induction k with
 | zero=>rfl
 | succ k ih=>
  obtain⟨a,b,c,d,t,e⟩:=uK l (4*k) aa;simp only[pre,V6,e,List.length_append,bytesOf_length,ih aa];omega
def kV(w:World)(l:List UInt8)(err:Int)(e:Ending)(w':World):Prop:= ∃v,e= .returned (.tuple #[v,.int .i64 err])∧Own w.heap.size w' v l∧Below w.heap.size w w'
theorem j_:(prog.info? 253).map (fun i=>(i.zero,i.size))=some (some .nilFunc,1):=ai
theorem adE(id:Int)(start:Nat)(A:Option Addr)(n c:Nat)(f:Value)(w:World)(h:(id≠5∧id≠7∧id≠9∧id≠10)∨start%4≠0):
  Calls prog 147 #[.int .i64 id,.int .u32 (start:Nat),.slice A n c,f] w fun e w'=>e= .returned (.tuple #[.slice none 0 0,.int .i64 1])∧Below w.heap.size w w':=by
 have key: ∃a,Instr.findNow (.int .i64) (.int .i64 id) yZ.toList 0=some a∧(a=none∨start%4≠0):=by
  by_cases h5:id=5;·subst h5;exact⟨_,S9,.inr aa⟩
  by_cases h7:id=7;·subst h7;exact⟨_,Ta,.inr aa⟩
  by_cases h9:id=9;·subst h9;exact⟨_,Tb,.inr aa⟩
  by_cases Cw:id=10;·subst Cw;exact⟨_,L8,.inr aa⟩
  exact⟨_,N3 id h5 h7 h9 Cw,.inl rfl⟩
 obtain⟨a,hf,ha⟩:=key;have HF:=ae hf;clear hf h;have hz:=(zero_of_info j_).1;have HFA:=ae (vS w);go_enter func147,ntmps147;go_wp2_with fail;refine HFA.out.mono ?_;rintro e w1 ⟨r,rfl,hr,Fu,hb⟩;have hl:=Gp w1 r id hr a HF.out .nilFunc (hz w1);clear hz hr;cases a with
 | none=>
  simp only[Option.map_none,Option.getD_none,Option.isSome_none]at hl;go_wp2_with fail;go_ret2;exact⟨rfl,hb⟩
 | some q=>
  have hs:start%4≠0:=by simpa using ha
  have hs':((start:Int)%4 !=0)=true:=av;simp only[Option.map_some,Option.getD_some,Option.isSome_some]at hl;clear ha hs;generalize q.2=qv at*;go_wp2_with fail;go_ret2;exact⟨rfl,hb⟩
theorem word_lt(low:Bool)(a b c d:UInt8):word low a b c d<4294967296:=by have h1:=a.toNat_lt;have h2:=b.toNat_lt;have h3:=c.toNat_lt;have h4:=d.toNat_lt;unfold word;split<;>omega
theorem Gq{base:Nat}{v:Value}{l:List UInt8}{n:Nat}(h:Own base w v l)(hn:n=l.length):w.ownsRow base 5 1 v n (l.map B8):=by subst hn;exact h
theorem tf(id:Int)(low:Bool)(F L q:Nat)(cv:Nat→Nat→Nat)(hid:(id==7||id==10)=low)(hlk:Instr.findNow (.int .i64) (.int .i64 id) yZ.toList 0=some (some (q,.func (.func F) #[] #[])))
  (hF: ∀(args:Array Value) (w:World),(callFunc F args).run prog w= .ok (.enter F args) w)
  (AD: ∀(W P:Nat) (w:World),W<4294967296→P<4294967296→Calls prog F #[.int .u32 (W:Nat),.int .u32 (P:Nat),.func (.func L) #[] #[]] w fun e w'=>e= .returned (.int .u32 (cv W P:Nat))∧w=w')
  (aH: ∀W P,W<4294967296→cv W P<4294967296)
  (start:Nat) (bQ:start<4294967296) (sI:start%4=0) (A:Option Addr) (l:List UInt8) (c:Nat) (w:World) (hB:Bytes w A l) (hm:l.length≤140737488355328):
  Calls prog 147 #[.int .i64 id,.int .u32 (start:Nat),.slice A l.length c,.func (.func L) #[] #[]] w (kV w (dO low cv start l) 0):=by
 have HF:=ae hlk;have HFN:=ae hF;have HCV:=ae AD;have AG:=ae aH;have HID:=ae hid;have hz:=(zero_of_info j_).1;have HFA:=ae (vS w);have hs':((start:Int)%4 !=0)=false:=av;clear hlk hF AD aH hid;go_enter func147,ntmps147;go_wp2_with fail;refine HFA.out.mono ?_;rintro e w1 ⟨r,rfl,hr,Fu,hb⟩;have hl:=Gp w1 r id hr _ HF.out .nilFunc (hz w1);clear hz hr;simp only[Option.map_some,Option.getD_some,Option.isSome_some]at hl;have ci:Own w.heap.size w1 (.slice none 0 0) []:=Own.nil _ _;have dw:([]:List UInt8).length+l.length≤140737488355328:=rf;have Th:=hb.size;go_wp2_with (at_builtin;refine ap rfl (.const (.slice none 0 0)) (.tmp 28) rfl w.heap.size _ (.slice none 0 0) [] rfl ci A l c rfl (hB.below hb) dw Th ?_;intro v1 w2 xa kz)
 have aD:Below w.heap.size w w2:=ao hb kz Th C4;rw[List.nil_append]at xa;obtain⟨A2,c2,rfl,si,qn,_⟩:=xa.read;clear ci dw hl Th hb kz hs' Fu;go_loopw [13] (fun i wr=> ∃k:Nat,4*k≤l.length∧i= .int .i64 (4*k:Nat)∧Own w.heap.size wr (.slice A2 l.length c2) (pre low cv start l k++l.drop (4*k))∧Below w.heap.size w wr) (fun i _=>l.length-(intOf i).toNat);case atStart=>exact⟨0,aa,rfl,by simpa [pre]using xa,aD⟩
 case round=>
  clear xa aD;obtain⟨k,hk,rfl,aK,hb⟩:=hrel;by_cases aH:4*k+4≤l.length
  ·obtain⟨a,b,c,d,t,e⟩:=uK l (4*k) aH;have qp:=nu low cv start l k hk;have anf:Hid (pre low cv start l (k+1)++l.drop (4*(k+1))=pre low cv start l k++bytesOf low (cv (word low a b c d) ((start+4*k)%4294967296))++t):=(by apply ae;have h2:l.drop (4*(k+1))=t:=(by rw[show 4*(k+1)=4*k+4 by omega,←List.drop_drop,e];rfl);rw[h2];simp only[pre,V6,e]);rw[e]at aK;have Di:l.length=(pre low cv start l k++a::b::c::d::t).length:=(by have:=congrArg List.length e;simp at this;simp[qp];omega);generalize pre low cv start l k=R at*;have how:=Gq aK Di;obtain⟨g,cap,hgc,Ce,ang⟩:=World.ownsRow.form how aa;injection hgc with anh _ ani;subst anh;subst ani;have hc: ∀j (hj:j<4),wr.cell? ⟨g,4*k+j,none⟩=some (B8 ([a,b,c,d][j])):=by
    intro j hj;rw[how.cellAt (4*k+j) aa,List.getElem?_map,List.getElem?_append_right aa,qp];rw[show 4*k+j-4*k=j by omega];match j,hj with
    | 0,_=>rfl
    | 1,_=>rfl
    | 2,_=>rfl
    | 3,_=>rfl
   have h0:=hc 0 aa;have h1:=hc 1 aa;have h2:=hc 2 aa;have h3:=hc 3 aa;rw[Nat.add_zero]at h0;simp only[List.getElem_cons_zero,List.getElem_cons_succ]at h0 h1 h2 h3;have HG:=ae (N5 id g (4*k) (c2-4*k) a b c d wr h0 h1 h2 h3);rw[HID.out]at HG;have W7:=word_lt low a b c d;have eS:=AG.out (word low a b c d) ((start+4*k)%4294967296) W7;have HC:=ae (fun w'=>HCV.out (word low a b c d) ((start+4*k)%4294967296) w' W7 aa);generalize word low a b c d=W at*;generalize cv W ((start+4*k)%4294967296)=V at*;have hH:=HFN.out;have k0: ¬c2=4*k:=aa;clear hc h0 h1 h2 h3 e;have At:=ae qp;have Ck:=ae Di;clear qp Di;go_wp2_with fail
   ((with_reducible refine HG.out.mono ?_);rintro e w3 ⟨rfl,bA⟩)
   have agy:w3.ownsRow w.heap.size 5 1 (.slice (some ⟨g,0,none⟩) l.length c2) l.length ((R++a::b::c::d::t).map B8):=Gq (aK.below bA) Ck.out;have qp:((start:Int)+4*(k:Int)%4294967296)%4294967296=(((start+4*k)%4294967296:Nat):Int):=aa;have HPU:=ae (Yi id low HID.out w.heap.size g l.length c2 (c2-4*k) (4*k) V R t a b c d w3 eS At.out Ce Ck.out agy);have ki:=aM hb bA;generalize(start+4*k)%4294967296=PL at*;clear how agy bA aK hb;go_wp2_with fail;refine(HC.out w3).mono ?_;rintro e w' ⟨rfl,rfl⟩;go_wp2_with fail;refine HPU.out.mono ?_;rintro e w4 ⟨rfl,cY,bm⟩;go_wp2_with fail;go_roundw;case rel=>exact⟨k+1,aa,aE,by rw[anf.out];exact cY,ki.trans bm⟩
   case measure=>simp[intOf];omega
  ·have hkk:l.length/4=k:=(by omega);have HCD:Hid (pre low cv start l k++l.drop (4*k)=dO low cv start l):=(by apply Lib.hid;unfold dO;rw[hkk]);clear hkk;go_wp2_with fail;go_ret2;exact⟨_,rfl,by rw[←HCD.out];exact aK,hb⟩
def tld(back:Bool)(n p m:Nat):Nat:=if back then(((n:Int)-(p:Int))%(m:Int)).toNat else(n+p)%m
theorem l8(back:Bool)(n p m:Nat)(hm:0<m):tld back n p m<m:=by
 unfold tld;split;·have:=Int.emod_lt_of_pos ((n:Int)-p) (show(0:Int)<m by omega);omega
 ·exact Nat.mod_lt _ hm
def ze(n m all:Nat):Nat:=if n≥m/2 then n+all-m else n
def uL(back:Bool)(W P:Nat):Nat:=if W/67108864=18∧W%4=1 then 1207959552+4*tld back (W/4%16777216) (P/4) 16777216+1 else W
def uM(back:Bool)(W P:Nat):Nat:=if W/16777216=235 then 3942645760+tld back (W%16777216) (P/4+2) 16777216 else W
def jl(back:Bool)(W P:Nat):Nat:=if W/4194304=256∨W/4194304=511 then 1073741824+ze (tld back (W%8388608) (P/4) 8388608) 8388608 1073741824 else W
def fe(W m:Nat):Nat:=2147483648+m%4*536870912+268435456+m/4*32+W%32
def gC(back:Bool)(W P:Nat):Nat:=
 if W/67108864=37 then 2483027968+tld back (W%67108864) (P/4) 67108864
 else if(W/2147483648=1∧W/16777216%32=16)∧(bz W+131072)%2097152<262144 then fe W (ze (tld back (bz W%262144) (P/4096) 262144) 262144 2097152)else W
theorem JU(n m all:Nat)(h:n<m)(h2:m≤all):ze n m all<all:=by unfold ze;split<;>omega
theorem pu(back:Bool)(n p k:Nat)(hn:n<4294967296)(hp:p<4294967296)(hk:k≤32):tld back (n%2^k) p (2^k)=comb back n p%2^k:=by
 have hd:(4294967296:Nat)=2^k*2^(32-k):=by rw[←Nat.pow_add,show k+(32-k)=32 by omega]
 unfold tld comb;cases back with
 | false=>
  simp only[Bool.false_eq_true,if_false];rw[hd,Nat.mod_mul_right_mod,Nat.mod_add_mod]
 | true=>
  simp only[if_true];have e:(n+4294967296-p:Nat)%4294967296%2^k=(n+4294967296-p:Nat)%2^k:=by generalize n+4294967296-p=x;rw[hd,Nat.mod_mul_right_mod]
  rw[e];have h1:(((n+4294967296-p)%2^k:Nat):Int)=((n:Int)-p)%((2^k:Nat):Int):=by rw[Int.natCast_emod];have:((n+4294967296-p:Nat):Int)=((n:Int)-p)+((2^k:Nat):Int)*((2^(32-k):Nat):Int):=(by rw[←Int.natCast_mul,←hd];omega);rw[this,Int.add_mul_emod_self_left]
  have h2:(((n%2^k:Nat):Int)-p)%((2^k:Nat):Int)=((n:Int)-p)%((2^k:Nat):Int):=by rw[Int.natCast_emod,Int.emod_sub_emod]
  rw[h2,←h1,Int.toNat_natCast]
theorem abB(back:Bool)(W P:Nat)(hW:W<4294967296)(hP:P<4294967296):ppc back W P=uL back W P:=by
 unfold ppc uL;split;·have h:=pu back (W/4) (P/4) 24 aa aa aa;have hl:=kn back (W/4) (P/4);simp only[mix];generalize comb back (W/4) (P/4)=C at*;rw[show(16777216:Nat)=2^24 from rfl,h];simp only[Nat.reducePow,Nat.reduceSub];omega
 ·rfl
theorem abC(back:Bool)(W P:Nat)(hW:W<4294967296)(hP:P<4294967296):arm back W P=uM back W P:=by
 unfold arm uM;split;·have h:=pu back W (P/4+2) 24 aa aa aa;have hl:=kn back W (P/4+2);simp only[mix];generalize comb back W (P/4+2)=C at*;rw[show W%16777216=W%2^24 from rfl,show tld back (W%2^24) (P/4+2) 16777216=tld back (W%2^24) (P/4+2) (2^24)from rfl,h];simp only[Nat.reducePow,Nat.reduceSub];omega
 ·rfl
theorem Ti(back:Bool)(W P:Nat)(hW:W<4294967296)(hP:P<4294967296):zb back W P=jl back W P:=by
 unfold zb jl;split;·have h:=pu back W (P/4) 23 aa aa aa;have hl:=kn back W (P/4);simp only[mix];generalize comb back W (P/4)=C at*;rw[show W%8388608=W%2^23 from rfl,show tld back (W%2^23) (P/4) 8388608=tld back (W%2^23) (P/4) (2^23)from rfl,h];unfold ext ze;simp only[Nat.reducePow,Nat.reduceSub,Nat.reduceDiv];split<;>split<;>omega
 ·rfl
theorem Yj(x:Nat):ext 262144 x%2097152=ze (x%262144) 262144 2097152:=by unfold ext ze;split<;>split<;>omega
theorem Ob(W E:Nat)(h1:W/2147483648=1)(h2:W/16777216%32=16):zc W E=fe W (E%2097152):=by unfold zc fe;simp only[mix,Nat.reducePow,Nat.reduceSub];omega
theorem Tj(back:Bool)(W P:Nat)(hW:W<4294967296)(hP:P<4294967296):zd back W P=gC back W P:=by
 unfold zd gC page;split;·have h:=pu back W (P/4) 26 aa aa aa;have hl:=kn back W (P/4);simp only[mix];generalize comb back W (P/4)=C at*;rw[show W%67108864=W%2^26 from rfl,show tld back (W%2^26) (P/4) 67108864=tld back (W%2^26) (P/4) (2^26)from rfl,h];simp only[Nat.reducePow,Nat.reduceSub];omega
 ·split;·rename_i h;have hN:bz W<2097152:=(by unfold bz;omega);have ht:=pu back (bz W) (P/4096) 18 aa aa aa;rw[Ob W _ h.1.1 h.1.2,Yj];rw[show bz W%262144=bz W%2^18 from rfl,show tld back (bz W%2^18) (P/4096) 262144=tld back (bz W%2^18) (P/4096) (2^18)from rfl,ht]
  ·rfl
theorem pw(back:Bool)(n p m:Nat)(hn:n<m):tld (!back) (tld back n p m) p m=n:=by
 unfold tld;have hm:(0:Int)<m:=aa;cases back with
 | false=>
  simp only[Bool.not_false,if_true,Bool.false_eq_true,if_false];rw[Int.natCast_emod,Int.emod_sub_emod];have e:((n+p:Nat):Int)-(p:Int)=n:=aa;rw[e,Int.emod_eq_of_lt aa aa];simp
 | true=>
  simp only[Bool.not_true,if_true,Bool.false_eq_true,if_false];have h1:=Int.emod_nonneg ((n:Int)-p) (show(m:Int)≠0 by omega);have h2:((((((n:Int)-p)%m).toNat+p)%m:Nat):Int)=n:=by rw[Int.natCast_emod,Int.natCast_add,Int.toNat_of_nonneg h1,Int.emod_add_emod,Int.sub_add_cancel,Int.emod_eq_of_lt aa aa]
  omega
theorem Oc(back:Bool)(W P:Nat):uL (!back) (uL back W P) P=W:=by
 by_cases h:W/67108864=18∧W%4=1
 ·have hl:=l8 back (W/4%16777216) (P/4) 16777216 aa;have hb:=pw back (W/4%16777216) (P/4) 16777216 aa;have e:uL back W P=1207959552+4*tld back (W/4%16777216) (P/4) 16777216+1:=by unfold uL;rw[if_pos h]
  rw[e];generalize tld back (W/4%16777216) (P/4) 16777216=T at*;unfold uL;rw[if_pos aa,show(1207959552+4*T+1)/4%16777216=T by omega,hb];omega
 ·have e:uL back W P=W:=by unfold uL;rw[if_neg h]
  rw[e];unfold uL;rw[if_neg h]
theorem Od(back:Bool)(W P:Nat):uM (!back) (uM back W P) P=W:=by
 by_cases h:W/16777216=235
 ·have hl:=l8 back (W%16777216) (P/4+2) 16777216 aa;have hb:=pw back (W%16777216) (P/4+2) 16777216 aa;have e:uM back W P=3942645760+tld back (W%16777216) (P/4+2) 16777216:=by unfold uM;rw[if_pos h]
  rw[e];generalize tld back (W%16777216) (P/4+2) 16777216=T at*;unfold uM;rw[if_pos aa,show(3942645760+T)%16777216=T by omega,hb];omega
 ·have e:uM back W P=W:=by unfold uM;rw[if_neg h]
  rw[e];unfold uM;rw[if_neg h]
theorem Gr(back:Bool)(W P:Nat)(hW:W<4294967296):jl (!back) (jl back W P) P=W:=by
 by_cases h:W/4194304=256∨W/4194304=511
 ·have hl:=l8 back (W%8388608) (P/4) 8388608 aa;have hb:=pw back (W%8388608) (P/4) 8388608 aa;have e:jl back W P=1073741824+ze (tld back (W%8388608) (P/4) 8388608) 8388608 1073741824:=by unfold jl;rw[if_pos h]
  rw[e];generalize tld back (W%8388608) (P/4) 8388608=T at*;have hs:ze T 8388608 1073741824=if T≥4194304 then T+1065353216 else T:=by unfold ze;split<;>simp
  have h2:(1073741824+ze T 8388608 1073741824)/4194304=256∨(1073741824+ze T 8388608 1073741824)/4194304=511:=by rw[hs];split<;>omega
  have h3:(1073741824+ze T 8388608 1073741824)%8388608=T:=by rw[hs];split<;>omega
  unfold jl;rw[if_pos h2,h3,hb];unfold ze;split<;>omega
 ·have e:jl back W P=W:=by unfold jl;rw[if_neg h]
  rw[e];unfold jl;rw[if_neg h]
theorem JV(W U:Nat)(hU:U<2097152):fe W U/67108864≠37∧fe W U/2147483648=1∧fe W U/16777216%32=16∧bz (fe W U)=U∧fe W U%32=W%32:=by
 unfold fe bz;obtain⟨a,b,hb,rfl⟩: ∃a b,b<4∧U=4*a+b:=⟨U/4,U%4,aa,aa⟩
 have hr:W%32<32:=aa;have e1:(4*a+b)%4=b:=aa;have e2:(4*a+b)/4=a:=aa;rw[e1,e2];have ha:a<524288:=aa;generalize W%32=r at*;clear e1 e2 hU;have:b=0∨b=1∨b=2∨b=3:=aa;rcases this with rfl | rfl | rfl | rfl<;>refine⟨aa,aa,aa,aa,aa⟩
theorem JW(W:Nat)(h1:W/2147483648=1)(h2:W/16777216%32=16):fe W (bz W)=W:=by
 unfold fe bz;have e1:(W/32%524288*4+W/536870912%4)%4=W/536870912%4:=aa;have e2:(W/32%524288*4+W/536870912%4)/4=W/32%524288:=aa;rw[e1,e2];clear e1 e2;have e3:W/32/524288=W/16777216:=by rw[Nat.div_div_eq_div_mul]
 have e4:W/536870912=W/16777216/32:=by rw[Nat.div_div_eq_div_mul]
 have e5:W/2147483648=W/16777216/32/4:=by rw[Nat.div_div_eq_div_mul,Nat.div_div_eq_div_mul]
 rw[e5]at h1;rw[e4];generalize W/16777216=X at*;clear e4 e5;omega
theorem Gs(back:Bool)(W P:Nat):gC (!back) (gC back W P) P=W:=by
 by_cases h:W/67108864=37
 ·have hl:=l8 back (W%67108864) (P/4) 67108864 aa;have hb:=pw back (W%67108864) (P/4) 67108864 aa;have e:gC back W P=2483027968+tld back (W%67108864) (P/4) 67108864:=by unfold gC;rw[if_pos h]
  rw[e];generalize tld back (W%67108864) (P/4) 67108864=T at*;unfold gC;rw[if_pos aa,show(2483027968+T)%67108864=T by omega,hb];omega
 ·by_cases hc:(W/2147483648=1∧W/16777216%32=16)∧(bz W+131072)%2097152<262144;·have hN:bz W<2097152:=(by unfold bz;omega);have hl:=l8 back (bz W%262144) (P/4096) 262144 aa;have hb:=pw back (bz W%262144) (P/4096) 262144 aa;have e:gC back W P=fe W (ze (tld back (bz W%262144) (P/4096) 262144) 262144 2097152):=(by unfold gC;rw[if_neg h,if_pos hc]);rw[e];generalize tld back (bz W%262144) (P/4096) 262144=T at*;have js:ze T 262144 2097152%262144=T:=(by unfold ze;split<;>omega);have Dk:(ze T 262144 2097152+131072)%2097152<262144:=(by unfold ze;split<;>omega);have FO:=JU T 262144 2097152 hl aa;generalize ze T 262144 2097152=U at*;obtain⟨q1,q2,q3,q4,q5⟩:=JV W U FO;generalize fe W U=V at*;unfold gC;rw[q4,if_neg q1,if_pos ⟨⟨q2,q3⟩,Dk⟩,js,hb];have hsg:ze (bz W%262144) 262144 2097152=bz W:=(by have:=hc.2;unfold ze;split<;>omega);rw[hsg];have hw:=JW W hc.1.1 hc.1.2;unfold fe at hw ⊢;rw[q5];exact hw
  ·have e:gC back W P=W:=(by unfold gC;rw[if_neg h,if_neg hc]);rw[e];unfold gC;rw[if_neg h,if_neg hc]
def mI(id:Int):Bool:=id==7||id==10
def jD(id:Int)(back:Bool)(W P:Nat):Nat:=if id=5 then uL back W P else if id=7 then uM back W P else if id=9 then jl back W P else gC back W P
def JX(id:Int):Prop:=id=5∨id=7∨id=9∨id=10
theorem abD(back:Bool)(W P:Nat)(hW:W<4294967296):uL back W P<4294967296∧uM back W P<4294967296∧jl back W P<4294967296∧gC back W P<4294967296:=by
 have h1:=l8 back (W/4%16777216) (P/4) 16777216 aa;have h2:=l8 back (W%16777216) (P/4+2) 16777216 aa;have h3:=JU _ 8388608 1073741824 (l8 back (W%8388608) (P/4) 8388608 aa) aa;have h4:=l8 back (W%67108864) (P/4) 67108864 aa;have h5:=JU _ 262144 2097152 (l8 back (bz W%262144) (P/4096) 262144 aa) aa;refine⟨?_,?_,?_,?_⟩;·unfold uL;split<;>omega
 ·unfold uM;split<;>omega
 ·unfold jl;split<;>omega
 ·unfold gC fe;split;·omega
  ·split;·generalize ze (tld back (bz W%262144) (P/4096) 262144) 262144 2097152=U at*;have:U%4<4:=aa;omega
   ·omega
theorem Yk(id:Int)(back:Bool)(W P:Nat)(hW:W<4294967296):jD id back W P<4294967296:=by
 obtain⟨h1,h2,h3,h4⟩:=abD back W P hW;unfold jD;split;·exact h1
 ·split;·exact h2
  ·split;·exact h3
   ·exact h4
theorem Oe(id:Int)(back:Bool)(W P:Nat)(hW:W<4294967296):jD id (!back) (jD id back W P) P=W:=by
 unfold jD;split;·exact Oc back W P
 ·split;·exact Od back W P
  ·split;·exact Gr back W P hW
   ·exact Gs back W P
theorem enters{f:FuncId}{fn:Func}(hf:prog.funcs[f]? =some fn)(hn:fn.name≠ "runtime.NumGoroutine")(hb:fn.body.isNone=false)(args:Array Value)(w:World):(callFunc f args).run prog w= .ok (.enter f args) w:=by
 have yv: ¬fn.body=none:=by intro h;simp[h]at hb
 simp[callFunc,hf,hn,yv]
theorem Yl(args:Array Value)(w:World):(callFunc 220 args).run prog w= .ok (.enter 220 args) w:=enters func220 ak (by rfl) args w
theorem Ym(args:Array Value)(w:World):(callFunc 222 args).run prog w= .ok (.enter 222 args) w:=enters func222 ak (by rfl) args w
theorem Yn(args:Array Value)(w:World):(callFunc 223 args).run prog w= .ok (.enter 223 args) w:=enters func223 ak (by rfl) args w
theorem Yo(args:Array Value)(w:World):(callFunc 225 args).run prog w= .ok (.enter 225 args) w:=enters func225 ak (by rfl) args w
theorem Of(low:Bool)(cv cv':Nat→Nat→Nat)(h: ∀W P,W<4294967296→P<4294967296→cv W P=cv' W P)(start:Nat)(l:List UInt8)(k:Nat):pre low cv start l k=pre low cv' start l k:=by
 induction k with
 | zero=>rfl
 | succ k ih=>
  simp only[pre,ih];congr 1;unfold V6;split;·rw[h _ _ (word_lt _ _ _ _ _) aa]
  ·rfl
theorem lK(low:Bool)(cv cv':Nat→Nat→Nat)(h: ∀W P,W<4294967296→P<4294967296→cv W P=cv' W P)(start:Nat)(l:List UInt8):dO low cv start l=dO low cv' start l:=by unfold dO;rw[Of low cv cv' h]
theorem Gt(id:Int)(hid:JX id)(back:Bool)(start:Nat)(bQ:start<4294967296)(sI:start%4=0)(A:Option Addr)(l:List UInt8)(c:Nat)(w:World)(hB:Bytes w A l)(hm:l.length≤140737488355328):
  Calls prog 147 #[.int .i64 id,.int .u32 (start:Nat),.slice A l.length c,.func (.func (km back)) #[] #[]] w (kV w (dO (mI id) (jD id back) start l) 0):=by
 rcases hid with rfl | rfl | rfl | rfl
 ·rw[lK _ (jD 5 back) (ppc back) (fun W P h1 h2=>by simp[jD,abB back W P h1 h2])];refine tf 5 _ _ _ _ _ rfl S9 Yl (fun W P w h1 h2=>Yg back W P w h1 h2) (fun W P h=> ?_) start bQ sI A l c w hB hm;unfold ppc;split;·exact rJ _ _ _ _ aa aa h
  ·exact h
 ·rw[lK _ (jD 7 back) (arm back) (fun W P h1 h2=>by simp[jD,abC back W P h1 h2])];refine tf 7 _ _ _ _ _ rfl Ta Ym (fun W P w h1 h2=>Yh back W P w h1 h2) (fun W P h=> ?_) start bQ sI A l c w hB hm;unfold arm;split;·exact rJ _ _ _ _ aa aa h
  ·exact h
 ·rw[lK _ (jD 9 back) (zb back) (fun W P h1 h2=>by simp[jD,Ti back W P h1 h2])];refine tf 9 _ _ _ _ _ rfl Tb Yn (fun W P w h1 h2=>N8 back W P w h1 h2) (fun W P h=> ?_) start bQ sI A l c w hB hm;unfold zb;split;·exact rJ _ _ _ _ aa aa aa
  ·exact h
 ·rw[lK _ (jD 10 back) (zd back) (fun W P h1 h2=>by simp[jD,Tj back W P h1 h2])];refine tf 10 _ _ _ _ _ rfl L8 Yo (fun W P w h1 h2=>N9 back W P w h1 h2) (fun W P h=> ?_) start bQ sI A l c w hB hm;unfold zd;split;·exact rJ _ _ _ _ aa aa h
  ·unfold page;split;·exact rJ _ _ _ _ aa aa (rJ _ _ _ _ aa aa h)
   ·exact h
theorem rK(id:Int)(hid:JX id)(start:Nat)(bQ:start<4294967296)(sI:start%4=0)(A:Option Addr)(l:List UInt8)(c:Nat)(w:World)(hB:Bytes w A l)(hm:l.length≤140737488355328):
  Calls prog 101 #[.int .i64 id,.int .u32 (start:Nat),.slice A l.length c] w (kV w (dO (mI id) (jD id false) start l) 0):=by
 have HE:=ae (Gt id hid false start bQ sI A l c w hB hm);rw[uJ]at HE;clear sI;generalize dO (mI id) (jD id false) start l=X at*;go_enter func101,ntmps101;go_wp2_with fail;refine HE.out.mono ?_;rintro e w1 ⟨v,rfl,ho,hb⟩;go_wp2_with fail;go_ret2;exact⟨v,rfl,ho,hb⟩
theorem Eg(id:Int)(hid:JX id)(start:Nat)(bQ:start<4294967296)(sI:start%4=0)(A:Option Addr)(l:List UInt8)(c:Nat)(w:World)(hB:Bytes w A l)(hm:l.length≤140737488355328):
  Calls prog 219 #[.int .i64 id,.int .u32 (start:Nat),.slice A l.length c] w (kV w (dO (mI id) (jD id true) start l) 0):=by
 have HE:=ae (Gt id hid true start bQ sI A l c w hB hm);rw[mH]at HE;clear sI;generalize dO (mI id) (jD id true) start l=X at*;go_enter func219,ntmps219;go_wp2_with fail;refine HE.out.mono ?_;rintro e w1 ⟨v,rfl,ho,hb⟩;go_wp2_with fail;go_ret2;exact⟨v,rfl,ho,hb⟩
theorem abE(w:World)(a b c d:UInt8)(base:Nat)(hb:base≤w.heap.size):Own base (w.alloc (.cells #[.int .u8 (a.toNat:Nat),.int .u8 (b.toNat:Nat),.int .u8 (c.toNat:Nat),.int .u8 (d.toNat:Nat)] 5)) (.slice (some ⟨w.heap.size,0,none⟩) 4 4) [a,b,c,d]:=
 Own.lit w [a,b,c,d] hb ag
theorem zg(n:Nat):((UInt8.ofNat (n%256)).toNat:Nat)=n%256:=by have:n%256<256:=aa;simp[Nat.mod_eq_of_lt this]
def Eh(id:Int)(start:Nat):Bool:=(id==5||id==7||id==9||id==10)&&start%4==0
theorem Tk(id:Int)(start:Nat):Eh id start=true↔JX id∧start%4=0:=by unfold Eh JX;simp[or_assoc]
theorem Og(id:Int)(start:Nat)(w:World):Calls prog 119 #[.int .i64 id,.int .u32 (start:Nat)] w fun e w'=>e= .returned (.bool (Eh id start))∧w=w':=by
 have hs:((start:Int)%4==0)=(start%4==0):=by rw[Bool.eq_iff_iff];simp;omega
 have hm:Eh id start=((id==5||id==7||id==9||id==10)&&start%4==0):=rfl;generalize Eh id start=M at*;generalize(start%4==0)=T at*;by_cases h5:id=5;·subst h5;simp only[show((5:Int)==5)=true from rfl,Bool.true_or,Bool.true_and]at hm;subst hm;go_enter func119,ntmps119;go_wp2_with fail;go_ret;exact⟨rfl,rfl⟩
 ·have b5:(id==5)=false:=by simp[h5]
  by_cases h7:id=7;·subst h7;simp only[show((7:Int)==7)=true from rfl,Bool.or_true,Bool.true_or,Bool.true_and]at hm;subst hm;clear h5 b5;go_enter func119,ntmps119;go_wp2_with fail;go_ret;exact⟨rfl,rfl⟩
  ·have b7:(id==7)=false:=(by simp[h7]);by_cases h9:id=9;·subst h9;simp only[show((9:Int)==9)=true from rfl,Bool.or_true,Bool.true_or,Bool.true_and]at hm;subst hm;clear h5 b5 h7 b7;go_enter func119,ntmps119;go_wp2_with fail;go_ret;exact⟨rfl,rfl⟩
   ·have b9:(id==9)=false:=(by simp[h9]);rw[b5,b7,b9]at hm;simp only[Bool.false_or]at hm;by_cases Cw:id=10;·subst Cw;simp only[show((10:Int)==10)=true from rfl,Bool.true_and]at hm;subst hm;clear h5 b5 h7 b7 h9 b9;go_enter func119,ntmps119;go_wp2_with fail;go_ret;exact⟨rfl,rfl⟩
    ·have b10:(id==10)=false:=(by simp[Cw]);rw[b10]at hm;simp only[Bool.false_and]at hm;subst hm;clear h5 h7 h9 Cw;go_enter func119,ntmps119;go_wp2_with fail;go_ret;exact⟨rfl,rfl⟩

theorem px(x:UInt8):UInt8.ofNat x.toNat=x:=ag
theorem Ei(low:Bool)(a b c d:UInt8):bytesOf low (word low a b c d)=[a,b,c,d]:=by
 have h1:=a.toNat_lt;have h2:=b.toNat_lt;have h3:=c.toNat_lt;have h4:=d.toNat_lt;cases low with
 | true=>
  simp only[bytesOf,word,if_true]
  rw[show(a.toNat+b.toNat*256+c.toNat*65536+d.toNat*16777216)%256=a.toNat by omega,
   show(a.toNat+b.toNat*256+c.toNat*65536+d.toNat*16777216)/256%256=b.toNat by omega,
   show(a.toNat+b.toNat*256+c.toNat*65536+d.toNat*16777216)/65536%256=c.toNat by omega,
   show(a.toNat+b.toNat*256+c.toNat*65536+d.toNat*16777216)/16777216%256=d.toNat by omega,px,px,px,px]
 | false=>
  simp only[bytesOf,word,Bool.false_eq_true,if_false]
  rw[show(d.toNat+c.toNat*256+b.toNat*65536+a.toNat*16777216)%256=d.toNat by omega,
   show(d.toNat+c.toNat*256+b.toNat*65536+a.toNat*16777216)/256%256=c.toNat by omega,
   show(d.toNat+c.toNat*256+b.toNat*65536+a.toNat*16777216)/65536%256=b.toNat by omega,
   show(d.toNat+c.toNat*256+b.toNat*65536+a.toNat*16777216)/16777216%256=a.toNat by omega,px,px,px,px]
theorem ofNat_mod(n:Nat):(UInt8.ofNat (n%256)).toNat=n%256:=by have:n%256<256:=aa;simp[Nat.mod_eq_of_lt this]
theorem tg(low:Bool)(W:Nat)(h:W<4294967296): ∃a b c d,bytesOf low W=[a,b,c,d]∧word low a b c d=W:=by
 cases low with
 | true=>
  refine⟨_,_,_,_,rfl,?_⟩;simp only[word,if_true];rw[ofNat_mod W,ofNat_mod (W/256),ofNat_mod (W/65536),ofNat_mod (W/16777216)];omega
 | false=>
  refine⟨_,_,_,_,rfl,?_⟩;simp only[word,Bool.false_eq_true,if_false];rw[ofNat_mod W,ofNat_mod (W/256),ofNat_mod (W/65536),ofNat_mod (W/16777216)];omega
theorem pre_parts(low:Bool)(cv:Nat→Nat→Nat)(start:Nat)(l:List UInt8)(k n:Nat)(h:k<n): ∃t,pre low cv start l n=pre low cv start l k++V6 low cv start l k++t:=by
 induction n with
 | zero=>omega
 | succ n ih=>
  by_cases e:k=n;·subst e;exact⟨[],by simp[pre]⟩
  ·obtain⟨t,ht⟩:=ih aa;exact⟨t++V6 low cv start l n,by simp only[pre,ht,List.append_assoc]⟩
theorem nw(low:Bool)(cv:Nat→Nat→Nat)(start:Nat)(l:List UInt8):(dO low cv start l).length=l.length:=by unfold dO;rw[List.length_append,nu _ _ _ _ _ aa,List.length_drop];omega
theorem JY(low:Bool)(cv:Nat→Nat→Nat)(start:Nat)(l:List UInt8):(dO low cv start l).drop (4*(l.length/4))=l.drop (4*(l.length/4)):=by unfold dO;exact List.drop_left' (nu _ _ _ _ _ aa)
theorem Tl(low:Bool)(cv cv':Nat→Nat→Nat)(aH: ∀W P,W<4294967296→cv W P<4294967296)(hb: ∀W P,W<4294967296→cv' (cv W P) P=W)(start:Nat)(l:List UInt8)(k:Nat)(hk:4*k≤l.length):
  pre low cv' start (dO low cv start l) k=l.take (4*k):=by
 induction k with
 | zero=>simp[pre]
 | succ k ih=>
  have hx:=ih aa;obtain⟨a,b,c,d,t,e⟩:=uK l (4*k) aa;obtain⟨u,hu⟩:=pre_parts low cv start l k (l.length/4) aa;have hg:V6 low cv start l k=bytesOf low (cv (word low a b c d) ((start+4*k)%4294967296)):=by unfold V6;rw[e]
  obtain⟨a',b',c',d',h1,h2⟩:=tg low _ (aH (word low a b c d) ((start+4*k)%4294967296) (word_lt low a b c d));have hd:(dO low cv start l).drop (4*k)=a'::b'::c'::d'::(u++l.drop (4*(l.length/4))):=by unfold dO;rw[hu,hg,h1,List.append_assoc,List.append_assoc,List.drop_left' (nu _ _ _ _ _ aa)];rfl
  have gI:V6 low cv' start (dO low cv start l) k=[a,b,c,d]:=by unfold V6;rw[hd];simp only;rw[h2,hb _ _ (word_lt low a b c d),Ei]
  simp only[pre,hx,gI];rw[show 4*(k+1)=4*k+4 by omega,List.take_add,e];rfl
theorem JZ(low:Bool)(cv cv':Nat→Nat→Nat)(aH: ∀W P,W<4294967296→cv W P<4294967296)(hb: ∀W P,W<4294967296→cv' (cv W P) P=W)(start:Nat)(l:List UInt8):dO low cv' start (dO low cv start l)=l:=by have h:=Tl low cv cv' aH hb start l (l.length/4) aa;have ht:=JY low cv start l;have hl:=nw low cv start l;generalize dO low cv start l=X at*;unfold dO;rw[hl,h,ht,List.take_append_drop]
theorem Yp(id:Int)(back:Bool)(start:Nat)(l:List UInt8):dO (mI id) (jD id (!back)) start (dO (mI id) (jD id back) start l)=l:=
 JZ _ _ _ (fun W P h=>Yk id back W P h) (fun W P h=>Oe id back W P h) start l
end Go.Proofs.YtfcaoggfnkhfiaaGreatDoor
