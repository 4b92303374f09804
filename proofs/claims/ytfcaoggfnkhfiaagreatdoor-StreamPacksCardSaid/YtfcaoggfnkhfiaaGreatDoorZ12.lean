import Derived.Test.YtfcaoggfnkhfiaaGreatDoorZ01
import Derived.MapKept
import Derived.Deep.RegionHeld3
namespace Go.Proofs.YtfcaoggfnkhfiaaGreatDoor
set_option maxRecDepth 100000
set_option maxHeartbeats 8000000
open Go.RowKit Go.Proofs.Tryz
variable{l:An}{base:Nat}{A:As}{v:Value}{w w':Lo}
theorem aac(w:Lo)(r clock:Nat)(k:Int)(es:Array MapEntry)(v:Value)(hb:w.heap[r]? =some (.map es clock))(hf:Instr.findNow (.int .i64) (.int .i64 k) es.toList 0=some none):
  (Instr.mapUpdate 255 (.map (some r)) (.int .i64 k) v).run prog w= .ok () {w with heap:=w.heap.setIfInBounds r (.map (es.push {key:= .int .i64 k,val:=v,born:=clock}) (clock+1))}:=by
 have hc:(Instr.checkKey false 10000 3 (.int .i64 k)).run prog w= .ok () w:=MapKept.run_checkKey (k:= .int .i64 k) underlying3 (by simp[MapKept.IsKey]) false 9999;simp[Instr.mapUpdate,run_underlying underlying255,MapKept.run_getObj_map hb,hc,MapKept.run_findKey underlying3 hf,MapKept.run_setObj_map _ hb,Result.andThen]
def Cs:Array MapEntry:= #[⟨.int .i64 5,.func (.func 220) #[] #[],0⟩,⟨.int .i64 7,.func (.func 222) #[] #[],1⟩,⟨.int .i64 9,.func (.func 223) #[] #[],2⟩,⟨.int .i64 10,.func (.func 225) #[] #[],3⟩]
def J7(w:Lo)(e:Ending)(w':Lo):Prop:= ∃r,e= .returned (.map (some r))/\w'.heap[r]? =some (.map Cs 4)/\w.heap.size<=r/\Below w.heap.size w w'
theorem wn{W:Lo}{r c:Nat}{es:Array MapEntry}(k:Int)(v:Value)(hb:W.heap[r]? =some (.map es c))(hf:Instr.findNow (.int .i64) (.int .i64 k) es.toList 0=some none)(hB:Below w.heap.size w W)(hr:w.heap.size<=r):
  ∃W',(Instr.mapUpdate 255 (.map (some r)) (.int .i64 k) v).run prog W= .ok () W'/\W'.heap[r]? =some (.map (es.push {key:= .int .i64 k,val:=v,born:=c}) (c+1))/\Below w.heap.size w W':=by
 refine⟨_,aac W r c k es v hb hf,(MapKept.heap_set hb).1,?_⟩;exact⟨hB.os,hB.tape,hB.output,by simpa using hB.size,λi hi=>((MapKept.heap_set hb).2 i aa).trans (hB.block i hi)⟩
theorem yS(w:Lo):Calls prog 186 #[] w (J7 w):=by have Iz:=run_makeMap (P:=prog) 255 w;have b0:=(MapKept.heap_alloc w (.map #[] 0)).1;have B0:aq w (w.alloc (.map #[] 0)):=az;generalize w.alloc (.map #[] 0)=W0 at*;obtain⟨W1,i1,b1,B1⟩:=wn 5 (.func (.func 220) #[] #[]) b0 rfl B0 (aF _);obtain⟨W2,i2,b2,B2⟩:=wn 7 (.func (.func 222) #[] #[]) b1 rfl B1 (aF _);obtain⟨W3,i3,b3,B3⟩:=wn 9 (.func (.func 223) #[] #[]) b2 rfl B2 (aF _);obtain⟨W4,i4,b4,B4⟩:=wn 10 (.func (.func 225) #[] #[]) b3 rfl B3 (aF _);have fJ:=ae b4;clear b0 b1 b2 b3 b4;go_enter func186,ntmps186;go_wp2;go_ret;exact⟨w.heap.size,rfl,fJ.out,aF _,B4⟩
theorem J8(w:Lo)(r:Nat)(id:Int)(hb:w.heap[r]? =some (.map Cs 4))(a:Option (Nat×Value))(hf:Instr.findNow (.int .i64) (.int .i64 id) Cs.toList 0=some a)(z:Value)(hz:(zeroValue 253).run prog w= .ok z w):
  (Instr.lookup 255 (.map (some r)) (.int .i64 id) true).run prog w= .ok (.tuple #[(a.map (·.2)).getD z,.bool a.isSome]) w:=by
 have hc: ∀e,(Instr.checkKey e 10000 3 (.int .i64 id)).run prog w= .ok () w:=λe=>MapKept.run_checkKey (k:= .int .i64 id) underlying3 (by simp[MapKept.IsKey]) e 9999;cases a<;>simp[Instr.lookup,run_underlying underlying255,MapKept.run_getObj_map hb,hc,MapKept.run_findKey underlying3 hf,hz,Result.andThen]
theorem WP:Instr.findNow (.int .i64) (.int .i64 5) Cs.toList 0=some (some (0,.func (.func 220) #[] #[])):=rfl
theorem WQ:Instr.findNow (.int .i64) (.int .i64 7) Cs.toList 0=some (some (1,.func (.func 222) #[] #[])):=rfl
theorem WR:Instr.findNow (.int .i64) (.int .i64 9) Cs.toList 0=some (some (2,.func (.func 223) #[] #[])):=rfl
theorem PT:Instr.findNow (.int .i64) (.int .i64 10) Cs.toList 0=some (some (3,.func (.func 225) #[] #[])):=rfl
theorem RN(id:Int)(h5:id≠5)(h7:id≠7)(h9:id≠9)(zI:id≠10):Instr.findNow (.int .i64) (.int .i64 id) Cs.toList 0=some none:=by
 have e5:(id==5)=false:=by simp[h5]
 have e7:(id==7)=false:=by simp[h7]
 have e9:(id==9)=false:=by simp[h9]
 have e10:(id==10)=false:=by simp[zI]
 simp[Cs,Instr.findNow,Instr.sameNow,e5,e7,e9,e10]
theorem bv_and(a b:BitVec 32):bits .and .u32 (a.toNat:Int) (b.toNat:Int)=((a &&& b).toNat:Int):=by rw[u32_and_nat _ _ a.isLt b.isLt,BitVec.toNat_and]
theorem akD(a b:BitVec 32):bits .or .u32 (a.toNat:Int) (b.toNat:Int)=((a ||| b).toNat:Int):=by rw[u32_or_nat _ _ a.isLt b.isLt,BitVec.toNat_or]
theorem RO(a b:BitVec 32):bits .andNot .u32 (a.toNat:Int) (b.toNat:Int)=((a &&& ~~~b).toNat:Int):=by rw[u32_andNot_nat _ _ a.isLt b.isLt,BitVec.toNat_and,BitVec.toNat_not]
theorem xX(id:Int)(w:Lo):Calls prog 227 #[.int .i64 id] w λe w'=>e= .returned (.bool (id==7||id==10))/\w=w':=by
 by_cases h7:id=7;·subst h7;go_enter func227,ntmps227;go_wp2;go_ret;exact⟨rfl,rfl⟩
 ·have h7b:(id==7)=false:=by simp[h7]
  rw[h7b,Bool.false_or];clear h7;go_enter func227,ntmps227;go_wp2;go_ret;exact⟨rfl,rfl⟩
theorem GH(a b m:BitVec 32)(w:Lo):Calls prog 221 #[.int .u32 a.toNat,.int .u32 b.toNat,.int .u32 m.toNat] w λe w'=>e= .returned (.int .u32 ((a &&& ~~~m) ||| (b &&& m)).toNat)/\w=w':=by go_enter func221,ntmps221;go_wp2;go_ret;exact⟨aR (λn:Int=>Ending.returned (Value.int .u32 n)) (by rw[RO,bv_and,akD]),rfl⟩
theorem Ct(a b k:Nat)(ha:a<2^k):a ||| b*2^k=a+b*2^k:=by rw[Nat.or_comm,<-Nat.shiftLeft_eq,<-Nat.shiftLeft_add_eq_or_of_lt ha,Nat.add_comm]
theorem PU(a b c d:Nat)(ha:a<256)(hb:b<256)(hc:c<256)(hd:d<256):
  bits .or .u32 (bits .or .u32 (bits .or .u32 (IntKind.u32.wrap (a:Int)) (IntKind.u32.wrap (IntKind.u32.wrap (b:Int)*256))) (IntKind.u32.wrap (IntKind.u32.wrap (c:Int)*65536))) (IntKind.u32.wrap (IntKind.u32.wrap (d:Int)*16777216))=((a+b*256+c*65536+d*16777216:Nat):Int):=by
 have w0: ∀x:Nat,x<256->IntKind.u32.wrap (x:Int)=(x:Int):=λx hx=>kA;rw[w0 a ha,w0 b hb,w0 c hc,w0 d hd];have e1:IntKind.u32.wrap ((b:Int)*256)=((b*256:Nat):Int):=kA;have e2:IntKind.u32.wrap ((c:Int)*65536)=((c*65536:Nat):Int):=kA;have e3:IntKind.u32.wrap ((d:Int)*16777216)=((d*16777216:Nat):Int):=kA;have o1:a ||| b*256=a+b*256:=Ct a b 8 aa;have o2:(a+b*256) ||| c*65536=a+b*256+c*65536:=Ct _ c 16 aa;have o3:(a+b*256+c*65536) ||| d*16777216=a+b*256+c*65536+d*16777216:=Ct _ d 24 aa;rw[e1,e2,e3,u32_or_nat _ _ aa aa,o1,u32_or_nat _ _ aa aa,o2,u32_or_nat _ _ aa aa,o3]
def word(low:Bool)(x0 x1 x2 x3:UInt8):Nat:=if low then x0.toNat+x1.toNat*256+x2.toNat*65536+x3.toNat*16777216 else x3.toNat+x2.toNat*256+x1.toNat*65536+x0.toNat*16777216
theorem RP(id:Int)(b off c:Nat)(x0 x1 x2 x3:UInt8)(w:Lo)(h0:w.cell? ⟨b,off,none⟩=some (B8 x0))(h1:w.cell? ⟨b,off+1,none⟩=some (B8 x1))(h2:w.cell? ⟨b,off+2,none⟩=some (B8 x2))(h3:w.cell? ⟨b,off+3,none⟩=some (B8 x3)):
  Calls prog 188 #[.int .i64 id,.slice (some ⟨b,off,none⟩) 4 c] w λe w'=>e= .returned (.int .u32 (word (id==7||id==10) x0 x1 x2 x3:Nat))/\Below w.heap.size w w':=by
 have HL:=ae (xX id w);have k0:w.drew.cell? ⟨b,off,none⟩=some (B8 x0):=h0;have k1:w.drew.cell? ⟨b,off+1,none⟩=some (B8 x1):=h1;have k2:w.drew.cell? ⟨b,off+2,none⟩=some (B8 x2):=h2;have k3:w.drew.cell? ⟨b,off+3,none⟩=some (B8 x3):=h3;generalize(id==7||id==10)=lo at*;cases lo with
 | true=>
  have HW:=ae (PU _ _ _ _ x0.toNat_lt x1.toNat_lt x2.toNat_lt x3.toNat_lt);go_enter func188,ntmps188;go_wp2_with fail;refine HL.mono ?_;rintro e w' ⟨rfl,rfl⟩;go_wp2_with fail;refine wp_region_held_drew (S:=λw'=>w'.cell? ⟨b,off,none⟩=some (B8 x0)/\w'.cell? ⟨b,off+1,none⟩=some (B8 x1)/\w'.cell? ⟨b,off+2,none⟩=some (B8 x2)/\w'.cell? ⟨b,off+3,none⟩=some (B8 x3)) ak ⟨k0,k1,k2,k3⟩ (λhS=> ?_);refine ag 0 hS (h:=ag 1 hS (h:=bN 2 hS (h:=ag 3 hS (h:=ag 4 hS (h:=ag 5 hS (h:=bN 6 hS (h:=ag 7 hS (h:=ag 8 hS (h:=ag 9 hS (h:=ag 10 hS (h:=ag 11 hS (h:= ?_))))))))))));refine bN 12 hS (h:=ag 13 hS (h:=ag 14 hS (h:=ag 15 hS (h:=ag 16 hS (h:=ag 17 hS (h:=bN 18 hS (h:=ag 19 hS (h:=ag 20 hS (h:=ag 21 hS (h:=ag 22 hS (h:= ?_)))))))))));refine wpAnyH_done ak ?_ _;rw[HW.out];go_wp2;go_ret;exact⟨rfl,(aP _ _).drew⟩
 | false=>
  have HW:=ae (PU _ _ _ _ x3.toNat_lt x2.toNat_lt x1.toNat_lt x0.toNat_lt);go_enter func188,ntmps188;go_wp2_with fail;refine HL.mono ?_;rintro e w' ⟨rfl,rfl⟩;go_wp2_with fail;refine wp_region_held_drew (S:=λw'=>w'.cell? ⟨b,off,none⟩=some (B8 x0)/\w'.cell? ⟨b,off+1,none⟩=some (B8 x1)/\w'.cell? ⟨b,off+2,none⟩=some (B8 x2)/\w'.cell? ⟨b,off+3,none⟩=some (B8 x3)) ak ⟨k0,k1,k2,k3⟩ (λhS=> ?_);refine ag 0 hS (h:=ag 1 hS (h:=bN 2 hS (h:=ag 3 hS (h:=ag 4 hS (h:=ag 5 hS (h:=bN 6 hS (h:=ag 7 hS (h:=ag 8 hS (h:=ag 9 hS (h:=ag 10 hS (h:=ag 11 hS (h:= ?_))))))))))));refine bN 12 hS (h:=ag 13 hS (h:=ag 14 hS (h:=ag 15 hS (h:=ag 16 hS (h:=ag 17 hS (h:=bN 18 hS (h:=ag 19 hS (h:=ag 20 hS (h:=ag 21 hS (h:=ag 22 hS (h:= ?_)))))))))));refine wpAnyH_done ak ?_ _;rw[HW.out];go_wp2;go_ret;exact⟨rfl,(aP _ _).drew⟩
def WS(w:Lo)(b i:Nat)(y0 y1 y2 y3:Nat):World:=(((w.setCell ⟨b,i,none⟩ (.int .u8 y0)).setCell ⟨b,i+1,none⟩ (.int .u8 y1)).setCell ⟨b,i+2,none⟩ (.int .u8 y2)).setCell ⟨b,i+3,none⟩ (.int .u8 y3)
def acp(w:Lo)(b i:Nat)(y0 y1 y2 y3:Nat):World:=(((w.setCell ⟨b,i+3,none⟩ (.int .u8 y3)).setCell ⟨b,i+2,none⟩ (.int .u8 y2)).setCell ⟨b,i+1,none⟩ (.int .u8 y1)).setCell ⟨b,i,none⟩ (.int .u8 y0)
theorem aad(id:Int)(hid:(id==7||id==10)=true)(b i c W y0 y1 y2 y3:Nat)(x0 x1 x2 x3:Value)(w:Lo)(hW:W<4294967296)(e0:W%256=y0)(e1:W/256%256=y1)(e2:W/65536%256=y2)(e3:W/16777216%256=y3)
  (h0:w.cell? ⟨b,i,none⟩=some x0) (h1:w.cell? ⟨b,i+1,none⟩=some x1) (h2:w.cell? ⟨b,i+2,none⟩=some x2) (h3:w.cell? ⟨b,i+3,none⟩=some x3)
  (f0:w.frozen? ⟨b,i,none⟩=false) (f1:w.frozen? ⟨b,i+1,none⟩=false) (f2:w.frozen? ⟨b,i+2,none⟩=false) (f3:w.frozen? ⟨b,i+3,none⟩=false):
  Calls prog 187 #[.int .i64 id,.slice (some ⟨b,i,none⟩) 4 c,.int .u32 W] w λe w'=>e= .returned (.tuple #[])/\WS w b i y0 y1 y2 y3=w':=by
 have HL:=xX id w;rw[hid]at HL;have vk:=ae HL;have g0:(W:Int)%256=(y0:Int):=aa;have g1:(W:Int)/256%256=(y1:Int):=aa;have g2:(W:Int)/65536%256=(y2:Int):=aa;have g3:(W:Int)/16777216=(y3:Int):=aa;have g3':(W:Int)/16777216%256=(y3:Int):=aa;clear HL hid e0 e1 e2 e3;go_enter func187,ntmps187;go_wp2_with fail;refine vk.mono ?_;rintro e w' ⟨rfl,rfl⟩;go_wp2_with fail;refine bA (v:= .tuple #[]) (by simp[results,results187]) rfl ?_;exact⟨rfl,rfl⟩
theorem WT(id:Int)(hid:(id==7||id==10)=false)(b i c W y0 y1 y2 y3:Nat)(x0 x1 x2 x3:Value)(w:Lo)(hW:W<4294967296)(e0:W%256=y3)(e1:W/256%256=y2)(e2:W/65536%256=y1)(e3:W/16777216%256=y0)
  (h0:w.cell? ⟨b,i,none⟩=some x0) (h1:w.cell? ⟨b,i+1,none⟩=some x1) (h2:w.cell? ⟨b,i+2,none⟩=some x2) (h3:w.cell? ⟨b,i+3,none⟩=some x3)
  (f0:w.frozen? ⟨b,i,none⟩=false) (f1:w.frozen? ⟨b,i+1,none⟩=false) (f2:w.frozen? ⟨b,i+2,none⟩=false) (f3:w.frozen? ⟨b,i+3,none⟩=false):
  Calls prog 187 #[.int .i64 id,.slice (some ⟨b,i,none⟩) 4 c,.int .u32 W] w λe w'=>e= .returned (.tuple #[])/\acp w b i y0 y1 y2 y3=w':=by
 have HL:=xX id w;rw[hid]at HL;have vk:=ae HL;have g0:(W:Int)%256=(y3:Int):=aa;have g1:(W:Int)/256%256=(y2:Int):=aa;have g2:(W:Int)/65536%256=(y1:Int):=aa;have g3:(W:Int)/16777216=(y0:Int):=aa;have g3':(W:Int)/16777216%256=(y0:Int):=aa;clear HL hid e0 e1 e2 e3;go_enter func187,ntmps187;go_wp2_with fail;refine vk.mono ?_;rintro e w' ⟨rfl,rfl⟩;go_wp2_with fail;go_end0;exact⟨rfl,rfl⟩
def comb(back:Bool)(n p:Nat):Nat:=if back then(n+4294967296-p)%4294967296 else(n+p)%4294967296
def l5(back:Bool):Nat:=if back then 251 else 148
theorem Cu(n p:Nat)(w:Lo):Calls prog 148 #[.int .u32 (n:Nat),.int .u32 p] w λe w'=>e= .returned (.int .u32 (comb false n p:Nat))/\w=w':=by
 have hc:((comb false n p:Nat):Int)=((n:Int)+(p:Int))%4294967296:=by unfold comb;simp
 have HC:=ae hc;clear hc;go_enter func148,ntmps148;go_wp2;go_ret;exact⟨aR (λn:Int=>Ending.returned (Value.int .u32 n)) HC.symm,rfl⟩
theorem Nj(n p:Nat)(w:Lo)(hn:n<4294967296)(hp:p<4294967296):Calls prog 251 #[.int .u32 (n:Nat),.int .u32 p] w λe w'=>e= .returned (.int .u32 (comb true n p:Nat))/\w=w':=by
 have hc:((comb true n p:Nat):Int)=((n:Int)-(p:Int))%4294967296:=by unfold comb;simp;omega
 have HC:=ae hc;clear hc;go_enter func251,ntmps251;go_wp2;go_ret;exact⟨aR (λn:Int=>Ending.returned (Value.int .u32 n)) HC.symm,rfl⟩
theorem rJ(back:Bool)(n p:Nat)(w:Lo)(hn:n<4294967296)(hp:p<4294967296):Calls prog (l5 back) #[.int .u32 n,.int .u32 p] w λe w'=>e= .returned (.int .u32 (comb back n p:Nat))/\w=w':=by
 cases back;·exact Cu n p w
 ·exact Nj n p w hn hp
def ext(m x:Nat):Nat:=if x%m<m/2 then x%m else x%m+4294967296-m
theorem EP(x:Int):wrap32 x=(x+2147483648)%4294967296-2147483648:=by unfold wrap32;rfl
theorem RT(x:Nat)(w:Lo):Calls prog 224 #[.int .u32 x,.int .i64 23] w λe w'=>e= .returned (.int .u32 (ext 8388608 x:Nat))/\w=w':=by go_enter func224,ntmps224;go_wp2;go_ret;refine⟨aR (λn:Int=>Ending.returned (Value.int .u32 n)) ?_,rfl⟩;rw[EP];unfold ext;split<;>omega
theorem RU(x:Nat)(w:Lo):Calls prog 224 #[.int .u32 x,.int .i64 18] w λe w'=>e= .returned (.int .u32 (ext 262144 x:Nat))/\w=w':=by go_enter func224,ntmps224;go_wp2;go_ret;refine⟨aR (λn:Int=>Ending.returned (Value.int .u32 n)) ?_,rfl⟩;rw[EP];unfold ext;split<;>omega
def mix(lo hi a b:Nat):Nat:=a%2^lo+b/2^lo%2^(hi-lo)*2^lo+a/2^hi*2^hi
theorem aeM(lo hi a b:Nat)(h:lo<=hi):mix lo hi a b=(a%2^lo ||| b/2^lo%2^(hi-lo)*2^lo) ||| a/2^hi*2^hi:=by
 unfold mix;have h1:a%2^lo<2^lo:=Nat.mod_lt _ (Nat.two_pow_pos _);rw[Ct _ _ lo h1];have h2:b/2^lo%2^(hi-lo)<2^(hi-lo):=Nat.mod_lt _ (Nat.two_pow_pos _);have h3:a%2^lo+b/2^lo%2^(hi-lo)*2^lo<2^hi:=by have h4:(b/2^lo%2^(hi-lo)+1)*2^lo<=2^(hi-lo)*2^lo:=qF _ h2;rw[<-Nat.pow_add,show hi-lo+lo=hi from aa,Nat.add_mul]at h4;omega
 rw[Ct _ _ hi h3]
theorem aae(lo hi a b:Nat)(h:lo<=hi)(j:Nat):(mix lo hi a b).testBit j=if lo<=j/\j<hi then b.testBit j else a.testBit j:=by
 rw[aeM _ _ _ _ h,Nat.testBit_or,Nat.testBit_or,Nat.testBit_mod_two_pow,Nat.testBit_mul_two_pow,Nat.testBit_mul_two_pow,Nat.testBit_mod_two_pow,Nat.testBit_div_two_pow,Nat.testBit_div_two_pow];by_cases h1:lo<=j<;>by_cases h2:j<hi
 ·have e:j-lo+lo=j:=by omega
  have e2:j-lo<hi-lo:=aa;simp[h1,h2,e,e2,Nat.not_lt.mpr h1,Nat.not_le.mpr h2]
 ·have e:j-hi+hi=j:=by omega
  have e2: ¬(j-lo<hi-lo):=aa;simp[h1,h2,e,e2,Nat.not_lt.mpr h1,Nat.not_lt.mp h2]
 ·simp[h1,h2,Nat.not_le.mp h1,Nat.not_le.mpr h2]
 ·omega
theorem yT(lo hi a b:Nat)(h:lo<=hi)(L6:hi<=32)(ha:a<4294967296):((BitVec.ofNat 32 a &&& ~~~(BitVec.ofNat 32 ((2^(hi-lo)-1)*2^lo))) ||| (BitVec.ofNat 32 b &&& BitVec.ofNat 32 ((2^(hi-lo)-1)*2^lo))).toNat=mix lo hi a b:=by
 apply Nat.eq_of_testBit_eq;intro j;rw[aae lo hi a b h];rw[BitVec.testBit_toNat];by_cases hj:j<32
 ·simp only[BitVec.getLsbD_or,BitVec.getLsbD_and,BitVec.getLsbD_not,BitVec.getLsbD_ofNat,hj,decide_true,Bool.true_and,Nat.testBit_mul_two_pow,Nat.testBit_two_pow_sub_one];by_cases h1:lo<=j<;>by_cases h2:j<hi;·have e2:j-lo<hi-lo:=(by omega);simp[h1,h2,e2]
  ·have e2: ¬(j-lo<hi-lo):=(by omega);simp[h1,h2,e2]
  ·simp[h1]
  ·simp[h1]
 ·rw[au aa];rw[BitVec.getLsbD_of_ge _ _ aa];rw[Nat.testBit_lt_two_pow];exact db ha (by have:=fk (n:=2) aa (show 32<=j by omega);omega)
theorem kI(lo hi a b m:Nat)(w:Lo)(h:lo<=hi)(L6:hi<=32)(ha:a<4294967296)(hb:b<4294967296)(hm:(2^(hi-lo)-1)*2^lo=m)(fm:m<4294967296):
  Calls prog 221 #[.int .u32 a,.int .u32 b,.int .u32 m] w λe w'=>e= .returned (.int .u32 (mix lo hi a b:Nat))/\w=w':=by
 have:=GH (BitVec.ofNat 32 a) (BitVec.ofNat 32 b) (BitVec.ofNat 32 m) w;rw[<-hm]at this;rw[yT lo hi a b h L6 ha]at this;rw[hm]at this;simp only[lG]at this;rw[mY ha,mY hb,mY fm]at this;exact this
theorem GI(x k m:Nat)(hx:x<4294967296)(hm:2^k-1=m)(fm:m<4294967296):bits .and .u32 (x:Int) (m:Int)=((x%2^k:Nat):Int):=by rw[u32_and_nat _ _ hx fm,<-hm,Nat.and_two_pow_sub_one_eq_mod]
theorem aeN(x:Nat)(hx:x<4294967296):bits .and .u32 (x:Int) 2667577344=((x/2147483648*2147483648+x/16777216%32*16777216:Nat):Int):=by
 have:=u32_and_nat x 2667577344 hx aa;rw[show((2667577344:Nat):Int)=2667577344 from rfl]at this;rw[this];congr 1;have e:x/2147483648*2147483648+x/16777216%32*16777216=(x/16777216%2^5*2^24) ||| x/2^31*2^31:=by rw[Ct _ _ 31 aa];omega
 rw[e];apply Nat.eq_of_testBit_eq;intro j;have hb:(2667577344:Nat)=(2^5-1)*2^24 ||| 1*2^31:=ar;rw[hb,Nat.testBit_and,Nat.testBit_or,Nat.testBit_or,Nat.testBit_mul_two_pow,Nat.testBit_mul_two_pow,Nat.testBit_mul_two_pow,Nat.testBit_mul_two_pow,Nat.testBit_two_pow_sub_one,Nat.testBit_mod_two_pow,show(16777216:Nat)=2^24 from rfl,Nat.testBit_div_two_pow,Nat.testBit_div_two_pow];by_cases hj:j<32
 ·by_cases h1:24<=j
  ·have e:j-24+24=j:=(by omega);by_cases h2:31<=j;·have e2:j=31:=(by omega);subst e2;simp
   ·have e3:Nat.testBit 1 (j-31)=true:=(by rw[show j-31=0 from aa];rfl);simp[h1,h2,e];exact Bool.and_comm _ _
  ·have h2: ¬31<=j:=(by omega);simp[h1,h2]
 ·have hz:x.testBit j=false:=Nat.testBit_lt_two_pow (db hx (by have:=fk (n:=2) aa (show 32<=j by omega);omega));have e:j-24+24=j:=aa;have e2:j-31+31=j:=aa;rw[e,e2,hz];simp
theorem l6(back:Bool)(n p:Nat):comb back n p<4294967296:=by unfold comb;split<;>omega
theorem xY:l5 false=148:=rfl
theorem rK:l5 true=251:=rfl
def ppc(back:Bool)(W P:Nat):Nat:=if W/67108864=18/\W%4=1 then mix 2 26 W (comb back (W/4) (P/4)*4%4294967296)else W
theorem aaf(back:Bool)(W P:Nat)(w:Lo)(hW:W<4294967296)(hP:P<4294967296):
  Calls prog 220 #[.int .u32 W,.int .u32 P,.func (.func (l5 back)) #[] #[]] w λe w'=>e= .returned (.int .u32 (ppc back W P:Nat))/\w=w':=by
 have hand:bits .and .u32 (W:Int) 3=((W%4:Nat):Int):=GI W 2 3 hW rfl aa;have HC:=ae (rJ back (W/4) (P/4) w aa aa);have gZ:=l6 back (W/4) (P/4);have hp:ppc back W P=if W/67108864=18/\W%4=1 then mix 2 26 W (comb back (W/4) (P/4)*4%4294967296)else W:=rfl;generalize ppc back W P=R at*;generalize comb back (W/4) (P/4)=C at*;by_cases h1:W/67108864=18
 ·by_cases h2:W%4=1
  ·rw[ax ⟨h1,h2⟩]at hp;have HM:=ae (kI 2 26 W (C*4%4294967296) 67108860 w aa aa hW aa rfl aa);rw[<-hp]at HM;clear hp;cases back<;>simp only[xY,rK]at HC ⊢
   all_goals
    go_enter func220,ntmps220;go_wp2_with fail;refine HC.mono ?_;rintro e w' ⟨rfl,rfl⟩;go_wp2_with fail;refine HM.mono ?_;rintro e w' ⟨rfl,rfl⟩;go_wp2;go_ret;exact⟨rfl,rfl⟩
  ·rw[au (λh=>h2 h.2)]at hp;subst hp;go_enter func220,ntmps220;go_wp2;go_ret;exact⟨rfl,rfl⟩
 ·rw[au (λh=>h1 h.1)]at hp;subst hp;go_enter func220,ntmps220;go_wp2;go_ret;exact⟨rfl,rfl⟩
def arm(back:Bool)(W P:Nat):Nat:=if W/16777216=235 then mix 0 24 W (comb back W (P/4+2))else W
theorem aag(back:Bool)(W P:Nat)(w:Lo)(hW:W<4294967296)(hP:P<4294967296):
  Calls prog 222 #[.int .u32 W,.int .u32 P,.func (.func (l5 back)) #[] #[]] w λe w'=>e= .returned (.int .u32 (arm back W P:Nat))/\w=w':=by
 have HC:=ae (rJ back W (P/4+2) w aa aa);have gZ:=l6 back W (P/4+2);have hp:arm back W P=if W/16777216=235 then mix 0 24 W (comb back W (P/4+2))else W:=rfl;generalize arm back W P=R at*;generalize comb back W (P/4+2)=C at*;by_cases h1:W/16777216=235
 ·rw[ax h1]at hp;have HM:=ae (kI 0 24 W C 16777215 w aa aa hW aa rfl aa);rw[<-hp]at HM;clear hp;cases back<;>simp only[xY,rK]at HC ⊢
  all_goals
   go_enter func222,ntmps222;go_wp2_with fail;refine HC.mono ?_;rintro e w' ⟨rfl,rfl⟩;go_wp2_with fail;refine HM.mono ?_;rintro e w' ⟨rfl,rfl⟩;go_wp2;go_ret;exact⟨rfl,rfl⟩
 ·rw[au h1]at hp;subst hp;go_enter func222,ntmps222;go_wp2;go_ret;exact⟨rfl,rfl⟩
def Cv(back:Bool)(W P:Nat):Nat:=if W/4194304=256\/W/4194304=511 then mix 0 30 1073741824 (ext 8388608 (comb back W (P/4)))else W
theorem WU(m x:Nat)(h:0<m)(h2:m<=4294967296):ext m x<4294967296:=by unfold ext;have:=Nat.mod_lt x h;split<;>omega
theorem RV(back:Bool)(W P:Nat)(w:Lo)(hW:W<4294967296)(hP:P<4294967296):
  Calls prog 223 #[.int .u32 W,.int .u32 P,.func (.func (l5 back)) #[] #[]] w λe w'=>e= .returned (.int .u32 (Cv back W P:Nat))/\w=w':=by
 have HC:=ae (rJ back W (P/4) w aa aa);have gZ:=l6 back W (P/4);have hp:Cv back W P=if W/4194304=256\/W/4194304=511 then mix 0 30 1073741824 (ext 8388608 (comb back W (P/4)))else W:=rfl;generalize Cv back W P=R at*;generalize comb back W (P/4)=C at*;by_cases h1:W/4194304=256\/W/4194304=511
 ·rw[ax h1]at hp;have HE:=ae (RT C w);have hel:=WU 8388608 C aa aa;generalize ext 8388608 C=E at*;have HM:=ae (kI 0 30 1073741824 E 1073741823 w aa aa aa aa rfl aa);rw[<-hp]at HM;clear hp;have h2:((W:Int)/4194304 !=256)=false\/(((W:Int)/4194304 !=256)=true/\((W:Int)/4194304 !=511)=false):=by
   rcases h1 with h1|h1;·have:(W:Int)/4194304=256:=(by omega);simp[this]
   ·have:(W:Int)/4194304=511:=(by omega);simp[this]
  clear h1;rcases h2 with h2|⟨h2,h3⟩
  all_goals
   cases back<;>simp only[xY,rK]at HC ⊢
   all_goals
    go_enter func223,ntmps223;go_wp2_with fail;refine HC.mono ?_;rintro e w' ⟨rfl,rfl⟩;go_wp2_with fail;refine HE.mono ?_;rintro e w' ⟨rfl,rfl⟩;go_wp2_with fail;refine HM.mono ?_;rintro e w' ⟨rfl,rfl⟩;go_wp2;go_ret;exact⟨rfl,rfl⟩
 ·rw[au h1]at hp;have Bs:=hp.symm;subst Bs;have h2:((W:Int)/4194304 !=256)=true:=aH;have h3:((W:Int)/4194304 !=511)=true:=aH;clear h1;go_enter func223,ntmps223;go_wp2;go_ret;exact⟨rfl,rfl⟩
def cM(W:Nat):Nat:=W/32%524288*4+W/536870912%4
def Cw(W E:Nat):Nat:=mix 5 24 (mix 29 31 W (E*536870912%4294967296)) (E/4*32%4294967296)
def page(back:Bool)(W P:Nat):Nat:=if(W/2147483648=1/\W/16777216%32=16)/\(cM W+131072)%2097152<262144 then Cw W (ext 262144 (comb back (cM W) (P/4096)))else W
theorem uv(lo hi a b:Nat)(h:lo<=hi)(L6:hi<=32)(ha:a<4294967296):mix lo hi a b<4294967296:=by rw[<-yT lo hi a b h L6 ha];exact BitVec.isLt _
theorem WV(back:Bool)(W P:Nat)(w:Lo)(hW:W<4294967296)(hP:P<4294967296):
  Calls prog 226 #[.int .u32 W,.int .u32 P,.func (.func (l5 back)) #[] #[]] w λe w'=>e= .returned (.int .u32 (page back W P:Nat))/\w=w':=by
 have e1:bits .and .u32 ((W:Int)/32) 524287=((W/32%524288:Nat):Int):=GI (W/32) 19 524287 aa rfl aa;have e2:bits .and .u32 ((W:Int)/536870912) 3=((W/536870912%4:Nat):Int):=GI (W/536870912) 2 3 aa rfl aa;have e3:bits .or .u32 (((W/32%524288:Nat):Int)*4) ((W/536870912%4:Nat):Int)=((cM W:Nat):Int):=by have:=u32_or_nat (W/32%524288*4) (W/536870912%4) aa aa;rw[Nat.or_comm,Ct _ _ 2 aa]at this;rw[show(((W/32%524288:Nat):Int)*4)=((W/32%524288*4:Nat):Int)from rfl,this];unfold cM;omega
 have hN:cM W<2097152:=by unfold cM;omega
 have hA:W/32%524288<524288:=aa;have e4:=aeN W hW;have hG:W/2147483648*2147483648+W/16777216%32*16777216=2415919104↔(W/2147483648=1/\W/16777216%32=16):=aa;have hp:page back W P=if(W/2147483648=1/\W/16777216%32=16)/\(cM W+131072)%2097152<262144 then Cw W (ext 262144 (comb back (cM W) (P/4096)))else W:=rfl;simp only[<-hG]at hp;clear hG;generalize W/2147483648*2147483648+W/16777216%32*16777216=G at*;have HC:=ae (rJ back (cM W) (P/4096) w aa aa);have gZ:=l6 back (cM W) (P/4096);generalize page back W P=R at*;generalize comb back (cM W) (P/4096)=C at*;generalize cM W=N at*;generalize W/32%524288=A at*;generalize W/536870912%4=B at*;by_cases h1:G=2415919104
 ·by_cases h2:(N+131072)%2097152<262144
  ·rw[ax ⟨h1,h2⟩]at hp;have g1:((G:Int) !=2415919104)=false:=aH;have g2:decide (262144<=((N:Int)+131072)%2097152)=false:=aH;have HE:=ae (RU C w);have hel:=WU 262144 C aa aa;generalize ext 262144 C=E at*;unfold Cw at hp;have HM:=ae (kI 29 31 W (E*536870912%4294967296) 1610612736 w aa aa hW aa rfl aa);have vu:=uv 29 31 W (E*536870912%4294967296) aa aa hW;generalize mix 29 31 W (E*536870912%4294967296)=M at*;have HN:=ae (kI 5 24 M (E/4*32%4294967296) 16777184 w aa aa vu aa rfl aa);rw[<-hp]at HN;clear hp h1 h2;cases back<;>simp only[xY,rK]at HC ⊢
   all_goals
    go_enter func226,ntmps226;go_wp2_with fail;refine HC.mono ?_;rintro e w' ⟨rfl,rfl⟩;go_wp2_with fail;refine HE.mono ?_;rintro e w' ⟨rfl,rfl⟩;go_wp2_with fail;refine HM.mono ?_;rintro e w' ⟨rfl,rfl⟩;go_wp2_with fail;refine HN.mono ?_;rintro e w' ⟨rfl,rfl⟩;go_wp2;go_ret;exact⟨rfl,rfl⟩
  ·rw[au (λh=>h2 h.2)]at hp;have Bs:=hp.symm;subst Bs;have g1:((G:Int) !=2415919104)=false:=aH;have g2:decide (262144<=((N:Int)+131072)%2097152)=true:=aH;clear h1 h2;go_enter func226,ntmps226;go_wp2;go_ret;exact⟨rfl,rfl⟩
 ·rw[au (λh=>h1 h.1)]at hp;have Bs:=hp.symm;subst Bs;have g1:((G:Int) !=2415919104)=true:=aH;clear h1;go_enter func226,ntmps226;go_wp2;go_ret;exact⟨rfl,rfl⟩
def Cx(back:Bool)(W P:Nat):Nat:=if W/67108864=37 then mix 0 26 W (comb back W (P/4))else page back W P
theorem RW(back:Bool)(W P:Nat)(w:Lo)(hW:W<4294967296)(hP:P<4294967296):
  Calls prog 225 #[.int .u32 W,.int .u32 P,.func (.func (l5 back)) #[] #[]] w λe w'=>e= .returned (.int .u32 (Cx back W P:Nat))/\w=w':=by
 have HC:=ae (rJ back W (P/4) w aa aa);have gZ:=l6 back W (P/4);have hp:Cx back W P=if W/67108864=37 then mix 0 26 W (comb back W (P/4))else page back W P:=rfl;have HP:=ae (WV back W P w hW hP);generalize Cx back W P=R at*;generalize comb back W (P/4)=C at*;by_cases h1:W/67108864=37
 ·rw[ax h1]at hp;have HM:=ae (kI 0 26 W C 67108863 w aa aa hW aa rfl aa);rw[<-hp]at HM;clear hp;cases back<;>simp only[xY,rK]at HC ⊢
  all_goals
   go_enter func225,ntmps225;go_wp2_with fail;refine HC.mono ?_;rintro e w' ⟨rfl,rfl⟩;go_wp2_with fail;refine HM.mono ?_;rintro e w' ⟨rfl,rfl⟩;go_wp2;go_ret;exact⟨rfl,rfl⟩
 ·rw[au h1]at hp;rw[<-hp]at HP;clear hp;go_enter func225,ntmps225;go_wp2_with fail;refine HP.mono ?_;rintro e w' ⟨rfl,rfl⟩;go_wp2;go_ret;exact⟨rfl,rfl⟩
def bytesOf(low:Bool)(W:Nat):List UInt8:=if low then [UInt8.ofNat (W%256),UInt8.ofNat (W/256%256),UInt8.ofNat (W/65536%256),UInt8.ofNat (W/16777216%256)]else [UInt8.ofNat (W/16777216%256),UInt8.ofNat (W/65536%256),UInt8.ofNat (W/256%256),UInt8.ofNat (W%256)]
theorem bytesOf_length(low:Bool)(W:Nat):(bytesOf low W).length=4:=by unfold bytesOf;cases low<;>rfl
theorem lR(n:Nat):B8 (UInt8.ofNat (n%256))= .int .u8 ((n%256:Nat):Int):=by have:n%256<256:=aa;simp[B8,Nat.mod_eq_of_lt this]
theorem WW(R t:List Value)(a b c d x0 x1 x2 x3:Value)(i:Nat)(h:R.length=i):((((R++a::b::c::d::t).set i x0).set (i+1) x1).set (i+2) x2).set (i+3) x3=R++x0::x1::x2::x3::t:=by subst h;simp
theorem RX(R t:List Value)(a b c d x0 x1 x2 x3:Value)(i:Nat)(h:R.length=i):((((R++a::b::c::d::t).set (i+3) x3).set (i+2) x2).set (i+1) x1).set i x0=R++x0::x1::x2::x3::t:=by subst h;simp
def Put(base:Nat)(w:Lo)(v:Value)(l:An)(e:Ending)(w':Lo):Prop:=e= .returned (.tuple #[])/\Own base w' v l/\Below base w w'
theorem aah(id:Int)(low:Bool)(hid:(id==7||id==10)=low)(base g n cap c i W:Nat)(R t:An)(x0 x1 x2 x3:UInt8)(w:Lo)(hW:W<4294967296)(hi:R.length=i)(hg:base<=g)
  (hn:n=(R++x0::x1::x2::x3::t).length) (ho:w.ownsRow base 5 1 (.slice (some ⟨g,0,none⟩) n cap) n ((R++x0::x1::x2::x3::t).map B8)):
  Calls prog 187 #[.int .i64 id,.slice (some ⟨g,i,none⟩) 4 c,.int .u32 W] w (Put base w (.slice (some ⟨g,0,none⟩) n cap) (R++bytesOf low W++t)):=by
 have hlen:(R++x0::x1::x2::x3::t).length=R.length+(t.length+4):=ah;have hc: ∀j,j<4-> ∃x,w.cell? ⟨g,i+j,none⟩=some x:=by intro j hj;have h:=ho.cellAt (i+j) aa;rw[dS aH]at h;exact⟨_,h⟩
 have hf: ∀j,w.frozen? ⟨g,i+j,none⟩=false:=λj=>ho.frozenAt _;obtain⟨y0,h0⟩:=hc 0 aa;obtain⟨y1,h1⟩:=hc 1 aa;obtain⟨y2,h2⟩:=hc 2 aa;obtain⟨y3,h3⟩:=hc 3 aa;have f0:=hf 0;have f1:=hf 1;have f2:=hf 2;have f3:=hf 3;rw[Nat.add_zero]at h0 f0;have jC:n=(R++bytesOf low W++t).length:=by rw[hn,hlen];simp[bytesOf_length];omega
 cases low with
 | true=>
  refine(aad id hid g i c W _ _ _ _ y0 y1 y2 y3 w hW rfl rfl rfl rfl h0 h1 h2 h3 f0 f1 f2 f3).mono ?_;rintro e w' ⟨rfl,rfl⟩;refine⟨rfl,?_,?_⟩;·unfold Own;rw[<-jC];unfold WS;have s1:=(ho.stored i (B8 (UInt8.ofNat (W%256)))).1;have s2:=(s1.stored (i+1) (B8 (UInt8.ofNat (W/256%256)))).1;have s3:=(s2.stored (i+2) (B8 (UInt8.ofNat (W/65536%256)))).1;have s4:=(s3.stored (i+3) (B8 (UInt8.ofNat (W/16777216%256)))).1;rw[iI,gy,gy,gy,gy,WW _ _ _ _ _ _ _ _ _ _ _ jP]at s4;rw[lR W,lR (W/256),lR (W/65536),lR (W/16777216)]at s4;have e:(R++bytesOf true W++t).map B8=R.map B8++B8 (UInt8.ofNat (W%256))::B8 (UInt8.ofNat (W/256%256))::B8 (UInt8.ofNat (W/65536%256))::B8 (UInt8.ofNat (W/16777216%256))::t.map B8:=(by simp[bytesOf]);rw[e,lR W,lR (W/256),lR (W/65536),lR (W/16777216)];exact s4
  ·exact((((aP base w).setCell hg _).setCell hg _).setCell hg _).setCell hg _
 | false=>
  refine(WT id hid g i c W _ _ _ _ y0 y1 y2 y3 w hW rfl rfl rfl rfl h0 h1 h2 h3 f0 f1 f2 f3).mono ?_;rintro e w' ⟨rfl,rfl⟩;refine⟨rfl,?_,?_⟩;·unfold Own;rw[<-jC];unfold acp;have s1:=(ho.stored (i+3) (B8 (UInt8.ofNat (W%256)))).1;have s2:=(s1.stored (i+2) (B8 (UInt8.ofNat (W/256%256)))).1;have s3:=(s2.stored (i+1) (B8 (UInt8.ofNat (W/65536%256)))).1;have s4:=(s3.stored i (B8 (UInt8.ofNat (W/16777216%256)))).1;rw[iI,gy,gy,gy,gy,RX _ _ _ _ _ _ _ _ _ _ _ jP]at s4;rw[lR W,lR (W/256),lR (W/65536),lR (W/16777216)]at s4;have e:(R++bytesOf false W++t).map B8=R.map B8++B8 (UInt8.ofNat (W/16777216%256))::B8 (UInt8.ofNat (W/65536%256))::B8 (UInt8.ofNat (W/256%256))::B8 (UInt8.ofNat (W%256))::t.map B8:=(by simp[bytesOf]);rw[e,lR W,lR (W/256),lR (W/65536),lR (W/16777216)];exact s4
  ·exact((((aP base w).setCell hg _).setCell hg _).setCell hg _).setCell hg _
def grp(low:Bool)(cv:Nat->Nat->Nat)(start:Nat)(l:An)(k:Nat):List UInt8:=
 match l.drop (4*k)with
 | a::b::c::d::_=>bytesOf low (cv (word low a b c d) ((start+4*k)%4294967296))
 | _=>[]
def pre(low:Bool)(cv:Nat->Nat->Nat)(start:Nat)(l:An):Nat->List UInt8
 | 0=>[]
 | k+1=>pre low cv start l k++grp low cv start l k
def j6(low:Bool)(cv:Nat->Nat->Nat)(start:Nat)(l:An):List UInt8:=pre low cv start l (l.length/4)++l.drop (4*(l.length/4))
theorem xZ(l:An)(i:Nat)(h:i+4<=l.length): ∃a b c d t,l.drop i=a::b::c::d::t:=by
 have hl:(l.drop i).length=l.length-i:=fZ ..;match hd:l.drop i with
 | a::b::c::d::t=>exact⟨a,b,c,d,t,rfl⟩
 | []=>rw[hd]at hl;simp at hl;omega
 | [_]=>rw[hd]at hl;simp at hl;omega
 | [_,_]=>rw[hd]at hl;simp at hl;omega
 | [_,_,_]=>rw[hd]at hl;simp at hl;omega
theorem uw(low:Bool)(cv:Nat->Nat->Nat)(start:Nat)(l:An)(k:Nat)(h:4*k<=l.length):(pre low cv start l k).length=4*k:=by
 induction k with
 | zero=>rfl
 | succ k ih=>
  obtain⟨a,b,c,d,t,e⟩:=xZ l (4*k) aa;simp only[pre,grp,e,aG,bytesOf_length,ih aa];omega
def rL(w:Lo)(l:An)(err:Int)(e:Ending)(w':Lo):Prop:= ∃v,e= .returned (.tuple #[v,.int .i64 err])/\Own w.heap.size w' v l/\Below w.heap.size w w'
theorem acq:(prog.info? 253).map (λi=>(i.zero,i.size))=some (some .nilFunc,1):=ak
theorem ag4(id:Int)(start:Nat)(A:As)(n c:Nat)(f:Value)(w:Lo)(h:(id≠5/\id≠7/\id≠9/\id≠10)\/start%4≠0):
  Calls prog 147 #[.int .i64 id,.int .u32 start,.slice A n c,f] w λe w'=>e= .returned (.tuple #[.slice none 0 0,.int .i64 1])/\Below w.heap.size w w':=by
 have key: ∃a,Instr.findNow (.int .i64) (.int .i64 id) Cs.toList 0=some a/\(a=none\/start%4≠0):=by
  by_cases h5:id=5;·subst h5;exact⟨_,WP,.inr aa⟩
  by_cases h7:id=7;·subst h7;exact⟨_,WQ,.inr aa⟩
  by_cases h9:id=9;·subst h9;exact⟨_,WR,.inr aa⟩
  by_cases zI:id=10;·subst zI;exact⟨_,PT,.inr aa⟩
  exact⟨_,RN id h5 h7 h9 zI,.inl rfl⟩
 obtain⟨a,hf,ha⟩:=key;have HF:=ae hf;clear hf h;have hz:=(zero_of_info acq).1;have HFA:=ae (yS w);go_enter func147,ntmps147;go_wp2_with fail;refine HFA.mono ?_;rintro e w1 ⟨r,rfl,hr,F7,hb⟩;have hl:=J8 w1 r id hr a HF.out .nilFunc (hz w1);clear hz hr;cases a with
 | none=>
  simp only[Option.map_none,Option.getD_none,Option.isSome_none]at hl;go_wp2;go_ret2;exact⟨rfl,hb⟩
 | some q=>
  have hs:start%4≠0:=by simpa using ha
  have hs':((start:Int)%4 !=0)=true:=aH;simp only[Option.map_some,Option.getD_some,Option.isSome_some]at hl;clear ha hs;generalize q.2=qv at*;go_wp2;go_ret2;exact⟨rfl,hb⟩
theorem word_lt(low:Bool)(a b c d:UInt8):word low a b c d<4294967296:=by have h1:=a.toNat_lt;have h2:=b.toNat_lt;have h3:=c.toNat_lt;have h4:=d.toNat_lt;unfold word;split<;>omega
theorem J9{n:Nat}(h:Own base w v l)(hn:n=l.length):w.ownsRow base 5 1 v n (l.map B8):=by subst hn;exact h
theorem wq(id:Int)(low:Bool)(F L q:Nat)(cv:Nat->Nat->Nat)(hid:(id==7||id==10)=low)(Zn:Instr.findNow (.int .i64) (.int .i64 id) Cs.toList 0=some (some (q,.func (.func F) #[] #[])))
  (hF: ∀(args:Array Value) (w:Lo),(callFunc F args).run prog w= .ok (.enter F args) w)
  (Rx: ∀(W P:Nat) (w:Lo),W<4294967296->P<4294967296->Calls prog F #[.int .u32 (W:Nat),.int .u32 (P:Nat),.func (.func L) #[] #[]] w λe w'=>e= .returned (.int .u32 (cv W P:Nat))/\w=w')
  (aV: ∀W P,W<4294967296->cv W P<4294967296)
  (start:Nat) (da:start<4294967296) (tg:start%4=0) (A:As) (l:An) (c:Nat) (w:Lo) (hB:Bytes w A l) (hm:l.length<=140737488355328):
  Calls prog 147 #[.int .i64 id,.int .u32 start,.slice A l.length c,.func (.func L) #[] #[]] w (rL w (j6 low cv start l) 0):=by
 have HF:=ae Zn;have HFN:=ae hF;have HCV:=ae Rx;have zm:=ae aV;have HID:=ae hid;have hz:=(zero_of_info acq).1;have HFA:=ae (yS w);have hs':((start:Int)%4 !=0)=false:=aH;clear Zn hF Rx aV hid;go_enter func147,ntmps147;go_wp2_with fail;refine HFA.mono ?_;rintro e w1 ⟨r,rfl,hr,F7,hb⟩;have hl:=J8 w1 r id hr _ HF.out .nilFunc (hz w1);clear hz hr;simp only[Option.map_some,Option.getD_some,Option.isSome_some]at hl;have dm:Own w.heap.size w1 (.slice none 0 0) []:=Own.nil _ _;have bY:([]:An).length+l.length<=140737488355328:=by simpa using hm
 have RY:=hb.size;go_wp2_with (at_builtin;refine aj rfl (.const (.slice none 0 0)) (.tmp 28) rfl w.heap.size _ (.slice none 0 0) [] rfl dm A l c rfl (hB.below hb) bY RY ?_;intro v1 w2 kE lN)
 have aK:aq w w2:=am hb lN RY AW;rw[fL]at kE;obtain⟨A2,c2,rfl,lj,oT,_⟩:=kE.read;clear dm bY hl RY hb lN hs' F7;go_loopw [13] (λi wr=> ∃k:Nat,4*k<=l.length/\i= .int .i64 (4*k:Nat)/\Own w.heap.size wr (.slice A2 l.length c2) (pre low cv start l k++l.drop (4*k))/\aq w wr) (λi _=>l.length-(intOf i).toNat);·exact⟨0,aa,rfl,by simpa [pre]using kE,aK⟩
 ·
  clear kE aK;obtain⟨k,hk,rfl,aL,hb⟩:=hrel;by_cases aV:4*k+4<=l.length
  ·obtain⟨a,b,c,d,t,e⟩:=xZ l (4*k) aV;have xe:=uw low cv start l k hk;have aeP:Hid (pre low cv start l (k+1)++l.drop (4*(k+1))=pre low cv start l k++bytesOf low (cv (word low a b c d) ((start+4*k)%4294967296))++t):=(by apply ae;have h2:l.drop (4*(k+1))=t:=(by rw[show 4*(k+1)=4*k+4 by omega,<-AK,e];rfl);rw[h2];simp only[pre,grp,e]);rw[e]at aL;have xa:l.length=(pre low cv start l k++a::b::c::d::t).length:=(by have:=aR List.length e;simp at this;simp[xe];omega);generalize pre low cv start l k=R at*;have how:=J9 aL xa;obtain⟨g,cap,hgc,BJ,arw⟩:=World.ownsRow.form how aa;injection hgc with arx _ ary;subst arx;subst ary;have hc: ∀j (hj:j<4),wr.cell? ⟨g,4*k+j,none⟩=some (B8 ([a,b,c,d][j])):=by
    intro j hj;rw[how.cellAt (4*k+j) aa,List.getElem?_map,lH aa,xe];rw[show 4*k+j-4*k=j by omega];match j,hj with
    | 0,_=>rfl
    | 1,_=>rfl
    | 2,_=>rfl
    | 3,_=>rfl
   have h0:=hc 0 aa;have h1:=hc 1 aa;have h2:=hc 2 aa;have h3:=hc 3 aa;rw[Nat.add_zero]at h0;simp only[List.getElem_cons_zero,List.getElem_cons_succ]at h0 h1 h2 h3;have HG:=ae (RP id g (4*k) (c2-4*k) a b c d wr h0 h1 h2 h3);rw[HID.out]at HG;have TK:=word_lt low a b c d;have gZ:=zm.out (word low a b c d) ((start+4*k)%4294967296) TK;have HC:=ae (λw'=>HCV.out (word low a b c d) ((start+4*k)%4294967296) w' TK aa);generalize word low a b c d=W at*;generalize cv W ((start+4*k)%4294967296)=V at*;have hH:=HFN.out;have k0: ¬c2=4*k:=aa;clear hc h0 h1 h2 h3 e;have tx:=ae xe;have vk:=ae xa;clear xe xa;go_wp2_with fail
   ((with_reducible refine HG.out.mono ?_);rintro e w3 ⟨rfl,bm⟩)
   have akG:w3.ownsRow w.heap.size 5 1 (.slice (some ⟨g,0,none⟩) l.length c2) l.length ((R++a::b::c::d::t).map B8):=J9 (aL.below bm) vk.out;have xe:((start:Int)+4*(k:Int)%4294967296)%4294967296=(((start+4*k)%4294967296:Nat):Int):=aa;have HPU:=ae (aah id low HID.out w.heap.size g l.length c2 (c2-4*k) (4*k) V R t a b c d w3 gZ tx.out BJ vk.out akG);have ja:=aQ hb bm;generalize(start+4*k)%4294967296=PL at*;clear how akG bm aL hb;go_wp2_with fail;refine(HC w3).mono ?_;rintro e w' ⟨rfl,rfl⟩;go_wp2_with fail;refine HPU.mono ?_;rintro e w4 ⟨rfl,bM,bc⟩;go_wp2_with fail;go_roundw;case rel=>exact⟨k+1,aa,aA,by rw[aeP.out];exact bM,ja.trans bc⟩
   case measure=>simp[intOf];omega
  ·have Zv:l.length/4=k:=(by omega);have HCD:Hid (pre low cv start l k++l.drop (4*k)=j6 low cv start l):=(by apply Lib.hid;unfold j6;rw[Zv]);clear Zv;go_wp2;go_ret2;exact⟨_,rfl,by rw[<-HCD.out];exact aL,hb⟩
def tld(back:Bool)(n p m:Nat):Nat:=if back then(((n:Int)-(p:Int))%(m:Int)).toNat else(n+p)%m
theorem lA(back:Bool)(n p m:Nat)(hm:0<m):tld back n p m<m:=by
 unfold tld;split;·have:=Int.emod_lt_of_pos ((n:Int)-p) (show(0:Int)<m by omega);omega
 ·exact Nat.mod_lt _ hm
theorem aai(x m:Int)(hl: -m<x):(x+m).tmod m=x%m:=by rw[Int.tmod_eq_emod_of_nonneg aa,Int.add_emod_right]
theorem Nk(x m:Int)(hm:0<m):(x.tmod m+m).tmod m=x%m:=by
 have h1:=Int.lt_tmod_of_pos x hm;rw[aai _ m h1];rw[Int.mW x m]
 where
  Int.mW (x m:Int):x.tmod m%m=x%m:=by
   have h:=Int.tmod_add_mul_tdiv x m;conv=>rhs;rw[<-h]
   rw[Int.add_mul_emod_self_left]
theorem rM(back:Bool)(n p m:Nat)(w:Lo)(hn:n<4294967296)(hp:p<4294967296)(hm:0<m)(fm:m<4294967296):
  Calls prog 171 #[.int .i64 (n:Nat),.int .i64 p,.bool back,.int .i64 m] w λe w'=>e= .returned (.int .i64 (tld back n p m:Nat))/\w=w':=by
 cases back with
 | false=>
  have hc:((tld false n p m:Nat):Int)=((n:Int)+p)%m:=by unfold tld;simp
  have hl:=lA false n p m hm;have Iz:=Int.emod_lt_of_pos ((n:Int)+p) (show(0:Int)<m by omega);have hmn:=Int.emod_nonneg ((n:Int)+p) (show(m:Int)≠0 by omega);have HC:=ae hc;clear hc;have Gp:(m:Int)≠0:=aa;go_enter func171,ntmps171;go_wp2;go_ret;refine⟨aR (λn:Int=>Ending.returned (Value.int .i64 n)) ?_,rfl⟩;rw[HC.out,Int.add_emod_right,Int.emod_emod]
 | true=>
  have hc:((tld true n p m:Nat):Int)=((n:Int)-p)%m:=by have hmn:=Int.emod_nonneg ((n:Int)-p) (show(m:Int)≠0 by omega);unfold tld;simp;omega
  have hl:=lA true n p m hm;have h1:=Int.lt_tmod_of_pos ((n:Int)+ -(p:Int)) (show(0:Int)<m by omega);have h2:=Int.tmod_lt_of_pos ((n:Int)+ -(p:Int)) (show(0:Int)<m by omega);have HC:=ae hc;clear hc;have Gp:(m:Int)≠0:=aa;go_enter func171,ntmps171;go_wp2;go_ret;refine⟨aR (λn:Int=>Ending.returned (Value.int .i64 n)) ?_,rfl⟩;have key:=Nk ((n:Int)+ -(p:Int)) m aa;rw[Int.tmod_eq_emod_of_nonneg aa]at key;rw[HC.out,key,Int.sub_eq_add_neg]
def Ka(n m all:Nat):Nat:=if n>=m/2 then n+all-m else n
theorem Cy(n m all:Nat)(w:Lo)(hn:n<4294967296)(fm:m<=all)(ha:all<4294967296):
  Calls prog 172 #[.int .i64 (n:Nat),.int .i64 m,.int .i64 all] w λe w'=>e= .returned (.int .i64 (Ka n m all:Nat))/\w=w':=by
 by_cases h:n>=m/2
 ·have hs:((Ka n m all:Nat):Int)=(n:Int)+all-m:=by unfold Ka;rw[ax h];omega
  have HC:=ae hs;clear hs;go_enter func172,ntmps172;go_wp2;go_ret;exact⟨aR (λn:Int=>Ending.returned (Value.int .i64 n)) HC.symm,rfl⟩
 ·have hs:((Ka n m all:Nat):Int)=(n:Int):=by unfold Ka;rw[au h]
  have HC:=ae hs;clear hs;go_enter func172,ntmps172;go_wp2;go_ret;exact⟨aR (λn:Int=>Ending.returned (Value.int .i64 n)) HC.symm,rfl⟩
def Kb(back:Bool)(W P:Nat):Nat:=if W/67108864=18/\W%4=1 then 1207959552+4*tld back (W/4%16777216) (P/4) 16777216+1 else W
def Kd(back:Bool)(W P:Nat):Nat:=if W/16777216=235 then 3942645760+tld back (W%16777216) (P/4+2) 16777216 else W
def rN(back:Bool)(W P:Nat):Nat:=if W/4194304=256\/W/4194304=511 then 1073741824+Ka (tld back (W%8388608) (P/4) 8388608) 8388608 1073741824 else W
def sP(W m:Nat):Nat:=2147483648+m%4*536870912+268435456+m/4*32+W%32
def rO(back:Bool)(W P:Nat):Nat:=
 if W/67108864=37 then 2483027968+tld back (W%67108864) (P/4) 67108864
 else if(W/2147483648=1/\W/16777216%32=16)/\(cM W+131072)%2097152<262144 then sP W (Ka (tld back (cM W%262144) (P/4096) 262144) 262144 2097152)else W
theorem WX(back:Bool)(W P:Nat)(w:Lo)(hW:W<4294967296)(hP:P<4294967296):
  Calls prog 128 #[.int .i64 5,.int .i64 W,.int .i64 P,.bool back] w λe w'=>e= .returned (.int .i64 (Kb back W P:Nat))/\w=w':=by
 have hp:Kb back W P=if W/67108864=18/\W%4=1 then 1207959552+4*tld back (W/4%16777216) (P/4) 16777216+1 else W:=rfl;generalize Kb back W P=R at*;by_cases h1:W/67108864=18
 ·by_cases h2:W%4=1;·rw[ax ⟨h1,h2⟩]at hp;have HT:=ae (rM back (W/4%16777216) (P/4) 16777216 w aa aa aa aa);have hl:=lA back (W/4%16777216) (P/4) 16777216 aa;generalize tld back (W/4%16777216) (P/4) 16777216=T at*;have HP:=ae hp;clear hp;go_enter func128,ntmps128;go_wp2_with fail;refine HT.mono ?_;rintro e w' ⟨rfl,rfl⟩;go_wp2;go_ret;exact⟨aR (λn:Int=>Ending.returned (Value.int .i64 n)) vf,rfl⟩
  ·rw[au (λh=>h2 h.2)]at hp;have Bs:=hp.symm;subst Bs;go_enter func128,ntmps128;go_wp2;go_ret;exact⟨rfl,rfl⟩
 ·rw[au (λh=>h1 h.1)]at hp;have Bs:=hp.symm;subst Bs;go_enter func128,ntmps128;go_wp2;go_ret;exact⟨rfl,rfl⟩
theorem WY(back:Bool)(W P:Nat)(w:Lo)(hW:W<4294967296)(hP:P<4294967296):
  Calls prog 128 #[.int .i64 7,.int .i64 W,.int .i64 P,.bool back] w λe w'=>e= .returned (.int .i64 (Kd back W P:Nat))/\w=w':=by
 have hp:Kd back W P=if W/16777216=235 then 3942645760+tld back (W%16777216) (P/4+2) 16777216 else W:=rfl;generalize Kd back W P=R at*;by_cases h1:W/16777216=235;·rw[ax h1]at hp;have HT:=ae (rM back (W%16777216) (P/4+2) 16777216 w aa aa aa aa);have hl:=lA back (W%16777216) (P/4+2) 16777216 aa;generalize tld back (W%16777216) (P/4+2) 16777216=T at*;have HP:=ae hp;clear hp;go_enter func128,ntmps128;go_wp2_with fail;refine HT.mono ?_;rintro e w' ⟨rfl,rfl⟩;go_wp2;go_ret;exact⟨aR (λn:Int=>Ending.returned (Value.int .i64 n)) vf,rfl⟩
 ·rw[au h1]at hp;have Bs:=hp.symm;subst Bs;go_enter func128,ntmps128;go_wp2;go_ret;exact⟨rfl,rfl⟩
theorem EQ(N:Nat):(((N:Int)+131072)%2097152<262144)↔((N+131072)%2097152<262144):=aa
theorem GJ(n m all:Nat)(h:n<m)(h2:m<=all):Ka n m all<all:=by unfold Ka;split<;>omega
theorem WZ(back:Bool)(W P:Nat)(w:Lo)(hW:W<4294967296)(hP:P<4294967296):
  Calls prog 128 #[.int .i64 9,.int .i64 W,.int .i64 P,.bool back] w λe w'=>e= .returned (.int .i64 (rN back W P:Nat))/\w=w':=by
 have hp:rN back W P=if W/4194304=256\/W/4194304=511 then 1073741824+Ka (tld back (W%8388608) (P/4) 8388608) 8388608 1073741824 else W:=rfl;generalize rN back W P=R at*;by_cases h1:W/4194304=256\/W/4194304=511
 ·rw[ax h1]at hp;have HT:=ae (rM back (W%8388608) (P/4) 8388608 w aa aa aa aa);have hl:=lA back (W%8388608) (P/4) 8388608 aa;generalize tld back (W%8388608) (P/4) 8388608=T at*;have HS:=ae (Cy T 8388608 1073741824 w aa aa aa);have zu:=GJ T 8388608 1073741824 hl aa;generalize Ka T 8388608 1073741824=U at*;have HP:=ae hp;clear hp;have h2:((W:Int)/4194304==256)=true\/(((W:Int)/4194304==256)=false/\((W:Int)/4194304==511)=true):=by
   rcases h1 with h1|h1;·have:(W:Int)/4194304=256:=(by omega);simp[this]
   ·have:(W:Int)/4194304=511:=(by omega);simp[this]
  clear h1;rcases h2 with h2|⟨h2,h3⟩
  all_goals
   go_enter func128,ntmps128;go_wp2_with fail;refine HT.mono ?_;rintro e w' ⟨rfl,rfl⟩;go_wp2_with fail;refine HS.mono ?_;rintro e w' ⟨rfl,rfl⟩;go_wp2;go_ret;exact⟨aR (λn:Int=>Ending.returned (Value.int .i64 n)) vf,rfl⟩
 ·rw[au h1]at hp;have Bs:=hp.symm;subst Bs;have h2:((W:Int)/4194304==256)=false:=aH;have h3:((W:Int)/4194304==511)=false:=aH;clear h1;go_enter func128,ntmps128;go_wp2;go_ret;exact⟨rfl,rfl⟩
theorem RZ(back:Bool)(W P:Nat)(w:Lo)(hW:W<4294967296)(hP:P<4294967296):
  Calls prog 128 #[.int .i64 10,.int .i64 W,.int .i64 P,.bool back] w λe w'=>e= .returned (.int .i64 (rO back W P:Nat))/\w=w':=by
 have hp:rO back W P=if W/67108864=37 then 2483027968+tld back (W%67108864) (P/4) 67108864
  else if(W/2147483648=1/\W/16777216%32=16)/\(cM W+131072)%2097152<262144 then sP W (Ka (tld back (cM W%262144) (P/4096) 262144) 262144 2097152)else W:=rfl
 generalize rO back W P=R at*;by_cases h1:W/67108864=37;·rw[ax h1]at hp;have HT:=ae (rM back (W%67108864) (P/4) 67108864 w aa aa aa aa);have hl:=lA back (W%67108864) (P/4) 67108864 aa;generalize tld back (W%67108864) (P/4) 67108864=T at*;have HP:=ae hp;clear hp;go_enter func128,ntmps128;go_wp2_with fail;refine HT.mono ?_;rintro e w' ⟨rfl,rfl⟩;go_wp2;go_ret;exact⟨aR (λn:Int=>Ending.returned (Value.int .i64 n)) vf,rfl⟩
 ·rw[au h1]at hp;have hg:((W:Int)/67108864==37)=false:=aH;have hN:(W:Int)/32%524288*4+(W:Int)/536870912%4=((cM W:Nat):Int):=by unfold cM;omega
  have hNl:cM W<2097152:=by unfold cM;omega
  by_cases h2:W/2147483648=1/\W/16777216%32=16
  ·by_cases h3:(cM W+131072)%2097152<262144;·rw[ax ⟨h2,h3⟩]at hp;have HT:=ae (rM back (cM W%262144) (P/4096) 262144 w aa aa aa aa);have hl:=lA back (cM W%262144) (P/4096) 262144 aa;generalize tld back (cM W%262144) (P/4096) 262144=T at*;have HS:=ae (Cy T 262144 2097152 w aa aa aa);have zu:=GJ T 262144 2097152 hl aa;generalize Ka T 262144 2097152=U at*;unfold sP at hp;generalize cM W=N at*;have HP:=ae hp;have g1:((W:Int)/2147483648==1)=true:=aH;have g2:((W:Int)/16777216%32==16)=true:=aH;have g3:decide (((N:Int)+131072)%2097152<262144)=true:=(by rw[AJ];exact(EQ N).2 h3);clear hp h1 h2 h3;go_enter func128,ntmps128;go_wp2_with fail;refine HT.mono ?_;rintro e w' ⟨rfl,rfl⟩;go_wp2_with fail;refine HS.mono ?_;rintro e w' ⟨rfl,rfl⟩;go_wp2;go_ret;exact⟨aR (λn:Int=>Ending.returned (Value.int .i64 n)) vf,rfl⟩
   ·rw[au (λh=>h3 h.2)]at hp;have Bs:=hp.symm;subst Bs;generalize cM W=N at*;have g1:((W:Int)/2147483648==1)=true:=aH;have g2:((W:Int)/16777216%32==16)=true:=aH;have g3:decide (((N:Int)+131072)%2097152<262144)=false:=(by rw[decide_eq_false_iff_not];exact λh=>h3 ((EQ N).1 h));clear h1 h2 h3;go_enter func128,ntmps128;go_wp2;go_ret;exact⟨rfl,rfl⟩
  ·rw[au (λh=>h2 h.1)]at hp;have Bs:=hp.symm;subst Bs;generalize cM W=N at*;have g1:((W:Int)/2147483648==1)=false\/(((W:Int)/2147483648==1)=true/\((W:Int)/16777216%32==16)=false):=by
    by_cases h:W/2147483648=1;·right;simp;omega
    ·left;simp;omega
   clear h1 h2;rcases g1 with g1|⟨g1,g2⟩
   all_goals
    go_enter func128,ntmps128;go_wp2;go_ret;exact⟨rfl,rfl⟩
theorem rP(back:Bool)(n p k:Nat)(hn:n<4294967296)(hp:p<4294967296)(hk:k<=32):tld back (n%2^k) p (2^k)=comb back n p%2^k:=by
 have hd:(4294967296:Nat)=2^k*2^(32-k):=by rw[<-Nat.pow_add,show k+(32-k)=32 by omega]
 unfold tld comb;cases back with
 | false=>
  simp only[Bool.false_eq_true,if_false];rw[hd,Nat.mod_mul_right_mod,Nat.mod_add_mod]
 | true=>
  simp only[if_true];have e:(n+4294967296-p:Nat)%4294967296%2^k=(n+4294967296-p:Nat)%2^k:=by generalize n+4294967296-p=x;rw[hd,Nat.mod_mul_right_mod]
  rw[e];have h1:(((n+4294967296-p)%2^k:Nat):Int)=((n:Int)-p)%((2^k:Nat):Int):=by rw[Int.natCast_emod];have:((n+4294967296-p:Nat):Int)=((n:Int)-p)+((2^k:Nat):Int)*((2^(32-k):Nat):Int):=(by rw[<-Int.natCast_mul,<-hd];omega);rw[this,Int.add_mul_emod_self_left]
  have h2:(((n%2^k:Nat):Int)-p)%((2^k:Nat):Int)=((n:Int)-p)%((2^k:Nat):Int):=by rw[Int.natCast_emod,Int.emod_sub_emod]
  rw[h2,<-h1,Int.toNat_natCast]
theorem aeQ(back:Bool)(W P:Nat)(hW:W<4294967296)(hP:P<4294967296):ppc back W P=Kb back W P:=by
 unfold ppc Kb;split;·have h:=rP back (W/4) (P/4) 24 aa aa aa;have hl:=l6 back (W/4) (P/4);simp only[mix];generalize comb back (W/4) (P/4)=C at*;rw[show(16777216:Nat)=2^24 from rfl,h];simp only[Nat.reducePow,Nat.reduceSub];omega
 ·rfl
theorem aeR(back:Bool)(W P:Nat)(hW:W<4294967296)(hP:P<4294967296):arm back W P=Kd back W P:=by
 unfold arm Kd;split;·have h:=rP back W (P/4+2) 24 aa aa aa;have hl:=l6 back W (P/4+2);simp only[mix];generalize comb back W (P/4+2)=C at*;rw[show W%16777216=W%2^24 from rfl,show tld back (W%2^24) (P/4+2) 16777216=tld back (W%2^24) (P/4+2) (2^24)from rfl,h];simp only[Nat.reducePow,Nat.reduceSub];omega
 ·rfl
theorem W7(back:Bool)(W P:Nat)(hW:W<4294967296)(hP:P<4294967296):Cv back W P=rN back W P:=by
 unfold Cv rN;split;·have h:=rP back W (P/4) 23 aa aa aa;have hl:=l6 back W (P/4);simp only[mix];generalize comb back W (P/4)=C at*;rw[show W%8388608=W%2^23 from rfl,show tld back (W%2^23) (P/4) 8388608=tld back (W%2^23) (P/4) (2^23)from rfl,h];unfold ext Ka;simp only[Nat.reducePow,Nat.reduceSub,Nat.reduceDiv];split<;>split<;>omega
 ·rfl
theorem aaj(x:Nat):ext 262144 x%2097152=Ka (x%262144) 262144 2097152:=by unfold ext Ka;split<;>split<;>omega
theorem R0(W E:Nat)(h1:W/2147483648=1)(h2:W/16777216%32=16):Cw W E=sP W (E%2097152):=by unfold Cw sP;simp only[mix,Nat.reducePow,Nat.reduceSub];omega
theorem Xa(back:Bool)(W P:Nat)(hW:W<4294967296)(hP:P<4294967296):Cx back W P=rO back W P:=by
 unfold Cx rO page;split;·have h:=rP back W (P/4) 26 aa aa aa;have hl:=l6 back W (P/4);simp only[mix];generalize comb back W (P/4)=C at*;rw[show W%67108864=W%2^26 from rfl,show tld back (W%2^26) (P/4) 67108864=tld back (W%2^26) (P/4) (2^26)from rfl,h];simp only[Nat.reducePow,Nat.reduceSub];omega
 ·split;·rename_i h;have hN:cM W<2097152:=(by unfold cM;omega);have ht:=rP back (cM W) (P/4096) 18 aa aa aa;rw[R0 W _ h.1.1 h.1.2,aaj];rw[show cM W%262144=cM W%2^18 from rfl,show tld back (cM W%2^18) (P/4096) 262144=tld back (cM W%2^18) (P/4096) (2^18)from rfl,ht]
  ·rfl
def nB(id:Int):Bool:=id==7||id==10
def l7(id:Int)(back:Bool)(W P:Nat):Nat:=if id=5 then Kb back W P else if id=7 then Kd back W P else if id=9 then rN back W P else rO back W P
def Nl(id:Int):Prop:=id=5\/id=7\/id=9\/id=10
theorem aeS(back:Bool)(W P:Nat)(hW:W<4294967296):Kb back W P<4294967296/\Kd back W P<4294967296/\rN back W P<4294967296/\rO back W P<4294967296:=by
 have h1:=lA back (W/4%16777216) (P/4) 16777216 aa;have h2:=lA back (W%16777216) (P/4+2) 16777216 aa;have h3:=GJ _ 8388608 1073741824 (lA back (W%8388608) (P/4) 8388608 aa) aa;have h4:=lA back (W%67108864) (P/4) 67108864 aa;have h5:=GJ _ 262144 2097152 (lA back (cM W%262144) (P/4096) 262144 aa) aa;refine⟨?_,?_,?_,?_⟩;·unfold Kb;split<;>omega
 ·unfold Kd;split<;>omega
 ·unfold rN;split<;>omega
 ·unfold rO sP;split;·omega
  ·split;·generalize Ka (tld back (cM W%262144) (P/4096) 262144) 262144 2097152=U at*;have:U%4<4:=aa;omega
   ·omega
theorem aak(id:Int)(back:Bool)(W P:Nat)(hW:W<4294967296):l7 id back W P<4294967296:=by
 obtain⟨h1,h2,h3,h4⟩:=aeS back W P hW;unfold l7;split;·exact h1
 ·split;·exact h2
  ·split;·exact h3
   ·exact h4
theorem enters{f:FuncId}{fn:Func}(hf:prog.funcs[f]? =some fn)(hn:fn.name≠ "runtime.NumGoroutine")(hb:fn.body.isNone=false)(args:Array Value)(w:Lo):(callFunc f args).run prog w= .ok (.enter f args) w:=by
 have yE: ¬fn.body=none:=by intro h;simp[h]at hb
 simp[callFunc,hf,hn,yE]
theorem aal(args:Array Value)(w:Lo):(callFunc 220 args).run prog w= .ok (.enter 220 args) w:=enters func220 ar (by rfl) args w
theorem aam(args:Array Value)(w:Lo):(callFunc 222 args).run prog w= .ok (.enter 222 args) w:=enters func222 ar (by rfl) args w
theorem aan(args:Array Value)(w:Lo):(callFunc 223 args).run prog w= .ok (.enter 223 args) w:=enters func223 ar (by rfl) args w
theorem aao(args:Array Value)(w:Lo):(callFunc 225 args).run prog w= .ok (.enter 225 args) w:=enters func225 ar (by rfl) args w
theorem R1(low:Bool)(cv Zq:Nat->Nat->Nat)(h: ∀W P,W<4294967296->P<4294967296->cv W P=Zq W P)(start:Nat)(l:An)(k:Nat):pre low cv start l k=pre low Zq start l k:=by
 induction k with
 | zero=>rfl
 | succ k ih=>
  simp only[pre,ih];congr 1;unfold grp;split;·rw[h _ _ (word_lt _ _ _ _ _) aa]
  ·rfl
theorem nC(low:Bool)(cv Zq:Nat->Nat->Nat)(h: ∀W P,W<4294967296->P<4294967296->cv W P=Zq W P)(start:Nat)(l:An):j6 low cv start l=j6 low Zq start l:=by unfold j6;rw[R1 low cv Zq h]
theorem Xb(id:Int)(hid:Nl id)(back:Bool)(start:Nat)(da:start<4294967296)(tg:start%4=0)(A:As)(l:An)(c:Nat)(w:Lo)(hB:Bytes w A l)(hm:l.length<=140737488355328):
  Calls prog 147 #[.int .i64 id,.int .u32 start,.slice A l.length c,.func (.func (l5 back)) #[] #[]] w (rL w (j6 (nB id) (l7 id back) start l) 0):=by
 rcases hid with rfl|rfl|rfl|rfl
 ·rw[nC _ (l7 5 back) (ppc back) (λW P h1 h2=>by simp[l7,aeQ back W P h1 h2])];refine wq 5 _ _ _ _ _ rfl WP aal (λW P w h1 h2=>aaf back W P w h1 h2) (λW P h=> ?_) start da tg A l c w hB hm;unfold ppc;split;·exact uv _ _ _ _ aa aa h
  ·exact h
 ·rw[nC _ (l7 7 back) (arm back) (λW P h1 h2=>by simp[l7,aeR back W P h1 h2])];refine wq 7 _ _ _ _ _ rfl WQ aam (λW P w h1 h2=>aag back W P w h1 h2) (λW P h=> ?_) start da tg A l c w hB hm;unfold arm;split;·exact uv _ _ _ _ aa aa h
  ·exact h
 ·rw[nC _ (l7 9 back) (Cv back) (λW P h1 h2=>by simp[l7,W7 back W P h1 h2])];refine wq 9 _ _ _ _ _ rfl WR aan (λW P w h1 h2=>RV back W P w h1 h2) (λW P h=> ?_) start da tg A l c w hB hm;unfold Cv;split;·exact uv _ _ _ _ aa aa aa
  ·exact h
 ·rw[nC _ (l7 10 back) (Cx back) (λW P h1 h2=>by simp[l7,Xa back W P h1 h2])];refine wq 10 _ _ _ _ _ rfl PT aao (λW P w h1 h2=>RW back W P w h1 h2) (λW P h=> ?_) start da tg A l c w hB hm;unfold Cx;split;·exact uv _ _ _ _ aa aa h
  ·unfold page;split;·exact uv _ _ _ _ aa aa (uv _ _ _ _ aa aa h)
   ·exact h
theorem ux(id:Int)(hid:Nl id)(start:Nat)(da:start<4294967296)(tg:start%4=0)(A:As)(l:An)(c:Nat)(w:Lo)(hB:Bytes w A l)(hm:l.length<=140737488355328):
  Calls prog 101 #[.int .i64 id,.int .u32 start,.slice A l.length c] w (rL w (j6 (nB id) (l7 id false) start l) 0):=by
 have HE:=ae (Xb id hid false start da tg A l c w hB hm);rw[xY]at HE;clear tg;generalize j6 (nB id) (l7 id false) start l=X at*;go_enter func101,ntmps101;go_wp2_with fail;refine HE.mono ?_;rintro e w1 ⟨v,rfl,ho,hb⟩;go_wp2;go_ret2;exact⟨v,rfl,ho,hb⟩
def Ke(w:Lo)(l:An)(e:Ending)(w':Lo):Prop:= ∃v,e= .returned v/\Own w.heap.size w' v l/\Below w.heap.size w w'
theorem GK(w:Lo)(a b c d:UInt8)(base:Nat)(hb:base<=w.heap.size):Own base (w.alloc (.cells #[.int .u8 a.toNat,.int .u8 b.toNat,.int .u8 c.toNat,.int .u8 d.toNat] 5)) (.slice (some ⟨w.heap.size,0,none⟩) 4 4) [a,b,c,d]:=
 Own.lit w [a,b,c,d] hb ah
theorem li(n:Nat):((UInt8.ofNat (n%256)).toNat:Nat)=n%256:=by have:n%256<256:=aa;simp[Nat.mod_eq_of_lt this]
theorem R2(w W':Lo)(a b c d:Value)(h:Below (w.alloc (.cells #[a,b,c,d] 5)).heap.size (w.alloc (.cells #[a,b,c,d] 5)) W'):
  W'.cell? ⟨w.heap.size,0,none⟩=some a/\W'.cell? ⟨w.heap.size,1,none⟩=some b/\W'.cell? ⟨w.heap.size,2,none⟩=some c/\W'.cell? ⟨w.heap.size,3,none⟩=some d:=by
 have aV:w.heap.size<(w.alloc (.cells #[a,b,c,d] 5)).heap.size:=ah;refine⟨?_,?_,?_,?_⟩<;>(rw[h.cell (p:=⟨w.heap.size,_,none⟩) aV,aC _ _ _ _ _ _ (bz _ _)];rfl)
theorem Xc(W:Nat)(low:Bool)(w:Lo)(hW:W<4294967296):
  Calls prog 127 #[.int .i64 W,.bool (!low)] w (Ke w (bytesOf low W)):=by
 have e0:(W:Int)%256=((UInt8.ofNat (W%256)).toNat:Int):=by rw[li W];omega
 have e1:(W:Int)/256%256=((UInt8.ofNat (W/256%256)).toNat:Int):=by rw[li (W/256)];omega
 have e2:(W:Int)/65536%256=((UInt8.ofNat (W/65536%256)).toNat:Int):=by rw[li (W/65536)];omega
 have e3:(W:Int)/16777216%256=((UInt8.ofNat (W/16777216%256)).toNat:Int):=by rw[li (W/16777216)];omega
 have e3':(W:Int)/16777216=((UInt8.ofNat (W/16777216%256)).toNat:Int):=by rw[li (W/16777216)];omega
 have hb:bytesOf low W=if low then [UInt8.ofNat (W%256),UInt8.ofNat (W/256%256),UInt8.ofNat (W/65536%256),UInt8.ofNat (W/16777216%256)]else [UInt8.ofNat (W/16777216%256),UInt8.ofNat (W/65536%256),UInt8.ofNat (W/256%256),UInt8.ofNat (W%256)]:=rfl;generalize bytesOf low W=R at*;generalize UInt8.ofNat (W%256)=y0 at*;generalize UInt8.ofNat (W/256%256)=y1 at*;generalize UInt8.ofNat (W/65536%256)=y2 at*;generalize UInt8.ofNat (W/16777216%256)=y3 at*;cases low with
 | false=>
  simp only[Bool.false_eq_true,if_false]at hb;subst hb;have ho:=GK w y3 y2 y1 y0 w.heap.size (aF _);have fV:aq w (w.alloc (.cells #[.int .u8 y3.toNat,.int .u8 y2.toNat,.int .u8 y1.toNat,.int .u8 y0.toNat] 5)):=az;simp only[Bool.not_false];go_enter func127,ntmps127;go_wp2;go_ret;exact⟨_,rfl,ho,fV⟩
 | true=>
  simp only[if_true]at hb;subst hb;have hc:=R2 w;have fV:aq w (w.alloc (.cells #[.int .u8 y3.toNat,.int .u8 y2.toNat,.int .u8 y1.toNat,.int .u8 y0.toNat] 5)):=az;have hcs:=λW' h=>hc W' (.int .u8 y3.toNat) (.int .u8 y2.toNat) (.int .u8 y1.toNat) (.int .u8 y0.toNat) h;clear hc;simp only[Bool.not_true];go_enter func127,ntmps127;go_wp2_with fail;clear e0 e1 e2 e3 e3';generalize w.alloc (.cells #[.int .u8 y3.toNat,.int .u8 y2.toNat,.int .u8 y1.toNat,.int .u8 y0.toNat] 5)=W1 at*;have xz: ∀w',aq W1 w'->w'.cell? ⟨w.heap.size,0,none⟩=some (.int .u8 y3.toNat):=λw' h=>(hcs w' h).1;have dE: ∀w',aq W1 w'->w'.cell? ⟨w.heap.size,1,none⟩=some (.int .u8 y2.toNat):=λw' h=>(hcs w' h).2.1;have ei: ∀w',aq W1 w'->w'.cell? ⟨w.heap.size,2,none⟩=some (.int .u8 y1.toNat):=λw' h=>(hcs w' h).2.2.1;have ju: ∀w',aq W1 w'->w'.cell? ⟨w.heap.size,3,none⟩=some (.int .u8 y0.toNat):=λw' h=>(hcs w' h).2.2.2;have V':aq W1 W1.drew:=(aP _ _).drew;have R7:=V'.alloc (aF _) (.cells #[.int .u8 y0.toNat,.int .u8 y1.toNat,.int .u8 y2.toNat,.int .u8 y3.toNat] 5);have ho:=GK W1.drew y0 y1 y2 y3 w.heap.size fV.size;clear hcs;refine wp_region_held_drew (S:=λw'=>aq W1 w') ak V' (λhS=> ?_);refine ag 0 hS (h:=ag 1 hS (h:=bx 2 rfl (λw hSw=>zO) hS (h:=ag 3 hS (h:=ag 4 hS (h:=bx 5 rfl (λw hSw=>zO) hS (h:=ag 6 hS (h:=ag 7 hS (h:=bx 8 rfl (λw hSw=>zO) hS (h:=ag 9 hS (h:=ag 10 hS (h:=bx 11 rfl (λw hSw=>zO) hS (h:= ?_))))))))))));refine aO 12 (λK hK=> ?_);go_simp;refine hK _ _ R7 (λ_=> ?_);clear hK K;refine ag 13 R7 (h:= ?_);refine wpAnyH_done ak ?_ _;go_wp2;go_ret;exact⟨_,rfl,ho,aQ fV R7⟩
def dw(y0 y1 y2 y3:Nat):Nat->Nat
 | 0=>0
 | 1=>y0
 | 2=>256*y0+y1
 | 3=>256*(256*y0+y1)+y2
 | _=>256*(256*(256*y0+y1)+y2)+y3
theorem aap(y0 y1 y2 y3:Nat):dw y0 y1 y2 y3 0=0:=rfl
theorem R9(y0 y1 y2 y3:Nat):dw y0 y1 y2 y3 1=y0:=rfl
theorem Sa(y0 y1 y2 y3:Nat):dw y0 y1 y2 y3 2=256*y0+y1:=rfl
theorem Sb(y0 y1 y2 y3:Nat):dw y0 y1 y2 y3 3=256*(256*y0+y1)+y2:=rfl
theorem aaq(y0 y1 y2 y3:Nat):dw y0 y1 y2 y3 4=256*(256*(256*y0+y1)+y2)+y3:=rfl
theorem Kf(b off c:Nat)(x0 x1 x2 x3:UInt8)(w:Lo)(h0:w.cell? ⟨b,off,none⟩=some (B8 x0))(h1:w.cell? ⟨b,off+1,none⟩=some (B8 x1))(h2:w.cell? ⟨b,off+2,none⟩=some (B8 x2))(h3:w.cell? ⟨b,off+3,none⟩=some (B8 x3)):
  Calls prog 129 #[.slice (some ⟨b,off,none⟩) 4 c,.bool true] w λe w'=>e= .returned (.int .i64 (word false x0 x1 x2 x3:Nat))/\w=w':=by
 have p0:=x0.toNat_lt;have p1:=x1.toNat_lt;have p2:=x2.toNat_lt;have p3:=x3.toNat_lt;have hwd:word false x0 x1 x2 x3=dw x0.toNat x1.toNat x2.toNat x3.toNat 4:=by rw[aaq];simp only[word,Bool.false_eq_true,if_false];omega
 have HW:=ae hwd;clear hwd;generalize word false x0 x1 x2 x3=R at*;go_enter func129,ntmps129;go_wp2_with fail;go_loop [5,6] (λn i=> ∃k:Nat,k<=4/\i= .int .i64 k/\n= .int .i64 (dw x0.toNat x1.toNat x2.toNat x3.toNat k:Nat)) (λ_ i=>4-(intOf i).toNat);·exact⟨0,aa,rfl,rfl⟩
 ·
  obtain⟨k,hk,rfl,rfl⟩:=hrel;have oo:k=0\/k=1\/k=2\/k=3\/k=4:=aa;rcases oo with rfl|rfl|rfl|rfl|rfl
  ·have PE:dw x0.toNat x1.toNat x2.toNat x3.toNat 0<16777216:=(by rw[aap];omega);have iU:((dw x0.toNat x1.toNat x2.toNat x3.toNat 1:Nat):Int)=256*((dw x0.toNat x1.toNat x2.toNat x3.toNat 0:Nat):Int)+(x0.toNat:Int):=(by rw[aap,R9];omega);have HX:=ae iU;clear iU;generalize dw x0.toNat x1.toNat x2.toNat x3.toNat 0=N at*;go_wp2_with fail;go_round;case rel=>exact⟨1,aa,rfl,kN⟩
   case measure=>simp[intOf]
  ·have PE:dw x0.toNat x1.toNat x2.toNat x3.toNat 1<16777216:=(by rw[R9];omega);have iU:((dw x0.toNat x1.toNat x2.toNat x3.toNat 2:Nat):Int)=256*((dw x0.toNat x1.toNat x2.toNat x3.toNat 1:Nat):Int)+(x1.toNat:Int):=(by rw[R9,Sa];omega);have HX:=ae iU;clear iU;generalize dw x0.toNat x1.toNat x2.toNat x3.toNat 1=N at*;go_wp2_with fail;go_round;case rel=>exact⟨2,aa,rfl,kN⟩
   case measure=>simp[intOf]
  ·have PE:dw x0.toNat x1.toNat x2.toNat x3.toNat 2<16777216:=(by rw[Sa];omega);have iU:((dw x0.toNat x1.toNat x2.toNat x3.toNat 3:Nat):Int)=256*((dw x0.toNat x1.toNat x2.toNat x3.toNat 2:Nat):Int)+(x2.toNat:Int):=(by rw[Sa,Sb];omega);have HX:=ae iU;clear iU;generalize dw x0.toNat x1.toNat x2.toNat x3.toNat 2=N at*;go_wp2_with fail;go_round;case rel=>exact⟨3,aa,rfl,kN⟩
   case measure=>simp[intOf]
  ·have PE:dw x0.toNat x1.toNat x2.toNat x3.toNat 3<16777216:=(by rw[Sb];omega);have iU:((dw x0.toNat x1.toNat x2.toNat x3.toNat 4:Nat):Int)=256*((dw x0.toNat x1.toNat x2.toNat x3.toNat 3:Nat):Int)+(x3.toNat:Int):=(by rw[Sb,aaq];omega);have HX:=ae iU;clear iU;generalize dw x0.toNat x1.toNat x2.toNat x3.toNat 3=N at*;go_wp2_with fail;go_round;case rel=>exact⟨4,aa,rfl,kN⟩
   case measure=>simp[intOf]
  ·have e4:((4:Nat):Int)=4:=rfl;rw[e4];rw[<-HW.out];go_wp2;go_ret;exact⟨rfl,rfl⟩
theorem Nm(b off c:Nat)(x0 x1 x2 x3:UInt8)(w:Lo)(h0:w.cell? ⟨b,off,none⟩=some (B8 x0))(h1:w.cell? ⟨b,off+1,none⟩=some (B8 x1))(h2:w.cell? ⟨b,off+2,none⟩=some (B8 x2))(h3:w.cell? ⟨b,off+3,none⟩=some (B8 x3)):
  Calls prog 129 #[.slice (some ⟨b,off,none⟩) 4 c,.bool false] w λe w'=>e= .returned (.int .i64 (word true x0 x1 x2 x3:Nat))/\w=w':=by
 have p0:=x0.toNat_lt;have p1:=x1.toNat_lt;have p2:=x2.toNat_lt;have p3:=x3.toNat_lt;have hwd:word true x0 x1 x2 x3=dw x3.toNat x2.toNat x1.toNat x0.toNat 4:=by rw[aaq];simp only[word,if_true];omega
 have HW:=ae hwd;clear hwd;generalize word true x0 x1 x2 x3=R at*;go_enter func129,ntmps129;go_wp2_with fail;go_loop [5,6] (λn i=> ∃k:Nat,k<=4/\i= .int .i64 k/\n= .int .i64 (dw x3.toNat x2.toNat x1.toNat x0.toNat k:Nat)) (λ_ i=>4-(intOf i).toNat);·exact⟨0,aa,rfl,rfl⟩
 ·
  obtain⟨k,hk,rfl,rfl⟩:=hrel;have oo:k=0\/k=1\/k=2\/k=3\/k=4:=aa;rcases oo with rfl|rfl|rfl|rfl|rfl
  ·have PE:dw x3.toNat x2.toNat x1.toNat x0.toNat 0<16777216:=(by rw[aap];omega);have iU:((dw x3.toNat x2.toNat x1.toNat x0.toNat 1:Nat):Int)=256*((dw x3.toNat x2.toNat x1.toNat x0.toNat 0:Nat):Int)+(x3.toNat:Int):=(by rw[aap,R9];omega);have HX:=ae iU;clear iU;generalize dw x3.toNat x2.toNat x1.toNat x0.toNat 0=N at*;go_wp2_with fail;go_round;case rel=>exact⟨1,aa,rfl,kN⟩
   case measure=>simp[intOf]
  ·have PE:dw x3.toNat x2.toNat x1.toNat x0.toNat 1<16777216:=(by rw[R9];omega);have iU:((dw x3.toNat x2.toNat x1.toNat x0.toNat 2:Nat):Int)=256*((dw x3.toNat x2.toNat x1.toNat x0.toNat 1:Nat):Int)+(x2.toNat:Int):=(by rw[R9,Sa];omega);have HX:=ae iU;clear iU;generalize dw x3.toNat x2.toNat x1.toNat x0.toNat 1=N at*;go_wp2_with fail;go_round;case rel=>exact⟨2,aa,rfl,kN⟩
   case measure=>simp[intOf]
  ·have PE:dw x3.toNat x2.toNat x1.toNat x0.toNat 2<16777216:=(by rw[Sa];omega);have iU:((dw x3.toNat x2.toNat x1.toNat x0.toNat 3:Nat):Int)=256*((dw x3.toNat x2.toNat x1.toNat x0.toNat 2:Nat):Int)+(x1.toNat:Int):=(by rw[Sa,Sb];omega);have HX:=ae iU;clear iU;generalize dw x3.toNat x2.toNat x1.toNat x0.toNat 2=N at*;go_wp2_with fail;go_round;case rel=>exact⟨3,aa,rfl,kN⟩
   case measure=>simp[intOf]
  ·have PE:dw x3.toNat x2.toNat x1.toNat x0.toNat 3<16777216:=(by rw[Sb];omega);have iU:((dw x3.toNat x2.toNat x1.toNat x0.toNat 4:Nat):Int)=256*((dw x3.toNat x2.toNat x1.toNat x0.toNat 3:Nat):Int)+(x0.toNat:Int):=(by rw[Sb,aaq];omega);have HX:=ae iU;clear iU;generalize dw x3.toNat x2.toNat x1.toNat x0.toNat 3=N at*;go_wp2_with fail;go_round;case rel=>exact⟨4,aa,rfl,kN⟩
   case measure=>simp[intOf]
  ·have e4:((4:Nat):Int)=4:=rfl;rw[e4];rw[<-HW.out];go_wp2;go_ret;exact⟨rfl,rfl⟩
theorem Nn(low:Bool)(b off c:Nat)(x0 x1 x2 x3:UInt8)(w:Lo)(h0:w.cell? ⟨b,off,none⟩=some (B8 x0))(h1:w.cell? ⟨b,off+1,none⟩=some (B8 x1))(h2:w.cell? ⟨b,off+2,none⟩=some (B8 x2))(h3:w.cell? ⟨b,off+3,none⟩=some (B8 x3)):
  Calls prog 129 #[.slice (some ⟨b,off,none⟩) 4 c,.bool (!low)] w λe w'=>e= .returned (.int .i64 (word low x0 x1 x2 x3:Nat))/\w=w':=by
 cases low;·exact Kf b off c x0 x1 x2 x3 w h0 h1 h2 h3
 ·exact Nm b off c x0 x1 x2 x3 w h0 h1 h2 h3
theorem Np(id:Int)(hid:Nl id)(back:Bool)(W P:Nat)(w:Lo)(hW:W<4294967296)(hP:P<4294967296):
  Calls prog 128 #[.int .i64 id,.int .i64 W,.int .i64 P,.bool back] w λe w'=>e= .returned (.int .i64 (l7 id back W P:Nat))/\w=w':=by
 rcases hid with rfl|rfl|rfl|rfl;·exact WX back W P w hW hP
 ·exact WY back W P w hW hP
 ·exact WZ back W P w hW hP
 ·exact RZ back W P w hW hP
def GL(id:Int)(start:Nat):Bool:=(id==5||id==7||id==9||id==10)&&start%4==0
theorem Xd(id:Int)(start:Nat):GL id start=true↔Nl id/\start%4=0:=by unfold GL Nl;simp[or_assoc]
theorem Sc(id:Int)(start:Nat)(w:Lo):Calls prog 119 #[.int .i64 id,.int .u32 start] w λe w'=>e= .returned (.bool (GL id start))/\w=w':=by
 have hs:((start:Int)%4==0)=(start%4==0):=by rw[Bool.eq_iff_iff];simp;omega
 have hm:GL id start=((id==5||id==7||id==9||id==10)&&start%4==0):=rfl;generalize GL id start=M at*;generalize(start%4==0)=T at*;by_cases h5:id=5;·subst h5;simp only[show((5:Int)==5)=true from rfl,Bool.true_or,Bool.true_and]at hm;subst hm;go_enter func119,ntmps119;go_wp2;go_ret;exact⟨rfl,rfl⟩
 ·have b5:(id==5)=false:=by simp[h5]
  by_cases h7:id=7;·subst h7;simp only[show((7:Int)==7)=true from rfl,Bool.or_true,Bool.true_or,Bool.true_and]at hm;subst hm;clear h5 b5;go_enter func119,ntmps119;go_wp2;go_ret;exact⟨rfl,rfl⟩
  ·have b7:(id==7)=false:=(by simp[h7]);by_cases h9:id=9;·subst h9;simp only[show((9:Int)==9)=true from rfl,Bool.or_true,Bool.true_or,Bool.true_and]at hm;subst hm;clear h5 b5 h7 b7;go_enter func119,ntmps119;go_wp2;go_ret;exact⟨rfl,rfl⟩
   ·have b9:(id==9)=false:=(by simp[h9]);rw[b5,b7,b9]at hm;simp only[Bool.false_or]at hm;by_cases zI:id=10;·subst zI;simp only[show((10:Int)==10)=true from rfl,Bool.true_and]at hm;subst hm;clear h5 b5 h7 b7 h9 b9;go_enter func119,ntmps119;go_wp2;go_ret;exact⟨rfl,rfl⟩
    ·have b10:(id==10)=false:=(by simp[zI]);rw[b10]at hm;simp only[Bool.false_and]at hm;subst hm;clear h5 h7 h9 zI;go_enter func119,ntmps119;go_wp2;go_ret;exact⟨rfl,rfl⟩
theorem Sd(id:Int)(hid:Nl id)(back:Bool)(start:Nat)(da:start<4294967296)(A:As)(l:An)(c:Nat)(w:Lo)(hB:Bytes w A l)(hm:l.length<=1000000)(hc:l.length<=c)(_hcm:c<=9223372036854775807):
  Calls prog 87 #[.int .i64 id,.int .u32 start,.slice A l.length c,.bool back] w (Ke w (j6 (nB id) (l7 id back) start l)):=by
 have Ll:(id==5||id==9)= !(nB id):=by rcases hid with rfl|rfl|rfl|rfl<;>rfl
 have HT:=ae (Np id hid back);have HL:=ae (aak id back);have DX:j6 (nB id) (l7 id back) start l=pre (nB id) (l7 id back) start l (l.length/4)++l.drop (4*(l.length/4)):=rfl;have HCD:=ae DX;clear DX hid;generalize j6 (nB id) (l7 id back) start l=X at*;generalize nB id=low at*;generalize l7 id back=cv at*;go_enter func87,ntmps87;go_wp2_with fail;go_loopw [9,10] (λv i wr=> ∃(k:Nat),4*k<=l.length/\i= .int .i64 (4*k:Nat)/\Own w.heap.size wr v (pre low cv start l k)/\aq w wr) (λ_ i _=>l.length-(intOf i).toNat);·exact⟨0,aa,rfl,Own.nil _ _,aP _ _⟩
 ·
  obtain⟨k,hk,rfl,aL,hb⟩:=hrel;have xe:=uw low cv start l k hk;by_cases aV:4*k<l.length
  ·by_cases hle:4*k+4<=l.length
   ·obtain⟨b,off,rfl,eX,hcell⟩:=(hB.below hb).addr aa;obtain⟨x0,x1,x2,x3,t,e⟩:=xZ l (4*k) hle;have aeP:Hid (pre low cv start l (k+1)=pre low cv start l k++bytesOf low (cv (word low x0 x1 x2 x3) ((start+4*k)%4294967296))):=(by apply ae;simp only[pre,grp,e]);have hg: ∀j (hj:j<4),wr.cell? ⟨b,off+4*k+j,none⟩=some (B8 ([x0,x1,x2,x3][j])):=by
     intro j hj;have h1:=hcell (4*k+j) aa;have h2:l[4*k+j]? =some [x0,x1,x2,x3][j]:=by
      have:=aR (λq:List UInt8=>q[j]?) e;simp only[List.getElem?_drop]at this;rw[this];match j,hj with
      | 0,_=>rfl
      | 1,_=>rfl
      | 2,_=>rfl
      | 3,_=>rfl
     rw[dS aa]at h2;injection h2 with h2;rw[m6,h1,h2]
    have h0:=hg 0 aa;have h1:=hg 1 aa;have h2:=hg 2 aa;have h3:=hg 3 aa;rw[Nat.add_zero]at h0;simp only[List.getElem_cons_zero,List.getElem_cons_succ]at h0 h1 h2 h3;have HNB:=ae (Nn low b (off+4*k) (c-4*k) x0 x1 x2 x3 wr h0 h1 h2 h3);have TK:=word_lt low x0 x1 x2 x3;have gZ:=HL.out (word low x0 x1 x2 x3) ((start+4*k)%4294967296) TK;have HC:=ae (HT (word low x0 x1 x2 x3) ((start+4*k)%4294967296) wr TK aa);generalize word low x0 x1 x2 x3=W at*;generalize cv W ((start+4*k)%4294967296)=V at*;have HF:=ae (Xc V low wr gZ);have akH:=bytesOf_length low V;generalize bytesOf low V=BV at*;have k0: ¬c=4*k:=aa;have hpp:((start:Int)+4*(k:Int))%4294967296=(((start+4*k)%4294967296:Nat):Int):=aa;generalize(start+4*k)%4294967296=PL at*;have bY:(pre low cv start l k).length+BV.length<=140737488355328:=aa;have Xe:=ae bY;clear hg h0 h1 h2 h3 e hcell bY;generalize pre low cv start l k=R at*;generalize DU:(!low)=nl at*;have HNL:=ae DU;have fJ:=ae akH;have tx:=ae xe;clear DU akH xe;have h5:((id==5)=true/\nl=true)\/((id==5)=false/\(id==9)=nl):=by
     cases h:(id==5)with
     | true=>left;rw[h,Bool.true_or]at Ll;exact⟨rfl,Ll.symm⟩
     | false=>right;rw[h,Bool.false_or]at Ll;exact⟨rfl,Ll⟩
    clear Ll;have My:=ae hpp;clear hpp;rcases h5 with⟨h5,rfl⟩|⟨h5,h9⟩
    all_goals
     go_wp2_with fail;refine HNB.mono ?_;rintro e w' ⟨rfl,rfl⟩;go_wp2_with fail;rw[My.out];refine HC.mono ?_;rintro e w' ⟨rfl,rfl⟩;go_wp2_with fail;refine HF.mono ?_;rintro e w3 ⟨v3,rfl,dU,bm⟩;obtain⟨A3,c3,rfl,ju,tl,iP⟩:=dU.read;have bJ:=aL.below bm;have ja:=aQ hb bm;clear aL dU;go_wp2_with (at_builtin;refine aj rfl (.tmp 40) (.tmp 53) rfl w.heap.size _ _ R rfl bJ A3 BV c3 rfl iP Xe.out ja.size ?_;intro v4 w4 bM dq;have bc:=am ja dq ja.size (λg hg=>(bJ.ay g hg).1))
     go_roundw;case rel=>exact⟨k+1,aa,aA,by rw[aeP.out];exact bM,bc⟩
     case measure=>simp[intOf];omega
   ·obtain⟨b,off,rfl,eX,hcell⟩:=(hB.below hb).addr aa;have TM:Bytes wr (some ⟨b,off+4*k,none⟩) (l.drop (4*k)):=Bytes.drop (4*k) (.inr ⟨b,off,rfl,eX,hcell⟩);have Kg:(l.drop (4*k)).length=l.length-4*k:=fZ ..;have Zv:l.length/4=k:=aa;have hx:=HCD.out;rw[Zv]at hx;have HX:=ae hx;have bY:(pre low cv start l k).length+(l.drop (4*k)).length<=140737488355328:=aa;have Xe:=ae bY;have Dp:=ae Kg;have k0: ¬c=4*k:=aa;clear hx Zv hcell Kg xe bY;generalize l.drop (4*k)=D at*;generalize pre low cv start l k=R at*;go_wp2_with (at_builtin;refine aj rfl (.tmp 24) (.tmp 27) rfl w.heap.size _ _ R rfl aL (some ⟨b,off+4*k,none⟩) D (c-4*k) (by rw[Dp.out];rfl) TM Xe.out hb.size ?_;intro v4 w4 bM dq;have bc:=am hb dq hb.size (λg hg=>(aL.ay g hg).1))
    go_ret;exact⟨_,rfl,by rw[HX.out];exact bM,bc⟩
  ·have Zv:l.length/4=k:=(by omega);have hx:=HCD.out;rw[Zv,pT aa,iV]at hx;have HX:=ae hx;clear hx Zv xe;go_wp2;go_ret;exact⟨_,rfl,by rw[HX.out];exact aL,hb⟩
theorem GM(low:Bool)(cv:Nat->Nat->Nat)(start:Nat)(l:An):(j6 low cv start l).length=l.length:=by unfold j6;rw[aG,uw _ _ _ _ _ aa,fZ];omega
namespace Delta
abbrev at_(l:An)(i:Nat):UInt8:=l.getD i 0
def back(l:An)(d k:Nat):UInt8:=if d<=k then at_ l (k-d)else 0
def p9(l:An)(d k:Nat):List UInt8:=(List.range k).map λi=>at_ l i-back l d i
def enc(l:An)(d:Nat):List UInt8:=p9 l d l.length
theorem j7(l:An)(d k:Nat):(p9 l d k).length=k:=by simp[p9]
theorem Cz(l:An)(d:Nat):(enc l d).length=l.length:=j7 _ _ _
theorem CA(l:An)(d k:Nat):p9 l d (k+1)=p9 l d k++[at_ l k-back l d k]:=by simp[p9,List.range_succ]
theorem CB(a b:An)(i:Nat)(h:i<a.length):at_ (a++b) i=at_ a i:=by simp[at_,List.getD,List.getElem?_append_left h]
theorem CC(a:An)(x:UInt8):at_ (a++[x]) a.length=x:=by simp[at_,List.getD]
def Win(o:An)(f:Nat->UInt8):Prop:= ∀d,1<=d->d<=256->f ((o.length+256-d)%256)=back o d o.length
theorem Win.nil:Win [] (λ_=>0):=by intro d h1 _;unfold back;rw[au aH]
theorem Win.snoc{o:An}{f:Nat->UInt8}(h:Win o f)(x:UInt8):Win (o++[x]) (λj=>if j=o.length%256 then x else f j):=by
 intro d h1 h2;rw[aG,List.length_singleton];show(if(o.length+1+256-d)%256=o.length%256 then x else f ((o.length+1+256-d)%256))=_;by_cases e:d=1;·subst e;rw[ax aa];unfold back;rw[ax aa,Nat.add_sub_cancel,CC]
 ·rw[au aa];have:=h (d-1) aa aa;rw[show o.length+256-(d-1)=o.length+1+256-d by omega]at this;rw[this];unfold back;by_cases hd:d<=o.length+1;·rw[ax hd,ax aa,CB _ _ _ aa,show o.length+1-d=o.length-(d-1) by omega]
  ·rw[au hd,au aa]
theorem Se(l:An)(d k:Nat)(hd:1<=d):back (l.take k) d k=back l d k:=by
 unfold back;by_cases h:d<=k;·rw[ax h,ax h];simp[at_,List.getD,show k-d<k by omega]
 ·rw[au h,au h]
end Delta
section
namespace De
open Go.RowKit Go.Proofs.YtfcaoggfnkhfiaaGreatDoor
def rL(w:Lo)(l:An)(err:Int)(e:Ending)(w':Lo):Prop:= ∃v,e= .returned (.tuple #[v,.int .i64 err])/\Own w.heap.size w' v l/\Below w.heap.size w w'
theorem Xf(a b:UInt8):IntKind.u8.wrap ((a.toNat:Int)-(b.toNat:Int))=((a-b).toNat:Int):=by have h1:=a.toNat_lt;have h2:=b.toNat_lt;rw[IntKind.wrap_u8',UInt8.toNat_sub];omega
theorem arB(v b:UInt8)(w:Lo):Calls prog 146 #[.int .u8 v.toNat,.int .u8 b.toNat] w λe w'=>e= .returned (.tuple #[.int .u8 (v-b).toNat,.int .u8 v.toNat])/\w=w':=by have h:=Xf v b;rw[IntKind.wrap_u8']at h;go_enter func146,ntmps146;go_wp2;go_ret2;exact⟨aR (λn:Int=>Ending.returned (.tuple #[.int .u8 n,.int .u8 v.toNat])) h,rfl⟩
def yU:Array Value:=Array.replicate 256 (.int .u8 0)
theorem akI:(prog.info? 249).map (λi=>(i.zero,i.size))=some (some (.agg yU),256):=ak
theorem Xg(w:Lo):(w.alloc (.cells yU 249)).rowIs w.heap.size 249 256 (λ_=>B8 0):=by
 have h:=World.rowIs_alloc w yU 249 (λ_=>B8 0) (λi hi=>by
  unfold yU at hi ⊢;rw[Array.getElem?_replicate,ax jP];rfl)
 have e:yU.size=256:=by simp[yU]
 rwa [e]at h
theorem Nq(n:Nat):(madeCells (Value.int .u8 0).cells (n*1)).toList=(List.replicate n (0:UInt8)).map B8:=by rw[Nat.mul_one,show(Value.int .u8 0).cells= #[Value.int .u8 0]from rfl,toList_madeCells_one,List.map_replicate];rfl
theorem Nr(k:Nat)(d:Int)(h1:1<=d)(h2:d<=256)(hk:k<=9223372036854775807):IntKind.u8.wrap ((k:Int)-d)=(((k+256-d.toNat)%256:Nat):Int):=by rw[IntKind.wrap_u8'];omega
theorem Ns(l:An)(k:Nat)(h:k<l.length):Delta.at_ l k=l[k]:=by simp[Delta.at_,List.getD,h]
theorem Kh(a:An)(n k:Nat)(x:UInt8)(ha:a.length=k)(hk:k<n):((a++List.replicate (n-k) 0).map B8).set k (B8 x)=((a++[x])++List.replicate (n-(k+1)) 0).map B8:=by
 rw[<-List.map_set];congr 1;obtain⟨m,hm⟩: ∃m,n-k=m+1:=⟨n-k-1,aa⟩
 rw[hm,show n-(k+1)=m by omega,List.replicate_succ,List.set_append_right _ _ aa,ha,lJ,List.set_cons_zero,eY];rfl
theorem mj{w:Lo}{base gz e n:Nat}{v:Value}{xs:List Value}(h:w.ownsRow base e 1 v n xs)(hb:gz<=base):w.ownsRow gz e 1 v n xs:=by
 rcases h with⟨h1,h2|⟨g,cap,cur,h2,h3,h4⟩⟩
 ·exact⟨h1,.inl h2⟩
 ·exact⟨h1,.inr ⟨g,cap,cur,h2,aa,h4⟩⟩
theorem Xh(A:As)(l:An)(c:Nat)(d:Int)(w:Lo)(hB:Bytes w A l)(hm:l.length<=140737488355328)(Dl:1<=d)(Lf:d<=256):
  Calls prog 145 #[.slice A l.length c,.int .i64 d,.func (.func 146) #[] #[]] w (rL w (Delta.enc l d.toNat) 0):=by
 have hz:=(zero_of_info akI).1;obtain⟨i,hi,qw,kC,me⟩:=info_parts tz;have g1:decide (d<1)=false:=aH;have g2:decide (256<d)=false:=aH;have Zd:i.bytes*l.length<=281474976710656:=qL;have vu:l.length<=maxLen:=iJ;have Lh:=Xg w;have fV:Below w.heap.size w (w.alloc (.cells yU 249)):=az;go_enter func145,ntmps145;go_wp2_with (refine wpList_make_full _ rfl _ _ 22 rfl (w.heap.size+1) 5 i (.int .u8 0) 1 underlying22 hi qw kC _ _ _ _ l.length rfl rfl rfl rfl Zd vu ah ?_;intro w1 eh lN)
 rw[Nq]at eh;have qj:w1.rowIs w.heap.size 249 256 (λ_=>B8 0):=Lh.of_block (lN.block _ ah ah);have aI:Below w.heap.size w w1:=am fV lN fV.size ah;have dF:(w.alloc (.cells yU 249)).heap.size=w.heap.size+1:=ah;rw[dF]at eh;clear hz Lh fV lN hi qw kC me Zd dF;generalize hg:w.heap.size+1=g at*;have tB:w.heap.size<g:=aa;have HG:=ae hg;clear hg;generalize hdn:d.toNat=dn at*;have HD:=ae hdn;have aeU:1<=dn:=aa;have arC:dn<=256:=aa;clear hdn g1 g2;go_loopw [23] (λi wr=> ∃(k:Nat) (f:Nat->UInt8),k<=l.length/\i= .int .i64 k/\wr.rowIs w.heap.size 249 256 (λj=>B8 (f j))/\Delta.Win (l.take k) f/\wr.ownsRow g 5 1 (.slice (some ⟨g,0,none⟩) l.length l.length) l.length ((Delta.p9 l dn k++List.replicate (l.length-k) 0).map B8)/\Below w.heap.size w wr) (λi _=>l.length-(intOf i).toNat);·exact⟨0,λ_=>0,aa,rfl,qj,Delta.Win.nil,by simpa [Delta.p9]using eh,aI⟩
 ·
  clear qj eh aI;obtain⟨k,f,hk,rfl,hr,hw,aL,hb⟩:=hrel;by_cases aV:k<l.length
  ·obtain⟨b,off,rfl,eX,hcell⟩:=(hB.below hb).addr aa;have sX:=hcell k aV;have hlen:(l.take k).length=k:=tY;have hwd:=hw dn aeU arC;rw[hlen]at hwd;have hoi:=Nr k d Dl Lf aa;rw[HD.out]at hoi;have avF:=hr.cell (i:=(k+256-dn)%256) aa;have arD:=hr.cell (i:=k%256) aa;have hrf:=hr.frozen (k%256);have da:=ae (aL.stored k);have hoc:=aL.cellAt k aa;have hof:=aL.frozenAt k;rw[List.getElem?_map,lH (by rw[Delta.j7];exact aF _),Delta.j7,lJ,List.getElem?_replicate,ax aa]at hoc;simp only[Option.map]at hoc;have xO:IntKind.u8.wrap (k:Int)=((k%256:Nat):Int):=(by rw[IntKind.wrap_u8'];omega);have Nt:=ae (Kh (Delta.p9 l dn k) l.length k (Delta.at_ l k-Delta.back l dn k) (Delta.j7 _ _ _) aV);have Bl:=ae (Delta.CA l dn k);have dm:=ae (lE aV);have Lp:=ae (hw.snoc (Delta.at_ l k));have aI:(((k+256-dn)%256:Nat):Int)<256:=aa;have aK:((k%256:Nat):Int)<256:=aa;generalize fE:f ((k+256-dn)%256)=bb at*;generalize fc:(k+256-dn)%256=m1 at*;generalize fm:k%256=m2 at*;have mT:=ae fc;have F1:=ae fm;have vH:=ae fE;have HWD:=ae hwd;have HW:=ae hw;have cZ:=Ns l k aV;generalize hv:l[k]=v at*;have HV:=ae hv;have EH:=ae cZ;clear fc fm fE hwd hw hv cZ hcell;go_wp2_with fail;refine(arB v bb _).mono ?_;rintro e w' ⟨rfl,rfl⟩;generalize hsv:v-bb=sv at*;have HSV:=ae hsv;clear hsv;go_wp2_with fail;go_roundw;case rel=>
    have nk:bb=Delta.back (l.take k) dn k:=HWD.out;have hx:sv=Delta.at_ l k-Delta.back l dn k:=(by rw[<-HSV.out,nk,EH.out];rw[Delta.Se _ _ _ aeU]);obtain⟨kQ,qx⟩:=da.out (B8 sv);have h3:=Nt.out;have h4:=Bl.out;rw[<-hx]at h3 h4;rw[h3,<-h4]at kQ;refine⟨k+1,λj=>if j=m2 then v else f j,aa,aA,?_,?_,?_,?_⟩;·refine((hr.setOther aH _).set m2 _).congr λj _=> ?_;by_cases e:j=m2<;>simp[e]
    ·have h2:=Lp.out;rw[hlen,F1.out]at h2;rw[EH.out]at h2;rw[dm.out];exact h2
    ·exact(World.ownsRow.kept (row:=some w.heap.size) kQ ⟨rfl,rfl,rfl,ah,λj _ hj=>heap_setCell_other _ _ j _ (λe=>hj (by simp[e]))⟩ (.inr (by simp[Value.ownBlock];omega)))
    ·exact(hb.setCell aH _).setCell ah _
   case measure=>simp[intOf];omega
  ·obtain rfl:k=l.length:=(by omega);go_wp2;go_ret2;refine⟨_,rfl,?_,hb⟩;rw[lJ,List.replicate_zero,iV]at aL;have hl:(Delta.enc l dn).length=l.length:=Delta.Cz _ _;unfold Own;rw[hl];exact mj aL aa
theorem ux(A:As)(l:An)(c:Nat)(d:Int)(w:Lo)(hB:Bytes w A l)(hm:l.length<=140737488355328)(Dl:1<=d)(Lf:d<=256):
  Calls prog 100 #[.slice A l.length c,.int .i64 d] w (rL w (Delta.enc l d.toNat) 0):=by
 go_enter func100,ntmps100;go_wp2_with fail;refine(Xh A l c d _ hB hm Dl Lf).mono ?_;rintro e w' ⟨v,rfl,ho,hb⟩;go_wp2;go_ret2;exact⟨v,rfl,ho,hb⟩
end De
end
section
namespace De
open Go.RowKit Go.Proofs.YtfcaoggfnkhfiaaGreatDoor
def nU(w:Lo)(l:An)(e:Ending)(w':Lo):Prop:= ∃v,e= .returned v/\Own w.heap.size w' v l/\Below w.heap.size w w'
theorem Xi(l:An)(d k:Nat)(h:d<=k):Delta.back l d k=Delta.at_ l (k-d):=by unfold Delta.back;rw[ax h]
theorem aat(l:An)(d k:Nat)(h: ¬d<=k):Delta.back l d k=0:=by unfold Delta.back;rw[au h]
theorem Nu(A:As)(l:An)(c:Nat)(d:Int)(w:Lo)(hB:Bytes w A l)(hm:l.length<=140737488355327)(Dl:1<=d)(Lf:d<=256):
  Calls prog 86 #[.slice A l.length c,.int .i64 d] w (nU w (Delta.enc l d.toNat)):=by
 generalize hdn:d.toNat=dn at*;have aeU:1<=dn:=aa;have hde:d=(dn:Int):=aa;subst hde;clear hdn;go_enter func86,ntmps86;go_wp2_with fail;go_loopw [5,6] (λv i wr=> ∃(k:Nat),k<=l.length/\i= .int .i64 k/\Own w.heap.size wr v (Delta.p9 l dn k)/\aq w wr) (λ_ i _=>l.length-(intOf i).toNat);·exact⟨0,aa,rfl,Own.nil _ _,aP _ _⟩
 ·
  obtain⟨k,hk,rfl,ho,hb⟩:=hrel;by_cases aV:k<l.length
  ·obtain⟨b,off,rfl,eX,hcell⟩:=(hB.below hb).addr aa;have sX:=hcell k aV;have acr:=ae (Delta.CA l dn k);have hlen:=Delta.j7 l dn k;have cZ:=ae (Ns l k aV);generalize l[k]=v at*;by_cases hdk:dn<=k
   ·have nk:=ae (Xi (l) dn k hdk);have hcu:=hcell (k-dn) aa;have arF:=ae (Ns l (k-dn) aa);generalize l[k-dn]=u at*;have hj1:0<=(k:Int)-(dn:Int):=aa;have hj2:(k:Int)-(dn:Int)<l.length:=aa;have hj3:((k:Int)-(dn:Int)).toNat=k-dn:=aa;have hop:=Xf v u;rw[IntKind.wrap_u8']at hop;generalize hsv:v-u=sv at*;have HSV:=ae hsv;have mS:=Bytes.one wr sv;have Dx:=ho.alloc (.cells #[.int .u8 sv.toNat] 5);have p8:=hb.alloc hb.size (.cells #[.int .u8 sv.toNat] 5);have bY:(Delta.p9 l dn k).length+[sv].length<=140737488355328:=(by rw[hlen];simp;omega);clear hsv hcell;go_wp2_with (at_builtin;refine aj rfl (.tmp 29) (.tmp 31) rfl w.heap.size _ _ _ rfl Dx (some ⟨wr.heap.size,0,none⟩) [sv] 1 rfl mS bY p8.size ?_;intro v2 w2 dz gB;have aK:=am p8 gB p8.size (λg hg=>(Dx.ay g hg).1))
    go_roundw;case rel=>refine⟨k+1,aa,aA,?_,aK⟩;rw[acr.out,cZ.out,nk.out,arF.out,HSV.out];exact dz
    case measure=>simp[intOf];omega
   ·have nk:=ae (aat (l) dn k hdk);have mS:=Bytes.one wr v;have Dx:=ho.alloc (.cells #[.int .u8 (v.toNat:Nat)] 5);have p8:=hb.alloc hb.size (.cells #[.int .u8 (v.toNat:Nat)] 5);have bY:(Delta.p9 l dn k).length+[v].length<=140737488355328:=(by rw[hlen];simp;omega);have hnd: ¬(dn:Int)<=k:=aa;clear hcell;go_wp2_with (at_builtin;refine aj rfl (.tmp 29) (.tmp 31) rfl w.heap.size _ _ _ rfl Dx (some ⟨wr.heap.size,0,none⟩) [v] 1 rfl mS bY p8.size ?_;intro v2 w2 dz gB;have aK:=am p8 gB p8.size (λg hg=>(Dx.ay g hg).1))
    go_roundw;case rel=>refine⟨k+1,aa,aA,?_,aK⟩;rw[acr.out,cZ.out,nk.out,UInt8.sub_zero];exact dz
    case measure=>simp[intOf];omega
  ·obtain rfl:k=l.length:=(by omega);go_wp2;go_ret;exact⟨_,rfl,ho,hb⟩
end De
end
structure eF where
 id:Int
 n:Nat
def eF.ok(f:eF):Prop:= -9223372036854775808<=f.id/\f.id<=9223372036854775807/\f.n<4294967296
abbrev eF.agg(f:eF):Value:= .agg #[.int .i64 f.id,.int .u32 f.n]
structure ER(w:Lo)(b o:Nat)(f:eF):Prop where
 c0:w.cell? ⟨b,o,none⟩=some (.int .i64 f.id)
 c1:w.cell? ⟨b,o+1,none⟩=some (.int .u32 f.n)
 ok:f.ok
def je(w:Lo)(A:As)(l:List eF):Prop:=
 l=[]\/ ∃b off,A=some ⟨b,off,none⟩/\b<w.heap.size/\ ∀i (h:i<l.length),ER w b (off+i*2) l[i]
theorem ER.below{b o B:Nat}{f:eF}(h:ER w b o f)(hb:Below B w w')(aV:b<B):ER w' b o f:=
 ⟨(hb.cell (p:=⟨b,o,none⟩) aV).trans h.c0,(hb.cell (p:=⟨b,o+1,none⟩) aV).trans h.c1,h.ok⟩
theorem je.below{l:List eF}(h:je w A l)(hb:Below w.heap.size w w'):je w' A l:=by
 rcases h with h|⟨b,off,rfl,aV,h⟩
 ·exact .inl h
 ·exact .inr ⟨b,off,rfl,db aV hb.size,λi hi=>(h i hi).below hb aV⟩
theorem je.addr{l:List eF}(h:je w A l)(hl:0<l.length): ∃b off,A=some ⟨b,off,none⟩/\b<w.heap.size/\ ∀i (h:i<l.length),ER w b (off+i*2) l[i]:=by
 rcases h with rfl|h;·simp at hl
 ·exact h
def eI(f:eF):Bool:=if f.id=3 then decide (1<=f.n)&&decide (f.n<=256)else GL f.id f.n
def mI(l:List eF):Bool:=decide (l.length<=3)&&l.all eI
def Ki(id:Int):Bool:=id==5||id==7||id==9||id==10
theorem ec(w:Lo)(o:Obj):Below w.heap.size w (w.alloc o):=az
theorem GN(id:Int)(w:Lo):Calls prog 121 #[.int .i64 id] w λe w'=>e= .returned (.bool (Ki id))/\w=w':=by
 have hm:Ki id=(id==5||id==7||id==9||id==10):=rfl;generalize Ki id=M at*;by_cases h5:id=5;·subst h5;simp only[show((5:Int)==5)=true from rfl,Bool.true_or]at hm;subst hm;go_enter func121,ntmps121;go_wp2;go_ret;exact⟨rfl,rfl⟩
 ·have b5:(id==5)=false:=by simp[h5]
  by_cases h7:id=7;·subst h7;simp only[show((7:Int)==7)=true from rfl,Bool.or_true,Bool.true_or]at hm;subst hm;clear h5 b5;go_enter func121,ntmps121;go_wp2;go_ret;exact⟨rfl,rfl⟩
  ·have b7:(id==7)=false:=(by simp[h7]);by_cases h9:id=9;·subst h9;simp only[show((9:Int)==9)=true from rfl,Bool.or_true,Bool.true_or]at hm;subst hm;clear h5 b5 h7 b7;go_enter func121,ntmps121;go_wp2;go_ret;exact⟨rfl,rfl⟩
   ·have b9:(id==9)=false:=(by simp[h9]);rw[b5,b7,b9]at hm;simp only[Bool.false_or]at hm;clear h5 h7 h9;generalize hT:(id==10)=T at*;subst hm;have HT:=ae hT;cases M
    all_goals
     go_enter func121,ntmps121;go_wp2;go_ret;exact⟨rfl,rfl⟩
theorem rQ(f:eF)(hf:f.ok)(w:Lo):Calls prog 79 #[f.agg] w λe w'=>e= .returned (.bool (eI f))/\Below w.heap.size w w':=by
 obtain⟨id,n⟩:=f;obtain⟨h1,h2,h3⟩:=hf;simp only at h1 h2 h3;have hb:=ec w;have HM:=ae (Sc id n);by_cases hid:id=3
 ·subst hid;have n7:eI ⟨3,n⟩=(decide (1<=n)&&decide (n<=256)):=rfl;generalize eI ⟨3,n⟩=R at*;by_cases hn:1<=n
  ·have d1:decide (1<=(n:Int))=true:=(by simp;omega);have ya:R=decide (n<=256):=(by rw[n7];simp[hn]);clear n7;by_cases yv:n<=256;·have d2:decide ((n:Int)<=256)=true:=(by simp;omega);rw[iz yv]at ya;subst ya;go_enter func79,ntmps79;go_wp2;go_ret;exact⟨rfl,hb _⟩
   ·have d2:decide ((n:Int)<=256)=false:=(by simp;omega);rw[du yv]at ya;subst ya;go_enter func79,ntmps79;go_wp2;go_ret;exact⟨rfl,hb _⟩
  ·have d1:decide (1<=(n:Int))=false:=(by simp;omega);have ya:R=false:=(by rw[n7];simp[hn]);subst ya;clear n7;go_enter func79,ntmps79;go_wp2;go_ret;exact⟨rfl,hb _⟩
 ·have n7:eI ⟨id,n⟩=GL id n:=by unfold eI;rw[au hid]
  rw[n7];generalize GL id n=R at*;clear n7;go_enter func79,ntmps79;go_wp2_with fail;refine(HM _).mono ?_;rintro e w' ⟨rfl,rfl⟩;go_wp2;go_ret;exact⟨rfl,hb _⟩
theorem oC(f:eF)(hf:f.ok)(w:Lo):Calls prog 82 #[f.agg] w λe w'=>e= .returned (.bool (eI f))/\Below w.heap.size w w':=by
 obtain⟨id,n⟩:=f;obtain⟨h1,h2,h3⟩:=hf;simp only at h1 h2 h3;have hb:=ec w;have HM:=ae (GN id);by_cases hid:id=3
 ·subst hid;have n7:eI ⟨3,n⟩=(decide (1<=n)&&decide (n<=256)):=rfl;generalize eI ⟨3,n⟩=R at*;by_cases hn:1<=n
  ·have d1:decide (1<=(n:Int))=true:=(by simp;omega);have ya:R=decide (n<=256):=(by rw[n7];simp[hn]);clear n7;by_cases yv:n<=256;·have d2:decide ((n:Int)<=256)=true:=(by simp;omega);rw[iz yv]at ya;subst ya;go_enter func82,ntmps82;go_wp2;go_ret;exact⟨rfl,hb _⟩
   ·have d2:decide ((n:Int)<=256)=false:=(by simp;omega);rw[du yv]at ya;subst ya;go_enter func82,ntmps82;go_wp2;go_ret;exact⟨rfl,hb _⟩
  ·have d1:decide (1<=(n:Int))=false:=(by simp;omega);have ya:R=false:=(by rw[n7];simp[hn]);subst ya;clear n7;go_enter func82,ntmps82;go_wp2;go_ret;exact⟨rfl,hb _⟩
 ·have n7:eI ⟨id,n⟩=(Ki id&&n%4==0):=by unfold eI;rw[au hid];rfl
  rw[n7];generalize Ki id=R at*;clear n7;have hT:((n:Int)%4==0)=(n%4==0):=by rw[Bool.eq_iff_iff];simp;omega
  generalize(n%4==0)=T at*;cases R
  all_goals
   go_enter func82,ntmps82;go_wp2_with fail;refine(HM _).mono ?_;rintro e w' ⟨rfl,rfl⟩;go_wp2;go_ret;exact⟨rfl,hb _⟩
theorem Kj(l:List eF)(k:Nat)(h:k<l.length)(ha:(l.take k).all eI=true):(l.take (k+1)).all eI=eI l[k]:=by rw[lE h,List.all_append,ha];simp
theorem Xj(l:List eF)(k:Nat)(h:k<l.length)(hf:eI l[k]=false):l.all eI=false:=by rw[List.all_eq_false];exact⟨_,lF h,by simp[hf]⟩
theorem Sf(A:As)(l:List eF)(c:Nat)(w:Lo)(hF:je w A l)(hl:l.length<=20):
  Calls prog 51 #[.slice A l.length c] w λe w'=>e= .returned (.bool (mI l))/\Below w.heap.size w w':=by
 have hm:mI l=(decide (l.length<=3)&&l.all eI):=rfl;have HM:=ae hm;clear hm;generalize mI l=M at*;go_enter func51,ntmps51;go_wp2_with fail;go_loopw [3] (λi wr=> ∃k:Nat,k<=l.length/\i= .int .i64 k/\(l.take k).all eI=true/\aq w wr) (λi _=>l.length-(intOf i).toNat);·exact⟨0,aa,rfl,ah,aP _ _⟩
 ·
  obtain⟨k,hk,rfl,dZ,hb⟩:=hrel;by_cases aV:k<l.length
  ·obtain⟨b,off,rfl,eX,cZ⟩:=(hF.below hb).addr aa;have ln:=cZ k aV;have T4:=ae (Kj l k aV dZ);have sE:=ae (Xj l k aV);have sQ:=ae (rQ l[k] ln.ok wr);have h0:=ln.c0;have h1:=ln.c1;have bK:=ln.ok;generalize l[k]=f at*;obtain⟨id,n⟩:=f;clear cZ dZ ln;simp only[eF.ok]at bK;simp only at h0 h1;cases n7:eI ⟨id,n⟩with
   | true=>
    rw[n7]at sQ T4;clear n7 sE;go_wp2_with fail;refine sQ.mono ?_;rintro e w1 ⟨rfl,aI⟩;go_wp2_with fail;go_roundw;case rel=>exact⟨k+1,aa,aA,T4.out,aQ hb aI⟩
    case measure=>simp[intOf];omega
   | false=>
    have hx:=sE.out n7;have hm:=HM.out;rw[hx,Bool.and_false]at hm;subst hm;rw[n7]at sQ;clear n7 T4 hx;go_wp2_with fail;refine sQ.mono ?_;rintro e w1 ⟨rfl,aI⟩;go_wp2;go_ret;exact⟨rfl,aQ hb aI⟩
  ·obtain rfl:k=l.length:=(by omega);have hx:l.all eI=true:=(by rw[List.take_length]at dZ;exact dZ);have hm:=HM.out;rw[hx,Bool.and_true]at hm;have hd:decide ((l.length:Int)<=3)=decide (l.length<=3):=(by rw[decide_eq_decide];omega);generalize decide (l.length<=3)=D at*;clear hx dZ;subst hm;go_wp2;go_ret;exact⟨rfl,hb⟩
theorem wt(A:As)(l:List eF)(c:Nat)(w:Lo)(hF:je w A l)(hl:l.length<=20):
  Calls prog 54 #[.slice A l.length c] w λe w'=>e= .returned (.bool (mI l))/\Below w.heap.size w w':=by
 have hm:mI l=(decide (l.length<=3)&&l.all eI):=rfl;by_cases h3:l.length<=3
 ·rw[iz h3,Bool.true_and]at hm;have HM:=ae hm;clear hm;generalize mI l=M at*;have hd:decide (3<(l.length:Int))=false:=aH;go_enter func54,ntmps54;go_wp2_with fail;clear hd;go_loopw [10] (λi wr=> ∃k:Nat,k<=l.length/\i= .int .i64 k/\(l.take k).all eI=true/\aq w wr) (λi _=>l.length-(intOf i).toNat);·exact⟨0,aa,rfl,ah,aP _ _⟩
  ·
   obtain⟨k,hk,rfl,dZ,hb⟩:=hrel;by_cases aV:k<l.length
   ·obtain⟨b,off,rfl,eX,cZ⟩:=(hF.below hb).addr aa;have ln:=cZ k aV;have T4:=ae (Kj l k aV dZ);have sE:=ae (Xj l k aV);have sQ:=ae (oC l[k] ln.ok);have h0:=ln.c0;have h1:=ln.c1;have bK:=ln.ok;generalize l[k]=f at*;obtain⟨id,n⟩:=f;clear cZ dZ ln;simp only[eF.ok]at bK;simp only at h0 h1;have p8:=λo=>hb.alloc hb.size o;cases n7:eI ⟨id,n⟩with
    | true=>
     rw[n7]at sQ T4;clear n7 sE;go_wp2_with fail;refine(sQ _).mono ?_;rintro e w1 ⟨rfl,aI⟩;go_wp2_with fail;go_roundw;case rel=>exact⟨k+1,aa,aA,T4.out,(p8 _).trans (aI.mono (p8 _).size)⟩
     case measure=>simp[intOf];omega
    | false=>
     have hx:=sE.out n7;have hm:=HM.out;rw[hx]at hm;subst hm;rw[n7]at sQ;clear n7 T4 hx;go_wp2_with fail;refine(sQ _).mono ?_;rintro e w1 ⟨rfl,aI⟩;go_wp2;go_ret;exact⟨rfl,(p8 _).trans (aI.mono (p8 _).size)⟩
   ·obtain rfl:k=l.length:=(by omega);have hx:l.all eI=true:=(by rw[List.take_length]at dZ;exact dZ);have hm:=HM.out;rw[hx]at hm;clear hx dZ;subst hm;go_wp2;go_ret;exact⟨rfl,hb⟩
 ·rw[du h3,Bool.false_and]at hm;generalize mI l=M at*;subst hm;have hd:decide (3<(l.length:Int))=true:=aH;go_enter func54,ntmps54;go_wp2;go_ret;exact⟨rfl,aP _ _⟩
def rT(f:eF)(b:An):List UInt8:=if f.id=3 then Delta.enc b f.n else j6 (nB f.id) (l7 f.id false) f.n b
def ew(l:List eF)(b:An):List UInt8:=l.foldl (λb f=>rT f b) b
theorem yV(f:eF)(b:An):(rT f b).length=b.length:=by
 unfold rT;split;·exact Delta.Cz _ _
 ·exact GM _ _ _ _
theorem dJ(l:List eF)(b:An):(ew l b).length=b.length:=by
 induction l generalizing b with
 | nil=>rfl
 | cons f l ih=>exact(ih (rT f b)).trans (yV f b)
def sTo(l:List eF)(b:An)(k:Nat):List UInt8:=ew (l.take k) b
theorem Nv(l:List eF)(b:An)(k:Nat):(sTo l b k).length=b.length:=dJ _ _
theorem Xk(l:List eF)(b:An):sTo l b 0=b:=by simp[sTo,ew]
theorem aav(l:List eF)(b:An):sTo l b l.length=ew l b:=by simp[sTo]
theorem Xl(l:List eF)(b:An)(k:Nat)(h:k<l.length):sTo l b (k+1)=rT (l[k]'h) (sTo l b k):=by unfold sTo ew;rw[lE h,List.foldl_append];rfl
theorem CD(f:eF)(h:eI f=true):(f.id=3/\1<=f.n/\f.n<=256)\/(f.id≠3/\Nl f.id/\f.n%4=0):=by
 unfold eI at h;by_cases h3:f.id=3;·rw[ax h3]at h;simp at h;exact .inl ⟨h3,h⟩
 ·rw[au h3]at h;exact .inr ⟨h3,(Xd _ _).1 h⟩
theorem wy{gz:Nat}(h:Own base w v l)(hb:gz<=base):Own gz w v l:=De.mj h hb
theorem aeV(l:List eF)(i:Nat)(h:i<l.length)(ha:l.all eI=true):eI l[i]=true:=List.all_eq_true.1 ha _ (lF h)
theorem Xm(f:eF)(bK:f.ok)(bY:eI f=true)(A:As)(l:An)(c:Nat)(w:Lo)(hB:Bytes w A l)(hm:l.length<=140737488355328):
  Calls prog 69 #[f.agg,.slice A l.length c] w (rL w (rT f l) 0):=by
 obtain⟨id,n⟩:=f;have hb:=ec w;obtain⟨h1,h2,h3⟩:=bK;simp only at h1 h2 h3;rcases CD _ bY with⟨e,g1,g2⟩|⟨e,g1,g2⟩
 ·simp only at e g1 g2;subst e;have hx:rT ⟨3,n⟩ l=Delta.enc l ((n:Int).toNat):=rfl;rw[hx];have HC:=ae (fun(w':Lo) (h:Bytes w' A l)=>De.ux A l c (n:Int) w' h hm aa aa);generalize Delta.enc l ((n:Int).toNat)=X at*;clear hx bY;go_enter func69,ntmps69;go_wp2_with fail;refine(HC _ (hB.below (hb _))).mono ?_;rintro e w1 ⟨v,rfl,ho,aI⟩;go_wp2;go_ret2;exact⟨v,rfl,wy ho (hb _).size,(hb _).trans (aI.mono (hb _).size)⟩
 ·simp only at e g1 g2;have hx:rT ⟨id,n⟩ l=j6 (nB id) (l7 id false) n l:=by unfold rT;rw[au e]
  rw[hx];have HC:=ae (fun(w':Lo) (h:Bytes w' A l)=>ux id g1 n h3 g2 A l c w' h hm);generalize j6 (nB id) (l7 id false) n l=X at*;clear hx bY g1;go_enter func69,ntmps69;go_wp2_with fail;refine(HC _ (hB.below (hb _))).mono ?_;rintro e w1 ⟨v,rfl,ho,aI⟩;go_wp2;go_ret2;exact⟨v,rfl,wy ho (hb _).size,(hb _).trans (aI.mono (hb _).size)⟩
theorem Sh(k:Nat)(l:List eF)(w:Lo)(_hl:l.length<=20)(_hk:k<l.length):
  Calls prog 68 #[.int .i64 k] w λe w'=>e= .returned (.int .i64 k)/\w=w':=by
 go_enter func68,ntmps68;go_wp2;go_ret;exact⟨rfl,rfl⟩
theorem Xn(w:Lo)(A0:As)(l:List eF)(c0:Nat)(hF:je w A0 l)(hl:l.length<=20)(dZ:l.all eI=true)(Xo:mI l=true)(A:As)(b:An)(c:Nat)(hB:Bytes w A b)(hm:b.length<=1000000):
  Calls prog 67 #[.slice A0 l.length c0,.slice A b.length c,.func (.func 68) #[] #[],.func (.func 69) #[] #[]] w (rL w (ew l b) 0):=by
 have HM:=ae (wt A0 l c0 w hF hl);rw[Xo]at HM;have HE:=ae (aav l b);have HZ:=ae (Xk l b);have HL:=ae (Nv l b);have HN:=ae (Xl l b);have HFA:=ae (λi h=>aeV l i h dZ);generalize ew l b=X at*;generalize hS:sTo l b=S at*;have hZ:=HZ.out;clear hS Xo dZ;go_enter func67,ntmps67;go_wp2_with fail;refine HM.mono ?_;rintro e w1 ⟨rfl,hb⟩;have dm:Own w.heap.size w1 (.slice none 0 0) []:=Own.nil _ _;have bY:([]:An).length+b.length<=140737488355328:=aH;have RY:=hb.size;go_wp2_with (at_builtin;refine aj rfl (.const (.slice none 0 0)) (.tmp 17) rfl w.heap.size _ (.slice none 0 0) [] rfl dm A b c rfl (hB.below hb) bY RY ?_;intro v1 w2 kE lN)
 have aK:aq w w2:=am hb lN RY AW;rw[fL]at kE;clear dm bY RY hb lN;go_loopw [10,21] (λv i wr=> ∃k:Nat,k<=l.length/\i= .int .i64 k/\Own w.heap.size wr v (S k)/\aq w wr) (λ_ i _=>l.length-(intOf i).toNat);·exact⟨0,aa,rfl,by rw[hZ];exact kE,aK⟩
 ·
  clear kE aK hZ;obtain⟨k,hk,rfl,aL,hb⟩:=hrel;by_cases aV:k<l.length
  ·obtain⟨g0,off,rfl,eX,cZ⟩:=(hF.below hb).addr aa;have xc:k<l.length:=aa;have ln:=cZ (k) xc;have hfi:=HFA.out (k) xc;have iU:=HN.out k aV;have hlen:=HL.out k;obtain⟨A1,c1,rfl,dE,fc,i9⟩:=aL.read;have HAP:=ae (Xm (l[k]'xc) ln.ok hfi A1 (S k) c1 wr i9 aa);have HT:=ae (Sh k l wr hl aV);have h0:=ln.c0;have h1:=ln.c1;generalize l[k]'xc=f at*;obtain⟨id,n⟩:=f;rw[<-iU]at HAP;have Jw:=HL.out (k+1);clear cZ ln hfi aL iU;simp only[eF.agg]at HAP;simp only at h0 h1;clear xc hlen Jw;generalize V':S (k+1)=S1 at*;have sD:=ae V';clear V';generalize hSK:S k=S0 at*;have HSK:=ae hSK;clear hSK;go_wp2_with fail;refine HT.mono ?_;rintro e w' ⟨rfl,rfl⟩;go_wp2_with fail;refine HAP.mono ?_;rintro e w3 ⟨v3,rfl,dU,bm⟩;go_wp2_with fail;go_roundw;case rel=>exact⟨k+1,aa,aA,by rw[sD.out];exact wy dU hb.size,aQ hb bm⟩
   case measure=>simp[intOf];omega
  ·obtain rfl:k=l.length:=(by omega);rw[HE.out]at aL;go_wp2;go_ret2;exact⟨_,rfl,aL,hb⟩
theorem Nw(A0:As)(l:List eF)(c0:Nat)(w:Lo)(hF:je w A0 l)(hl:l.length<=20)(dZ:l.all eI=true)(Xo:mI l=true)(A:As)(b:An)(c:Nat)(hB:Bytes w A b)(hm:b.length<=1000000):
  Calls prog 34 #[.slice A0 l.length c0,.slice A b.length c] w (rL w (ew l b) 0):=by
 have HT:=ae (Xn w A0 l c0 hF hl dZ Xo A b c hB hm);clear dZ Xo;generalize ew l b=X at*;go_enter func34,ntmps34;go_wp2_with fail;refine HT.mono ?_;rintro e w1 ⟨v,rfl,ho,hb⟩;go_wp2;go_ret2;exact⟨v,rfl,ho,hb⟩
end Go.Proofs.YtfcaoggfnkhfiaaGreatDoor
