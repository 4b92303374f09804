import Derived.Test.YtgfpocdiojifoaaGreatDoorZ27
namespace Go.Proofs.YtgfpocdiojifoaaGreatDoor
set_option maxRecDepth 100000
set_option maxHeartbeats 8000000
open Go.RowKit
def Yv(w:World)(b i:Nat)(y0 y1 y2 y3:Nat):World:=(((w.setCell ⟨b,i,none⟩ (.int .u8 (y0:Nat))).setCell ⟨b,i+1,none⟩ (.int .u8 (y1:Nat))).setCell ⟨b,i+2,none⟩ (.int .u8 (y2:Nat))).setCell ⟨b,i+3,none⟩ (.int .u8 (y3:Nat))
def adO(w:World)(b i:Nat)(y0 y1 y2 y3:Nat):World:=(((w.setCell ⟨b,i+3,none⟩ (.int .u8 (y3:Nat))).setCell ⟨b,i+2,none⟩ (.int .u8 (y2:Nat))).setCell ⟨b,i+1,none⟩ (.int .u8 (y1:Nat))).setCell ⟨b,i,none⟩ (.int .u8 (y0:Nat))
theorem ab7(id:Int)(hid:(id==7||id==10)=true)(b i c W y0 y1 y2 y3:Nat)(x0 x1 x2 x3:Value)(w:World)(hW:W<4294967296)(e0:W%256=y0)(e1:W/256%256=y1)(e2:W/65536%256=y2)(e3:W/16777216%256=y3)
  (h0:w.cell? ⟨b,i,none⟩=some x0) (h1:w.cell? ⟨b,i+1,none⟩=some x1) (h2:w.cell? ⟨b,i+2,none⟩=some x2) (h3:w.cell? ⟨b,i+3,none⟩=some x3)
  (f0:w.frozen? ⟨b,i,none⟩=false) (f1:w.frozen? ⟨b,i+1,none⟩=false) (f2:w.frozen? ⟨b,i+2,none⟩=false) (f3:w.frozen? ⟨b,i+3,none⟩=false):
  Calls Tryz.prog 156 #[.int .i64 id,.slice (some ⟨b,i,none⟩) 4 c,.int .u32 (W:Nat)] w fun e w'=>e= .returned (.tuple #[])∧Yv w b i y0 y1 y2 y3=w':=by
 have HL:=zq id w
 rw[hid]at HL
 have Vz:=Lib.hid HL
 have g0:(W:Int)%256=(y0:Int):=by omega
 have g1:(W:Int)/256%256=(y1:Int):=by omega
 have g2:(W:Int)/65536%256=(y2:Int):=by omega
 have g3:(W:Int)/16777216=(y3:Int):=by omega
 have g3':(W:Int)/16777216%256=(y3:Int):=by omega
 clear HL hid e0 e1 e2 e3
 go_enter Tryz.func156,Tryz.ntmps156
 go_wp2_with fail
 refine Vz.out.mono ?_
 rintro e w' ⟨rfl,rfl⟩
 go_wp2_with fail
 refine bodyPost_ret (v:= .tuple #[]) (by simp[results,Tryz.results156]) rfl ?_
 exact⟨rfl,rfl⟩
theorem Yw(id:Int)(hid:(id==7||id==10)=false)(b i c W y0 y1 y2 y3:Nat)(x0 x1 x2 x3:Value)(w:World)(hW:W<4294967296)(e0:W%256=y3)(e1:W/256%256=y2)(e2:W/65536%256=y1)(e3:W/16777216%256=y0)
  (h0:w.cell? ⟨b,i,none⟩=some x0) (h1:w.cell? ⟨b,i+1,none⟩=some x1) (h2:w.cell? ⟨b,i+2,none⟩=some x2) (h3:w.cell? ⟨b,i+3,none⟩=some x3)
  (f0:w.frozen? ⟨b,i,none⟩=false) (f1:w.frozen? ⟨b,i+1,none⟩=false) (f2:w.frozen? ⟨b,i+2,none⟩=false) (f3:w.frozen? ⟨b,i+3,none⟩=false):
  Calls Tryz.prog 156 #[.int .i64 id,.slice (some ⟨b,i,none⟩) 4 c,.int .u32 (W:Nat)] w fun e w'=>e= .returned (.tuple #[])∧adO w b i y0 y1 y2 y3=w':=by
 have HL:=zq id w
 rw[hid]at HL
 have Vz:=Lib.hid HL
 have g0:(W:Int)%256=(y3:Int):=by omega
 have g1:(W:Int)/256%256=(y2:Int):=by omega
 have g2:(W:Int)/65536%256=(y1:Int):=by omega
 have g3:(W:Int)/16777216=(y0:Int):=by omega
 have g3':(W:Int)/16777216%256=(y0:Int):=by omega
 clear HL hid e0 e1 e2 e3
 go_enter Tryz.func156,Tryz.ntmps156
 go_wp2_with fail
 refine Vz.out.mono ?_
 rintro e w' ⟨rfl,rfl⟩
 go_wp2_with fail
 go_end0
 exact⟨rfl,rfl⟩
def comb(back:Bool)(n p:Nat):Nat:=if back then(n+4294967296-p)%4294967296 else(n+p)%4294967296
def lZ(back:Bool):Nat:=if back then 189 else 120
theorem on_any(n p:Nat)(w:World):Calls Tryz.prog 120 #[.int .u32 (n:Nat),.int .u32 (p:Nat)] w fun e w'=>e= .returned (.int .u32 (comb false n p:Nat))∧w=w':=by
 have hc:((comb false n p:Nat):Int)=((n:Int)+(p:Int))%4294967296:=by unfold comb;simp
 have HC:=Lib.hid hc
 clear hc
 go_enter Tryz.func120,Tryz.ntmps120
 go_wp2_with fail
 go_ret
 exact⟨congrArg (fun n:Int=>Ending.returned (Value.int .u32 n)) HC.out.symm,rfl⟩
theorem OO(n p:Nat)(w:World)(hn:n<4294967296)(hp:p<4294967296):Calls Tryz.prog 189 #[.int .u32 (n:Nat),.int .u32 (p:Nat)] w fun e w'=>e= .returned (.int .u32 (comb true n p:Nat))∧w=w':=by
 have hc:((comb true n p:Nat):Int)=((n:Int)-(p:Int))%4294967296:=by unfold comb;simp;omega
 have HC:=Lib.hid hc
 clear hc
 go_enter Tryz.func189,Tryz.ntmps189
 go_wp2_with fail
 go_ret
 exact⟨congrArg (fun n:Int=>Ending.returned (Value.int .u32 n)) HC.out.symm,rfl⟩
theorem tC(back:Bool)(n p:Nat)(w:World)(hn:n<4294967296)(hp:p<4294967296):Calls Tryz.prog (lZ back) #[.int .u32 (n:Nat),.int .u32 (p:Nat)] w fun e w'=>e= .returned (.int .u32 (comb back n p:Nat))∧w=w':=by
 cases back
 ·exact on_any n p w
 ·exact OO n p w hn hp
def ext(m x:Nat):Nat:=if x%m<m/2 then x%m else x%m+4294967296-m
theorem GV(x:Int):wrap32 x=(x+2147483648)%4294967296-2147483648:=by
 unfold wrap32;rfl
theorem TQ(x:Nat)(w:World):Calls Tryz.prog 194 #[.int .u32 (x:Nat),.int .i64 23] w fun e w'=>e= .returned (.int .u32 (ext 8388608 x:Nat))∧w=w':=by
 go_enter Tryz.func194,Tryz.ntmps194
 go_wp2_with fail
 go_ret
 refine⟨congrArg (fun n:Int=>Ending.returned (Value.int .u32 n)) ?_,rfl⟩
 rw[GV];unfold ext;split<;>omega
theorem TR(x:Nat)(w:World):Calls Tryz.prog 194 #[.int .u32 (x:Nat),.int .i64 18] w fun e w'=>e= .returned (.int .u32 (ext 262144 x:Nat))∧w=w':=by
 go_enter Tryz.func194,Tryz.ntmps194
 go_wp2_with fail
 go_ret
 refine⟨congrArg (fun n:Int=>Ending.returned (Value.int .u32 n)) ?_,rfl⟩
 rw[GV];unfold ext;split<;>omega
def mix(lo hi a b:Nat):Nat:=a%2^lo+b/2^lo%2^(hi-lo)*2^lo+a/2^hi*2^hi
theorem afm(lo hi a b:Nat)(h:lo≤hi):mix lo hi a b=(a%2^lo ||| b/2^lo%2^(hi-lo)*2^lo) ||| a/2^hi*2^hi:=by
 unfold mix
 have h1:a%2^lo<2^lo:=Nat.mod_lt _ (Nat.two_pow_pos _)
 rw[DR _ _ lo h1]
 have h2:b/2^lo%2^(hi-lo)<2^(hi-lo):=Nat.mod_lt _ (Nat.two_pow_pos _)
 have h3:a%2^lo+b/2^lo%2^(hi-lo)*2^lo<2^hi:=by
  have h4:(b/2^lo%2^(hi-lo)+1)*2^lo≤2^(hi-lo)*2^lo:=Nat.mul_le_mul_right _ h2
  rw[←Nat.pow_add,show hi-lo+lo=hi from by omega,Nat.add_mul]at h4
  omega
 rw[DR _ _ hi h3]
theorem ab8(lo hi a b:Nat)(h:lo≤hi)(j:Nat):(mix lo hi a b).testBit j=if lo≤j∧j<hi then b.testBit j else a.testBit j:=by
 rw[afm _ _ _ _ h,Nat.testBit_or,Nat.testBit_or,Nat.testBit_mod_two_pow,Nat.testBit_mul_two_pow,Nat.testBit_mul_two_pow,Nat.testBit_mod_two_pow,Nat.testBit_div_two_pow,Nat.testBit_div_two_pow]
 by_cases h1:lo≤j<;>by_cases h2:j<hi
 ·have e:j-lo+lo=j:=by omega
  have e2:j-lo<hi-lo:=by omega
  simp[h1,h2,e,e2,Nat.not_lt.mpr h1,Nat.not_le.mpr h2]
 ·have e:j-hi+hi=j:=by omega
  have e2: ¬(j-lo<hi-lo):=by omega
  simp[h1,h2,e,e2,Nat.not_lt.mpr h1,Nat.not_lt.mp h2]
 ·simp[h1,h2,Nat.not_le.mp h1,Nat.not_le.mpr h2]
 ·omega
theorem Aj(lo hi a b:Nat)(h:lo≤hi)(h32:hi≤32)(ha:a<4294967296):((BitVec.ofNat 32 a &&& ~~~(BitVec.ofNat 32 ((2^(hi-lo)-1)*2^lo))) ||| (BitVec.ofNat 32 b &&& BitVec.ofNat 32 ((2^(hi-lo)-1)*2^lo))).toNat=mix lo hi a b:=by
 apply Nat.eq_of_testBit_eq
 intro j
 rw[ab8 lo hi a b h]
 rw[BitVec.testBit_toNat]
 by_cases hj:j<32
 ·simp only[BitVec.getLsbD_or,BitVec.getLsbD_and,BitVec.getLsbD_not,BitVec.getLsbD_ofNat,hj,decide_true,Bool.true_and,Nat.testBit_mul_two_pow,Nat.testBit_two_pow_sub_one]
  by_cases h1:lo≤j<;>by_cases h2:j<hi
  ·have e2:j-lo<hi-lo:=by omega
   simp[h1,h2,e2]
  ·have e2: ¬(j-lo<hi-lo):=by omega
   simp[h1,h2,e2]
  ·simp[h1]
  ·simp[h1]
 ·rw[if_neg (by omega)]
  rw[BitVec.getLsbD_of_ge _ _ (by omega)]
  rw[Nat.testBit_lt_two_pow]
  exact Nat.lt_of_lt_of_le ha (by have:=Nat.pow_le_pow_right (n:=2) (by omega) (show 32≤j by omega);omega)
theorem kL(lo hi a b m:Nat)(w:World)(h:lo≤hi)(h32:hi≤32)(ha:a<4294967296)(hb:b<4294967296)(hm:(2^(hi-lo)-1)*2^lo=m)(hm2:m<4294967296):
  Calls Tryz.prog 191 #[.int .u32 (a:Nat),.int .u32 (b:Nat),.int .u32 (m:Nat)] w fun e w'=>e= .returned (.int .u32 (mix lo hi a b:Nat))∧w=w':=by
 have:=IX (BitVec.ofNat 32 a) (BitVec.ofNat 32 b) (BitVec.ofNat 32 m) w
 rw[←hm]at this
 rw[Aj lo hi a b h h32 ha]at this
 rw[hm]at this
 simp only[BitVec.toNat_ofNat]at this
 rw[Nat.mod_eq_of_lt ha,Nat.mod_eq_of_lt hb,Nat.mod_eq_of_lt hm2]at this
 exact this
theorem IZ(x k m:Nat)(hx:x<4294967296)(hm:2^k-1=m)(hm2:m<4294967296):bits .and .u32 (x:Int) ((m:Nat):Int)=((x%2^k:Nat):Int):=by
 rw[u32_and_nat _ _ hx hm2,←hm,Nat.and_two_pow_sub_one_eq_mod]
theorem afn(x:Nat)(hx:x<4294967296):bits .and .u32 (x:Int) 2667577344=((x/2147483648*2147483648+x/16777216%32*16777216:Nat):Int):=by
 have:=u32_and_nat x 2667577344 hx (by omega)
 rw[show((2667577344:Nat):Int)=2667577344 from rfl]at this
 rw[this]
 congr 1
 have e:x/2147483648*2147483648+x/16777216%32*16777216=(x/16777216%2^5*2^24) ||| x/2^31*2^31:=by
  rw[DR _ _ 31 (by omega)];omega
 rw[e]
 apply Nat.eq_of_testBit_eq
 intro j
 have hb:(2667577344:Nat)=(2^5-1)*2^24 ||| 1*2^31:=by decide
 rw[hb,Nat.testBit_and,Nat.testBit_or,Nat.testBit_or,Nat.testBit_mul_two_pow,Nat.testBit_mul_two_pow,Nat.testBit_mul_two_pow,Nat.testBit_mul_two_pow,Nat.testBit_two_pow_sub_one,Nat.testBit_mod_two_pow,show(16777216:Nat)=2^24 from rfl,Nat.testBit_div_two_pow,Nat.testBit_div_two_pow]
 by_cases hj:j<32
 ·by_cases h1:24≤j
  ·have e:j-24+24=j:=by omega
   by_cases h2:31≤j
   ·have e2:j=31:=by omega
    subst e2
    simp
   ·have e3:Nat.testBit 1 (j-31)=true:=by rw[show j-31=0 from by omega];rfl
    simp[h1,h2,e]
    exact Bool.and_comm _ _
  ·have h2: ¬31≤j:=by omega
   simp[h1,h2]
 ·have hz:x.testBit j=false:=Nat.testBit_lt_two_pow (Nat.lt_of_lt_of_le hx (by have:=Nat.pow_le_pow_right (n:=2) (by omega) (show 32≤j by omega);omega))
  have e:j-24+24=j:=by omega
  have e2:j-31+31=j:=by omega
  rw[e,e2,hz];simp
theorem l7(back:Bool)(n p:Nat):comb back n p<4294967296:=by unfold comb;split<;>omega
theorem zu:lZ false=120:=rfl
theorem pR:lZ true=189:=rfl
def ppc(back:Bool)(W P:Nat):Nat:=if W/67108864=18∧W%4=1 then mix 2 26 W (comb back (W/4) (P/4)*4%4294967296)else W
theorem ab9(back:Bool)(W P:Nat)(w:World)(hW:W<4294967296)(hP:P<4294967296):
  Calls Tryz.prog 190 #[.int .u32 (W:Nat),.int .u32 (P:Nat),.func (.func (lZ back)) #[] #[]] w fun e w'=>e= .returned (.int .u32 (ppc back W P:Nat))∧w=w':=by
 have hand:bits .and .u32 (W:Int) 3=((W%4:Nat):Int):=IZ W 2 3 hW rfl (by omega)
 have HC:=Lib.hid (tC back (W/4) (P/4) w (by omega) (by omega))
 have hcl:=l7 back (W/4) (P/4)
 have hp:ppc back W P=if W/67108864=18∧W%4=1 then mix 2 26 W (comb back (W/4) (P/4)*4%4294967296)else W:=rfl
 generalize ppc back W P=R at*
 generalize comb back (W/4) (P/4)=C at*
 by_cases h1:W/67108864=18
 ·by_cases h2:W%4=1
  ·rw[if_pos ⟨h1,h2⟩]at hp
   have HM:=Lib.hid (kL 2 26 W (C*4%4294967296) 67108860 w (by omega) (by omega) hW (by omega) rfl (by omega))
   rw[←hp]at HM
   clear hp
   cases back<;>simp only[zu,pR]at HC ⊢
   all_goals
    go_enter Tryz.func190,Tryz.ntmps190
    go_wp2_with fail
    refine HC.out.mono ?_
    rintro e w' ⟨rfl,rfl⟩
    go_wp2_with fail
    refine HM.out.mono ?_
    rintro e w' ⟨rfl,rfl⟩
    go_wp2_with fail
    go_ret
    exact⟨rfl,rfl⟩
  ·rw[if_neg (fun h=>h2 h.2)]at hp
   subst hp
   go_enter Tryz.func190,Tryz.ntmps190
   go_wp2_with fail
   go_ret
   exact⟨rfl,rfl⟩
 ·rw[if_neg (fun h=>h1 h.1)]at hp
  subst hp
  go_enter Tryz.func190,Tryz.ntmps190
  go_wp2_with fail
  go_ret
  exact⟨rfl,rfl⟩
def arm(back:Bool)(W P:Nat):Nat:=if W/16777216=235 then mix 0 24 W (comb back W (P/4+2))else W
theorem acd(back:Bool)(W P:Nat)(w:World)(hW:W<4294967296)(hP:P<4294967296):
  Calls Tryz.prog 192 #[.int .u32 (W:Nat),.int .u32 (P:Nat),.func (.func (lZ back)) #[] #[]] w fun e w'=>e= .returned (.int .u32 (arm back W P:Nat))∧w=w':=by
 have HC:=Lib.hid (tC back W (P/4+2) w (by omega) (by omega))
 have hcl:=l7 back W (P/4+2)
 have hp:arm back W P=if W/16777216=235 then mix 0 24 W (comb back W (P/4+2))else W:=rfl
 generalize arm back W P=R at*
 generalize comb back W (P/4+2)=C at*
 by_cases h1:W/16777216=235
 ·rw[if_pos h1]at hp
  have HM:=Lib.hid (kL 0 24 W C 16777215 w (by omega) (by omega) hW (by omega) rfl (by omega))
  rw[←hp]at HM
  clear hp
  cases back<;>simp only[zu,pR]at HC ⊢
  all_goals
   go_enter Tryz.func192,Tryz.ntmps192
   go_wp2_with fail
   refine HC.out.mono ?_
   rintro e w' ⟨rfl,rfl⟩
   go_wp2_with fail
   refine HM.out.mono ?_
   rintro e w' ⟨rfl,rfl⟩
   go_wp2_with fail
   go_ret
   exact⟨rfl,rfl⟩
 ·rw[if_neg h1]at hp
  subst hp
  go_enter Tryz.func192,Tryz.ntmps192
  go_wp2_with fail
  go_ret
  exact⟨rfl,rfl⟩
def DT(back:Bool)(W P:Nat):Nat:=if W/4194304=256∨W/4194304=511 then mix 0 30 1073741824 (ext 8388608 (comb back W (P/4)))else W
theorem Yx(m x:Nat)(h:0<m)(h2:m≤4294967296):ext m x<4294967296:=by unfold ext;have:=Nat.mod_lt x h;split<;>omega
theorem TS(back:Bool)(W P:Nat)(w:World)(hW:W<4294967296)(hP:P<4294967296):
  Calls Tryz.prog 193 #[.int .u32 (W:Nat),.int .u32 (P:Nat),.func (.func (lZ back)) #[] #[]] w fun e w'=>e= .returned (.int .u32 (DT back W P:Nat))∧w=w':=by
 have HC:=Lib.hid (tC back W (P/4) w (by omega) (by omega))
 have hcl:=l7 back W (P/4)
 have hp:DT back W P=if W/4194304=256∨W/4194304=511 then mix 0 30 1073741824 (ext 8388608 (comb back W (P/4)))else W:=rfl
 generalize DT back W P=R at*
 generalize comb back W (P/4)=C at*
 by_cases h1:W/4194304=256∨W/4194304=511
 ·rw[if_pos h1]at hp
  have HE:=Lib.hid (TQ C w)
  have hel:=Yx 8388608 C (by omega) (by omega)
  generalize ext 8388608 C=E at*
  have HM:=Lib.hid (kL 0 30 1073741824 E 1073741823 w (by omega) (by omega) (by omega) (by omega) rfl (by omega))
  rw[←hp]at HM
  clear hp
  have h2:((W:Int)/4194304 !=256)=false∨(((W:Int)/4194304 !=256)=true∧((W:Int)/4194304 !=511)=false):=by
   rcases h1 with h1 | h1
   ·have:(W:Int)/4194304=256:=by omega
    simp[this]
   ·have:(W:Int)/4194304=511:=by omega
    simp[this]
  clear h1
  rcases h2 with h2 | ⟨h2,h3⟩
  all_goals
   cases back<;>simp only[zu,pR]at HC ⊢
   all_goals
    go_enter Tryz.func193,Tryz.ntmps193
    go_wp2_with fail
    refine HC.out.mono ?_
    rintro e w' ⟨rfl,rfl⟩
    go_wp2_with fail
    refine HE.out.mono ?_
    rintro e w' ⟨rfl,rfl⟩
    go_wp2_with fail
    refine HM.out.mono ?_
    rintro e w' ⟨rfl,rfl⟩
    go_wp2_with fail
    go_ret
    exact⟨rfl,rfl⟩
 ·rw[if_neg h1]at hp
  have hp':=hp.symm
  subst hp'
  have h2:((W:Int)/4194304 !=256)=true:=by simp;omega
  have h3:((W:Int)/4194304 !=511)=true:=by simp;omega
  clear h1
  go_enter Tryz.func193,Tryz.ntmps193
  go_wp2_with fail
  go_ret
  exact⟨rfl,rfl⟩
def aZ(W:Nat):Nat:=W/32%524288*4+W/536870912%4
def DU(W E:Nat):Nat:=mix 5 24 (mix 29 31 W (E*536870912%4294967296)) (E/4*32%4294967296)
def page(back:Bool)(W P:Nat):Nat:=if(W/2147483648=1∧W/16777216%32=16)∧(aZ W+131072)%2097152<262144 then DU W (ext 262144 (comb back (aZ W) (P/4096)))else W
theorem wF(lo hi a b:Nat)(h:lo≤hi)(h32:hi≤32)(ha:a<4294967296):mix lo hi a b<4294967296:=by
 rw[←Aj lo hi a b h h32 ha];exact BitVec.isLt _
theorem Yy(back:Bool)(W P:Nat)(w:World)(hW:W<4294967296)(hP:P<4294967296):
  Calls Tryz.prog 196 #[.int .u32 (W:Nat),.int .u32 (P:Nat),.func (.func (lZ back)) #[] #[]] w fun e w'=>e= .returned (.int .u32 (page back W P:Nat))∧w=w':=by
 have e1:bits .and .u32 ((W:Int)/32) 524287=((W/32%524288:Nat):Int):=IZ (W/32) 19 524287 (by omega) rfl (by omega)
 have e2:bits .and .u32 ((W:Int)/536870912) 3=((W/536870912%4:Nat):Int):=IZ (W/536870912) 2 3 (by omega) rfl (by omega)
 have e3:bits .or .u32 (((W/32%524288:Nat):Int)*4) ((W/536870912%4:Nat):Int)=((aZ W:Nat):Int):=by
  have:=u32_or_nat (W/32%524288*4) (W/536870912%4) (by omega) (by omega)
  rw[Nat.or_comm,DR _ _ 2 (by omega)]at this
  rw[show(((W/32%524288:Nat):Int)*4)=((W/32%524288*4:Nat):Int)from rfl,this]
  unfold aZ;omega
 have hN:aZ W<2097152:=by unfold aZ;omega
 have hA:W/32%524288<524288:=by omega
 have e4:=afn W hW
 have hG:W/2147483648*2147483648+W/16777216%32*16777216=2415919104↔(W/2147483648=1∧W/16777216%32=16):=by omega
 have hp:page back W P=if(W/2147483648=1∧W/16777216%32=16)∧(aZ W+131072)%2097152<262144 then DU W (ext 262144 (comb back (aZ W) (P/4096)))else W:=rfl
 simp only[←hG]at hp
 clear hG
 generalize W/2147483648*2147483648+W/16777216%32*16777216=G at*
 have HC:=Lib.hid (tC back (aZ W) (P/4096) w (by omega) (by omega))
 have hcl:=l7 back (aZ W) (P/4096)
 generalize page back W P=R at*
 generalize comb back (aZ W) (P/4096)=C at*
 generalize aZ W=N at*
 generalize W/32%524288=A at*
 generalize W/536870912%4=B at*
 by_cases h1:G=2415919104
 ·by_cases h2:(N+131072)%2097152<262144
  ·rw[if_pos ⟨h1,h2⟩]at hp
   have g1:((G:Int) !=2415919104)=false:=by simp;omega
   have g2:decide (262144≤((N:Int)+131072)%2097152)=false:=by simp;omega
   have HE:=Lib.hid (TR C w)
   have hel:=Yx 262144 C (by omega) (by omega)
   generalize ext 262144 C=E at*
   unfold DU at hp
   have HM:=Lib.hid (kL 29 31 W (E*536870912%4294967296) 1610612736 w (by omega) (by omega) hW (by omega) rfl (by omega))
   have hml:=wF 29 31 W (E*536870912%4294967296) (by omega) (by omega) hW
   generalize mix 29 31 W (E*536870912%4294967296)=M at*
   have HN:=Lib.hid (kL 5 24 M (E/4*32%4294967296) 16777184 w (by omega) (by omega) hml (by omega) rfl (by omega))
   rw[←hp]at HN
   clear hp h1 h2
   cases back<;>simp only[zu,pR]at HC ⊢
   all_goals
    go_enter Tryz.func196,Tryz.ntmps196
    go_wp2_with fail
    refine HC.out.mono ?_
    rintro e w' ⟨rfl,rfl⟩
    go_wp2_with fail
    refine HE.out.mono ?_
    rintro e w' ⟨rfl,rfl⟩
    go_wp2_with fail
    refine HM.out.mono ?_
    rintro e w' ⟨rfl,rfl⟩
    go_wp2_with fail
    refine HN.out.mono ?_
    rintro e w' ⟨rfl,rfl⟩
    go_wp2_with fail
    go_ret
    exact⟨rfl,rfl⟩
  ·rw[if_neg (fun h=>h2 h.2)]at hp
   have hp':=hp.symm
   subst hp'
   have g1:((G:Int) !=2415919104)=false:=by simp;omega
   have g2:decide (262144≤((N:Int)+131072)%2097152)=true:=by simp;omega
   clear h1 h2
   go_enter Tryz.func196,Tryz.ntmps196
   go_wp2_with fail
   go_ret
   exact⟨rfl,rfl⟩
 ·rw[if_neg (fun h=>h1 h.1)]at hp
  have hp':=hp.symm
  subst hp'
  have g1:((G:Int) !=2415919104)=true:=by simp;omega
  clear h1
  go_enter Tryz.func196,Tryz.ntmps196
  go_wp2_with fail
  go_ret
  exact⟨rfl,rfl⟩
def DW(back:Bool)(W P:Nat):Nat:=if W/67108864=37 then mix 0 26 W (comb back W (P/4))else page back W P
theorem TT(back:Bool)(W P:Nat)(w:World)(hW:W<4294967296)(hP:P<4294967296):
  Calls Tryz.prog 195 #[.int .u32 (W:Nat),.int .u32 (P:Nat),.func (.func (lZ back)) #[] #[]] w fun e w'=>e= .returned (.int .u32 (DW back W P:Nat))∧w=w':=by
 have HC:=Lib.hid (tC back W (P/4) w (by omega) (by omega))
 have hcl:=l7 back W (P/4)
 have hp:DW back W P=if W/67108864=37 then mix 0 26 W (comb back W (P/4))else page back W P:=rfl
 have HP:=Lib.hid (Yy back W P w hW hP)
 generalize DW back W P=R at*
 generalize comb back W (P/4)=C at*
 by_cases h1:W/67108864=37
 ·rw[if_pos h1]at hp
  have HM:=Lib.hid (kL 0 26 W C 67108863 w (by omega) (by omega) hW (by omega) rfl (by omega))
  rw[←hp]at HM
  clear hp
  cases back<;>simp only[zu,pR]at HC ⊢
  all_goals
   go_enter Tryz.func195,Tryz.ntmps195
   go_wp2_with fail
   refine HC.out.mono ?_
   rintro e w' ⟨rfl,rfl⟩
   go_wp2_with fail
   refine HM.out.mono ?_
   rintro e w' ⟨rfl,rfl⟩
   go_wp2_with fail
   go_ret
   exact⟨rfl,rfl⟩
 ·rw[if_neg h1]at hp
  rw[←hp]at HP
  clear hp
  go_enter Tryz.func195,Tryz.ntmps195
  go_wp2_with fail
  refine HP.out.mono ?_
  rintro e w' ⟨rfl,rfl⟩
  go_wp2_with fail
  go_ret
  exact⟨rfl,rfl⟩
def bytesOf(low:Bool)(W:Nat):List UInt8:=if low then [UInt8.ofNat (W%256),UInt8.ofNat (W/256%256),UInt8.ofNat (W/65536%256),UInt8.ofNat (W/16777216%256)]else [UInt8.ofNat (W/16777216%256),UInt8.ofNat (W/65536%256),UInt8.ofNat (W/256%256),UInt8.ofNat (W%256)]
theorem bytesOf_length(low:Bool)(W:Nat):(bytesOf low W).length=4:=by unfold bytesOf;cases low<;>rfl
theorem lU(n:Nat):B8 (UInt8.ofNat (n%256))= .int .u8 ((n%256:Nat):Int):=by
 have:n%256<256:=by omega
 simp[B8,Nat.mod_eq_of_lt this]
theorem Yz(R t:List Value)(a b c d x0 x1 x2 x3:Value)(i:Nat)(h:R.length=i):((((R++a::b::c::d::t).set i x0).set (i+1) x1).set (i+2) x2).set (i+3) x3=R++x0::x1::x2::x3::t:=by
 subst h;simp
theorem TU(R t:List Value)(a b c d x0 x1 x2 x3:Value)(i:Nat)(h:R.length=i):((((R++a::b::c::d::t).set (i+3) x3).set (i+2) x2).set (i+1) x1).set i x0=R++x0::x1::x2::x3::t:=by
 subst h;simp
def Put(base:Nat)(w:World)(v:Value)(l:List UInt8)(e:Ending)(w':World):Prop:=e= .returned (.tuple #[])∧Own base w' v l∧Below base w w'
theorem ace(id:Int)(low:Bool)(hid:(id==7||id==10)=low)(base g n cap c i W:Nat)(R t:List UInt8)(x0 x1 x2 x3:UInt8)(w:World)(hW:W<4294967296)(hi:R.length=i)(hg:base≤g)
  (hn:n=(R++x0::x1::x2::x3::t).length) (ho:w.ownsRow base 5 1 (.slice (some ⟨g,0,none⟩) n cap) n ((R++x0::x1::x2::x3::t).map B8)):
  Calls Tryz.prog 156 #[.int .i64 id,.slice (some ⟨g,i,none⟩) 4 c,.int .u32 (W:Nat)] w (Put base w (.slice (some ⟨g,0,none⟩) n cap) (R++bytesOf low W++t)):=by
 have hlen:(R++x0::x1::x2::x3::t).length=R.length+(t.length+4):=by simp
 have hc: ∀j,j<4→ ∃x,w.cell? ⟨g,i+j,none⟩=some x:=by
  intro j hj
  have h:=ho.cellAt (i+j) (by omega)
  rw[List.getElem?_eq_getElem (by simp;omega)]at h
  exact⟨_,h⟩
 have hf: ∀j,w.frozen? ⟨g,i+j,none⟩=false:=fun j=>ho.frozenAt _
 obtain⟨y0,h0⟩:=hc 0 (by omega)
 obtain⟨y1,h1⟩:=hc 1 (by omega)
 obtain⟨y2,h2⟩:=hc 2 (by omega)
 obtain⟨y3,h3⟩:=hc 3 (by omega)
 have f0:=hf 0
 have f1:=hf 1
 have f2:=hf 2
 have f3:=hf 3
 rw[Nat.add_zero]at h0 f0
 have hlast:n=(R++bytesOf low W++t).length:=by rw[hn,hlen];simp[bytesOf_length];omega
 cases low with
 | true=>
  refine(ab7 id hid g i c W _ _ _ _ y0 y1 y2 y3 w hW rfl rfl rfl rfl h0 h1 h2 h3 f0 f1 f2 f3).mono ?_
  rintro e w' ⟨rfl,rfl⟩
  refine⟨rfl,?_,?_⟩
  ·unfold Own
   rw[←hlast]
   unfold Yv
   have s1:=(ho.stored i (B8 (UInt8.ofNat (W%256)))).1
   have s2:=(s1.stored (i+1) (B8 (UInt8.ofNat (W/256%256)))).1
   have s3:=(s2.stored (i+2) (B8 (UInt8.ofNat (W/65536%256)))).1
   have s4:=(s3.stored (i+3) (B8 (UInt8.ofNat (W/16777216%256)))).1
   rw[List.map_append,List.map_cons,List.map_cons,List.map_cons,List.map_cons,Yz _ _ _ _ _ _ _ _ _ _ _ (by simpa using hi)]at s4
   rw[lU W,lU (W/256),lU (W/65536),lU (W/16777216)]at s4
   have e:(R++bytesOf true W++t).map B8=R.map B8++B8 (UInt8.ofNat (W%256))::B8 (UInt8.ofNat (W/256%256))::B8 (UInt8.ofNat (W/65536%256))::B8 (UInt8.ofNat (W/16777216%256))::t.map B8:=by simp[bytesOf]
   rw[e,lU W,lU (W/256),lU (W/65536),lU (W/16777216)]
   exact s4
  ·exact((((Below.refl base w).setCell hg _).setCell hg _).setCell hg _).setCell hg _
 | false=>
  refine(Yw id hid g i c W _ _ _ _ y0 y1 y2 y3 w hW rfl rfl rfl rfl h0 h1 h2 h3 f0 f1 f2 f3).mono ?_
  rintro e w' ⟨rfl,rfl⟩
  refine⟨rfl,?_,?_⟩
  ·unfold Own
   rw[←hlast]
   unfold adO
   have s1:=(ho.stored (i+3) (B8 (UInt8.ofNat (W%256)))).1
   have s2:=(s1.stored (i+2) (B8 (UInt8.ofNat (W/256%256)))).1
   have s3:=(s2.stored (i+1) (B8 (UInt8.ofNat (W/65536%256)))).1
   have s4:=(s3.stored i (B8 (UInt8.ofNat (W/16777216%256)))).1
   rw[List.map_append,List.map_cons,List.map_cons,List.map_cons,List.map_cons,TU _ _ _ _ _ _ _ _ _ _ _ (by simpa using hi)]at s4
   rw[lU W,lU (W/256),lU (W/65536),lU (W/16777216)]at s4
   have e:(R++bytesOf false W++t).map B8=R.map B8++B8 (UInt8.ofNat (W/16777216%256))::B8 (UInt8.ofNat (W/65536%256))::B8 (UInt8.ofNat (W/256%256))::B8 (UInt8.ofNat (W%256))::t.map B8:=by simp[bytesOf]
   rw[e,lU W,lU (W/256),lU (W/65536),lU (W/16777216)]
   exact s4
  ·exact((((Below.refl base w).setCell hg _).setCell hg _).setCell hg _).setCell hg _
def grp(low:Bool)(cv:Nat→Nat→Nat)(start:Nat)(l:List UInt8)(k:Nat):List UInt8:=
 match l.drop (4*k)with
 | a::b::c::d::_=>bytesOf low (cv (word low a b c d) ((start+4*k)%4294967296))
 | _=>[]
def pre(low:Bool)(cv:Nat→Nat→Nat)(start:Nat)(l:List UInt8):Nat→List UInt8
 | 0=>[]
 | k+1=>pre low cv start l k++grp low cv start l k
def coded(low:Bool)(cv:Nat→Nat→Nat)(start:Nat)(l:List UInt8):List UInt8:=pre low cv start l (l.length/4)++l.drop (4*(l.length/4))
theorem zx(l:List UInt8)(i:Nat)(h:i+4≤l.length): ∃a b c d t,l.drop i=a::b::c::d::t:=by
 have hl:(l.drop i).length=l.length-i:=List.length_drop ..
 match hd:l.drop i with
 | a::b::c::d::t=>exact⟨a,b,c,d,t,rfl⟩
 | []=>rw[hd]at hl;simp at hl;omega
 | [_]=>rw[hd]at hl;simp at hl;omega
 | [_,_]=>rw[hd]at hl;simp at hl;omega
 | [_,_,_]=>rw[hd]at hl;simp at hl;omega
theorem qH(low:Bool)(cv:Nat→Nat→Nat)(start:Nat)(l:List UInt8)(k:Nat)(h:4*k≤l.length):(pre low cv start l k).length=4*k:=by
 induction k with
 | zero=>rfl
 | succ k ih=>
  obtain⟨a,b,c,d,t,e⟩:=zx l (4*k) (by omega)
  simp only[pre,grp,e,List.length_append,bytesOf_length,ih (by omega)];omega
def Gives(w:World)(l:List UInt8)(err:Int)(e:Ending)(w':World):Prop:= ∃v,e= .returned (.tuple #[v,.int .i64 err])∧Own w.heap.size w' v l∧Below w.heap.size w w'
theorem aiS:(Tryz.prog.info? 227).map (fun i=>(i.zero,i.size))=some (some .nilFunc,1):=by kernel_rfl
theorem word_lt(low:Bool)(a b c d:UInt8):word low a b c d<4294967296:=by
 have h1:=a.toNat_lt;have h2:=b.toNat_lt;have h3:=c.toNat_lt;have h4:=d.toNat_lt
 unfold word;split<;>omega
theorem Lh{base:Nat}{w:World}{v:Value}{l:List UInt8}{n:Nat}(h:Own base w v l)(hn:n=l.length):w.ownsRow base 5 1 v n (l.map B8):=by subst hn;exact h
theorem xY(id:Int)(low:Bool)(F L q:Nat)(cv:Nat→Nat→Nat)(hid:(id==7||id==10)=low)(hlk:Instr.findNow (.int .i64) (.int .i64 id) ents.toList 0=some (some (q,.func (.func F) #[] #[])))
  (hF: ∀(args:Array Value) (w:World),(callFunc F args).run Tryz.prog w= .ok (.enter F args) w)
  (hcv: ∀(W P:Nat) (w:World),W<4294967296→P<4294967296→Calls Tryz.prog F #[.int .u32 (W:Nat),.int .u32 (P:Nat),.func (.func L) #[] #[]] w fun e w'=>e= .returned (.int .u32 (cv W P:Nat))∧w=w')
  (hlt: ∀W P,W<4294967296→cv W P<4294967296)
  (start:Nat) (hst:start<4294967296) (hs4:start%4=0) (A:Option Addr) (l:List UInt8) (c:Nat) (w:World) (hB:Bytes w A l) (hm:l.length≤140737488355328):
  Calls Tryz.prog 119 #[.int .i64 id,.int .u32 (start:Nat),.slice A l.length c,.func (.func L) #[] #[]] w (Gives w (coded low cv start l) 0):=by
 have HF:=Lib.hid hlk
 have HFN:=Lib.hid hF
 have HCV:=Lib.hid hcv
 have Fa:=Lib.hid hlt
 have HID:=Lib.hid hid
 have hz:=(zero_of_info aiS).1
 have HFA:=Lib.hid (Le w)
 have hs':((start:Int)%4 !=0)=false:=by simp;omega
 clear hlk hF hcv hlt hid
 go_enter Tryz.func119,Tryz.ntmps119
 go_wp2_with fail
 refine HFA.out.mono ?_
 rintro e w1 ⟨r,rfl,hr,hrl,hb⟩
 have hl:=Yu w1 r id hr _ HF.out .nilFunc (hz w1)
 clear hz hr
 simp only[Option.map_some,Option.getD_some,Option.isSome_some]at hl
 have hon:Own w.heap.size w1 (.slice none 0 0) []:=Own.nil _ _
 have hfit:([]:List UInt8).length+l.length≤140737488355328:=by simpa using hm
 have hwb:=hb.size
 go_wp2_with (at_builtin;refine ay rfl (.const (.slice none 0 0)) (.tmp 28) rfl w.heap.size _ (.slice none 0 0) [] rfl hon A l c rfl (hB.below hb) hfit hwb ?_;intro v1 w2 ho1 hg1)
 have hb2:Below w.heap.size w w2:=below_grown hb hg1 hwb (by simp[Value.ownBlock])
 rw[List.nil_append]at ho1
 obtain⟨A2,c2,rfl,hlc,hcm,_⟩:=ho1.read
 clear hon hfit hl hwb hb hg1 hs' hrl
 go_loopw [13] (fun i wr=> ∃k:Nat,4*k≤l.length∧i= .int .i64 (4*k:Nat)∧Own w.heap.size wr (.slice A2 l.length c2) (pre low cv start l k++l.drop (4*k))∧Below w.heap.size w wr) (fun i _=>l.length-(intOf i).toNat)
 case atStart=>exact⟨0,by omega,rfl,by simpa [pre]using ho1,hb2⟩
 case round=>
  clear ho1 hb2
  obtain⟨k,hk,rfl,hown,hb⟩:=hrel
  by_cases hlt:4*k+4≤l.length
  ·obtain⟨a,b,c,d,t,e⟩:=zx l (4*k) hlt
   have hpl:=qH low cv start l k hk
   have amY:Hid (pre low cv start l (k+1)++l.drop (4*(k+1))=pre low cv start l k++bytesOf low (cv (word low a b c d) ((start+4*k)%4294967296))++t):=by
    apply Lib.hid
    have h2:l.drop (4*(k+1))=t:=by
     rw[show 4*(k+1)=4*k+4 by omega,←List.drop_drop,e];rfl
    rw[h2];simp only[pre,grp,e]
   rw[e]at hown
   have hll:l.length=(pre low cv start l k++a::b::c::d::t).length:=by
    have:=congrArg List.length e
    simp at this
    simp[hpl];omega
   generalize pre low cv start l k=R at*
   have how:=Lh hown hll
   obtain⟨g,cap,hgc,hgb,amZ⟩:=World.ownsRow.form how (by omega)
   injection hgc with am0 _ am1
   subst am0;subst am1
   have hc: ∀j (hj:j<4),wr.cell? ⟨g,4*k+j,none⟩=some (B8 ([a,b,c,d][j])):=by
    intro j hj
    rw[how.cellAt (4*k+j) (by omega),List.getElem?_map,List.getElem?_append_right (by omega),hpl]
    rw[show 4*k+j-4*k=j by omega]
    match j,hj with
    | 0,_=>rfl
    | 1,_=>rfl
    | 2,_=>rfl
    | 3,_=>rfl
   have h0:=hc 0 (by omega)
   have h1:=hc 1 (by omega)
   have h2:=hc 2 (by omega)
   have h3:=hc 3 (by omega)
   rw[Nat.add_zero]at h0
   simp only[List.getElem_cons_zero,List.getElem_cons_succ]at h0 h1 h2 h3
   have HG:=Lib.hid (TP id g (4*k) (c2-4*k) a b c d wr h0 h1 h2 h3)
   rw[HID.out]at HG
   have hwl:=word_lt low a b c d
   have hcl:=Fa.out (word low a b c d) ((start+4*k)%4294967296) hwl
   have HC:=Lib.hid (fun w'=>HCV.out (word low a b c d) ((start+4*k)%4294967296) w' hwl (by omega))
   generalize word low a b c d=W at*
   generalize cv W ((start+4*k)%4294967296)=V at*
   have hH:=HFN.out
   have k0: ¬c2=4*k:=by omega
   clear hc h0 h1 h2 h3 e
   have Nc:=Lib.hid hpl
   have Vz:=Lib.hid hll
   clear hpl hll
   go_wp2_with fail
   ((with_reducible refine HG.out.mono ?_);rintro e w3 ⟨rfl,hb3⟩)
   have aiU:w3.ownsRow w.heap.size 5 1 (.slice (some ⟨g,0,none⟩) l.length c2) l.length ((R++a::b::c::d::t).map B8):=Lh (hown.below hb3) Vz.out
   have hpl:((start:Int)+4*(k:Int)%4294967296)%4294967296=(((start+4*k)%4294967296:Nat):Int):=by omega
   have HPU:=Lib.hid (ace id low HID.out w.heap.size g l.length c2 (c2-4*k) (4*k) V R t a b c d w3 hcl Nc.out hgb Vz.out aiU)
   have hbw:=hb.trans (hb3.mono hb.size)
   generalize(start+4*k)%4294967296=PL at*
   clear how aiU hb3 hown hb
   go_wp2_with fail
   refine(HC.out w3).mono ?_
   rintro e w' ⟨rfl,rfl⟩
   go_wp2_with fail
   refine HPU.out.mono ?_
   rintro e w4 ⟨rfl,fE,hb4⟩
   go_wp2_with fail
   go_roundw
   case rel=>exact⟨k+1,by omega,by go_num,by rw[amY.out];exact fE,hbw.trans hb4⟩
   case measure=>simp[intOf];omega
  ·have hkk:l.length/4=k:=by omega
   have HCD:Hid (pre low cv start l k++l.drop (4*k)=coded low cv start l):=by
    apply Lib.hid;unfold coded;rw[hkk]
   clear hkk
   go_wp2_with fail
   go_ret2
   exact⟨_,rfl,by rw[←HCD.out];exact hown,hb⟩
def tld(back:Bool)(n p m:Nat):Nat:=if back then(((n:Int)-(p:Int))%(m:Int)).toNat else(n+p)%m
theorem oO(back:Bool)(n p m:Nat)(hm:0<m):tld back n p m<m:=by
 unfold tld
 split
 ·have:=Int.emod_lt_of_pos ((n:Int)-p) (show(0:Int)<m by omega)
  omega
 ·exact Nat.mod_lt _ hm
def DX(n m all:Nat):Nat:=if n≥m/2 then n+all-m else n
def zy(back:Bool)(W P:Nat):Nat:=if W/67108864=18∧W%4=1 then 1207959552+4*tld back (W/4%16777216) (P/4) 16777216+1 else W
def zA(back:Bool)(W P:Nat):Nat:=if W/16777216=235 then 3942645760+tld back (W%16777216) (P/4+2) 16777216 else W
def kM(back:Bool)(W P:Nat):Nat:=if W/4194304=256∨W/4194304=511 then 1073741824+DX (tld back (W%8388608) (P/4) 8388608) 8388608 1073741824 else W
def iy(W m:Nat):Nat:=2147483648+m%4*536870912+268435456+m/4*32+W%32
def jw(back:Bool)(W P:Nat):Nat:=
 if W/67108864=37 then 2483027968+tld back (W%67108864) (P/4) 67108864
 else if(W/2147483648=1∧W/16777216%32=16)∧(aZ W+131072)%2097152<262144 then iy W (DX (tld back (aZ W%262144) (P/4096) 262144) 262144 2097152)else W
theorem OQ(n m all:Nat)(h:n<m)(h2:m≤all):DX n m all<all:=by unfold DX;split<;>omega
end Go.Proofs.YtgfpocdiojifoaaGreatDoor
