import Derived.Test.YtgfpocdiojifoaaGreatDoorZ28
namespace Go.Proofs.YtgfpocdiojifoaaGreatDoor
set_option maxRecDepth 100000
set_option maxHeartbeats 8000000
open Go.RowKit
theorem tH(back:Bool)(n p k:Nat)(hn:n<4294967296)(hp:p<4294967296)(hk:k≤32):tld back (n%2^k) p (2^k)=comb back n p%2^k:=by
 have hd:(4294967296:Nat)=2^k*2^(32-k):=by rw[←Nat.pow_add,show k+(32-k)=32 by omega]
 unfold tld comb
 cases back with
 | false=>
  simp only[Bool.false_eq_true,if_false]
  rw[hd,Nat.mod_mul_right_mod,Nat.mod_add_mod]
 | true=>
  simp only[if_true]
  have e:(n+4294967296-p:Nat)%4294967296%2^k=(n+4294967296-p:Nat)%2^k:=by
   generalize n+4294967296-p=x
   rw[hd,Nat.mod_mul_right_mod]
  rw[e]
  have h1:(((n+4294967296-p)%2^k:Nat):Int)=((n:Int)-p)%((2^k:Nat):Int):=by
   rw[Int.natCast_emod]
   have:((n+4294967296-p:Nat):Int)=((n:Int)-p)+((2^k:Nat):Int)*((2^(32-k):Nat):Int):=by
    rw[←Int.natCast_mul,←hd];omega
   rw[this,Int.add_mul_emod_self_left]
  have h2:(((n%2^k:Nat):Int)-p)%((2^k:Nat):Int)=((n:Int)-p)%((2^k:Nat):Int):=by
   rw[Int.natCast_emod,Int.emod_sub_emod]
  rw[h2,←h1,Int.toNat_natCast]
theorem afp(back:Bool)(W P:Nat)(hW:W<4294967296)(hP:P<4294967296):ppc back W P=zy back W P:=by
 unfold ppc zy
 split
 ·have h:=tH back (W/4) (P/4) 24 (by omega) (by omega) (by omega)
  have hl:=l7 back (W/4) (P/4)
  simp only[mix]
  generalize comb back (W/4) (P/4)=C at*
  rw[show(16777216:Nat)=2^24 from rfl,h]
  simp only[Nat.reducePow,Nat.reduceSub]
  omega
 ·rfl
theorem afq(back:Bool)(W P:Nat)(hW:W<4294967296)(hP:P<4294967296):arm back W P=zA back W P:=by
 unfold arm zA
 split
 ·have h:=tH back W (P/4+2) 24 (by omega) (by omega) (by omega)
  have hl:=l7 back W (P/4+2)
  simp only[mix]
  generalize comb back W (P/4+2)=C at*
  rw[show W%16777216=W%2^24 from rfl,show tld back (W%2^24) (P/4+2) 16777216=tld back (W%2^24) (P/4+2) (2^24)from rfl,h]
  simp only[Nat.reducePow,Nat.reduceSub]
  omega
 ·rfl
theorem YA(back:Bool)(W P:Nat)(hW:W<4294967296)(hP:P<4294967296):DT back W P=kM back W P:=by
 unfold DT kM
 split
 ·have h:=tH back W (P/4) 23 (by omega) (by omega) (by omega)
  have hl:=l7 back W (P/4)
  simp only[mix]
  generalize comb back W (P/4)=C at*
  rw[show W%8388608=W%2^23 from rfl,show tld back (W%2^23) (P/4) 8388608=tld back (W%2^23) (P/4) (2^23)from rfl,h]
  unfold ext DX
  simp only[Nat.reducePow,Nat.reduceSub,Nat.reduceDiv]
  split<;>split<;>omega
 ·rfl
theorem acf(x:Nat):ext 262144 x%2097152=DX (x%262144) 262144 2097152:=by
 unfold ext DX;split<;>split<;>omega
theorem TV(W E:Nat)(h1:W/2147483648=1)(h2:W/16777216%32=16):DU W E=iy W (E%2097152):=by
 unfold DU iy
 simp only[mix,Nat.reducePow,Nat.reduceSub]
 omega
theorem YB(back:Bool)(W P:Nat)(hW:W<4294967296)(hP:P<4294967296):DW back W P=jw back W P:=by
 unfold DW jw page
 split
 ·have h:=tH back W (P/4) 26 (by omega) (by omega) (by omega)
  have hl:=l7 back W (P/4)
  simp only[mix]
  generalize comb back W (P/4)=C at*
  rw[show W%67108864=W%2^26 from rfl,show tld back (W%2^26) (P/4) 67108864=tld back (W%2^26) (P/4) (2^26)from rfl,h]
  simp only[Nat.reducePow,Nat.reduceSub]
  omega
 ·split
  ·rename_i h
   have hN:aZ W<2097152:=by unfold aZ;omega
   have ht:=tH back (aZ W) (P/4096) 18 (by omega) (by omega) (by omega)
   rw[TV W _ h.1.1 h.1.2,acf]
   rw[show aZ W%262144=aZ W%2^18 from rfl,show tld back (aZ W%2^18) (P/4096) 262144=tld back (aZ W%2^18) (P/4096) (2^18)from rfl,ht]
  ·rfl
theorem tJ(back:Bool)(n p m:Nat)(hn:n<m):tld (!back) (tld back n p m) p m=n:=by
 unfold tld
 have hm:(0:Int)<m:=by omega
 cases back with
 | false=>
  simp only[Bool.not_false,if_true,Bool.false_eq_true,if_false]
  rw[Int.natCast_emod,Int.emod_sub_emod]
  have e:((n+p:Nat):Int)-(p:Int)=n:=by omega
  rw[e,Int.emod_eq_of_lt (by omega) (by omega)];simp
 | true=>
  simp only[Bool.not_true,if_true,Bool.false_eq_true,if_false]
  have h1:=Int.emod_nonneg ((n:Int)-p) (show(m:Int)≠0 by omega)
  have h2:((((((n:Int)-p)%m).toNat+p)%m:Nat):Int)=n:=by
   rw[Int.natCast_emod,Int.natCast_add,Int.toNat_of_nonneg h1,Int.emod_add_emod,Int.sub_add_cancel,Int.emod_eq_of_lt (by omega) (by omega)]
  omega
theorem TW(back:Bool)(W P:Nat):zy (!back) (zy back W P) P=W:=by
 by_cases h:W/67108864=18∧W%4=1
 ·have hl:=oO back (W/4%16777216) (P/4) 16777216 (by omega)
  have hb:=tJ back (W/4%16777216) (P/4) 16777216 (by omega)
  have e:zy back W P=1207959552+4*tld back (W/4%16777216) (P/4) 16777216+1:=by unfold zy;rw[if_pos h]
  rw[e]
  generalize tld back (W/4%16777216) (P/4) 16777216=T at*
  unfold zy
  rw[if_pos (by omega),show(1207959552+4*T+1)/4%16777216=T by omega,hb]
  omega
 ·have e:zy back W P=W:=by unfold zy;rw[if_neg h]
  rw[e];unfold zy;rw[if_neg h]
theorem TY(back:Bool)(W P:Nat):zA (!back) (zA back W P) P=W:=by
 by_cases h:W/16777216=235
 ·have hl:=oO back (W%16777216) (P/4+2) 16777216 (by omega)
  have hb:=tJ back (W%16777216) (P/4+2) 16777216 (by omega)
  have e:zA back W P=3942645760+tld back (W%16777216) (P/4+2) 16777216:=by unfold zA;rw[if_pos h]
  rw[e]
  generalize tld back (W%16777216) (P/4+2) 16777216=T at*
  unfold zA
  rw[if_pos (by omega),show(3942645760+T)%16777216=T by omega,hb]
  omega
 ·have e:zA back W P=W:=by unfold zA;rw[if_neg h]
  rw[e];unfold zA;rw[if_neg h]
theorem Lj(back:Bool)(W P:Nat)(hW:W<4294967296):kM (!back) (kM back W P) P=W:=by
 by_cases h:W/4194304=256∨W/4194304=511
 ·have hl:=oO back (W%8388608) (P/4) 8388608 (by omega)
  have hb:=tJ back (W%8388608) (P/4) 8388608 (by omega)
  have e:kM back W P=1073741824+DX (tld back (W%8388608) (P/4) 8388608) 8388608 1073741824:=by unfold kM;rw[if_pos h]
  rw[e]
  generalize tld back (W%8388608) (P/4) 8388608=T at*
  have hs:DX T 8388608 1073741824=if T≥4194304 then T+1065353216 else T:=by unfold DX;split<;>simp
  have h2:(1073741824+DX T 8388608 1073741824)/4194304=256∨(1073741824+DX T 8388608 1073741824)/4194304=511:=by
   rw[hs];split<;>omega
  have h3:(1073741824+DX T 8388608 1073741824)%8388608=T:=by rw[hs];split<;>omega
  unfold kM
  rw[if_pos h2,h3,hb]
  unfold DX
  split<;>omega
 ·have e:kM back W P=W:=by unfold kM;rw[if_neg h]
  rw[e];unfold kM;rw[if_neg h]
theorem OT(W U:Nat)(hU:U<2097152):iy W U/67108864≠37∧iy W U/2147483648=1∧iy W U/16777216%32=16∧aZ (iy W U)=U∧iy W U%32=W%32:=by
 unfold iy aZ
 obtain⟨a,b,hb,rfl⟩: ∃a b,b<4∧U=4*a+b:=⟨U/4,U%4,by omega,by omega⟩
 have hr:W%32<32:=by omega
 have e1:(4*a+b)%4=b:=by omega
 have e2:(4*a+b)/4=a:=by omega
 rw[e1,e2]
 have ha:a<524288:=by omega
 generalize W%32=r at*
 clear e1 e2 hU
 have:b=0∨b=1∨b=2∨b=3:=by omega
 rcases this with rfl | rfl | rfl | rfl<;>refine⟨by omega,by omega,by omega,by omega,by omega⟩
theorem OU(W:Nat)(h1:W/2147483648=1)(h2:W/16777216%32=16):iy W (aZ W)=W:=by
 unfold iy aZ
 have e1:(W/32%524288*4+W/536870912%4)%4=W/536870912%4:=by omega
 have e2:(W/32%524288*4+W/536870912%4)/4=W/32%524288:=by omega
 rw[e1,e2]
 clear e1 e2
 have e3:W/32/524288=W/16777216:=by rw[Nat.div_div_eq_div_mul]
 have e4:W/536870912=W/16777216/32:=by rw[Nat.div_div_eq_div_mul]
 have e5:W/2147483648=W/16777216/32/4:=by rw[Nat.div_div_eq_div_mul,Nat.div_div_eq_div_mul]
 rw[e5]at h1
 rw[e4]
 generalize W/16777216=X at*
 clear e4 e5
 omega
theorem Ll(back:Bool)(W P:Nat):jw (!back) (jw back W P) P=W:=by
 by_cases h:W/67108864=37
 ·have hl:=oO back (W%67108864) (P/4) 67108864 (by omega)
  have hb:=tJ back (W%67108864) (P/4) 67108864 (by omega)
  have e:jw back W P=2483027968+tld back (W%67108864) (P/4) 67108864:=by unfold jw;rw[if_pos h]
  rw[e]
  generalize tld back (W%67108864) (P/4) 67108864=T at*
  unfold jw
  rw[if_pos (by omega),show(2483027968+T)%67108864=T by omega,hb]
  omega
 ·by_cases hc:(W/2147483648=1∧W/16777216%32=16)∧(aZ W+131072)%2097152<262144
  ·have hN:aZ W<2097152:=by unfold aZ;omega
   have hl:=oO back (aZ W%262144) (P/4096) 262144 (by omega)
   have hb:=tJ back (aZ W%262144) (P/4096) 262144 (by omega)
   have e:jw back W P=iy W (DX (tld back (aZ W%262144) (P/4096) 262144) 262144 2097152):=by unfold jw;rw[if_neg h,if_pos hc]
   rw[e]
   generalize tld back (aZ W%262144) (P/4096) 262144=T at*
   have hs1:DX T 262144 2097152%262144=T:=by unfold DX;split<;>omega
   have hs2:(DX T 262144 2097152+131072)%2097152<262144:=by unfold DX;split<;>omega
   have hs3:=OQ T 262144 2097152 hl (by omega)
   generalize DX T 262144 2097152=U at*
   obtain⟨q1,q2,q3,q4,q5⟩:=OT W U hs3
   generalize iy W U=V at*
   unfold jw
   rw[q4,if_neg q1,if_pos ⟨⟨q2,q3⟩,hs2⟩,hs1,hb]
   have hsg:DX (aZ W%262144) 262144 2097152=aZ W:=by
    have:=hc.2
    unfold DX;split<;>omega
   rw[hsg]
   have hw:=OU W hc.1.1 hc.1.2
   unfold iy at hw ⊢
   rw[q5]
   exact hw
  ·have e:jw back W P=W:=by unfold jw;rw[if_neg h,if_neg hc]
   rw[e];unfold jw;rw[if_neg h,if_neg hc]
def pU(id:Int):Bool:=id==7||id==10
def lg(id:Int)(back:Bool)(W P:Nat):Nat:=if id=5 then zy back W P else if id=7 then zA back W P else if id=9 then kM back W P else jw back W P
def isId(id:Int):Prop:=id=5∨id=7∨id=9∨id=10
theorem afr(back:Bool)(W P:Nat)(hW:W<4294967296):zy back W P<4294967296∧zA back W P<4294967296∧kM back W P<4294967296∧jw back W P<4294967296:=by
 have h1:=oO back (W/4%16777216) (P/4) 16777216 (by omega)
 have h2:=oO back (W%16777216) (P/4+2) 16777216 (by omega)
 have h3:=OQ _ 8388608 1073741824 (oO back (W%8388608) (P/4) 8388608 (by omega)) (by omega)
 have h4:=oO back (W%67108864) (P/4) 67108864 (by omega)
 have h5:=OQ _ 262144 2097152 (oO back (aZ W%262144) (P/4096) 262144 (by omega)) (by omega)
 refine⟨?_,?_,?_,?_⟩
 ·unfold zy;split<;>omega
 ·unfold zA;split<;>omega
 ·unfold kM;split<;>omega
 ·unfold jw iy
  split
  ·omega
  ·split
   ·generalize DX (tld back (aZ W%262144) (P/4096) 262144) 262144 2097152=U at*
    have:U%4<4:=by omega
    omega
   ·omega
theorem acg(id:Int)(back:Bool)(W P:Nat)(hW:W<4294967296):lg id back W P<4294967296:=by
 obtain⟨h1,h2,h3,h4⟩:=afr back W P hW
 unfold lg;split
 ·exact h1
 ·split
  ·exact h2
  ·split
   ·exact h3
   ·exact h4
theorem Ua(id:Int)(back:Bool)(W P:Nat)(hW:W<4294967296):lg id (!back) (lg id back W P) P=W:=by
 unfold lg;split
 ·exact TW back W P
 ·split
  ·exact TY back W P
  ·split
   ·exact Lj back W P hW
   ·exact Ll back W P
theorem enters{f:FuncId}{fn:Func}(hf:Tryz.prog.funcs[f]? =some fn)(hn:fn.name≠ "runtime.NumGoroutine")(hb:fn.body.isNone=false)(args:Array Value)(w:World):(callFunc f args).run Tryz.prog w= .ok (.enter f args) w:=by
 have hb': ¬fn.body=none:=by intro h;simp[h]at hb
 simp[callFunc,hf,hn,hb']
theorem ach(args:Array Value)(w:World):(callFunc 190 args).run Tryz.prog w= .ok (.enter 190 args) w:=enters Tryz.func190 (by decide) (by rfl) args w
theorem aci(args:Array Value)(w:World):(callFunc 192 args).run Tryz.prog w= .ok (.enter 192 args) w:=enters Tryz.func192 (by decide) (by rfl) args w
theorem acj(args:Array Value)(w:World):(callFunc 193 args).run Tryz.prog w= .ok (.enter 193 args) w:=enters Tryz.func193 (by decide) (by rfl) args w
theorem acn(args:Array Value)(w:World):(callFunc 195 args).run Tryz.prog w= .ok (.enter 195 args) w:=enters Tryz.func195 (by decide) (by rfl) args w
theorem Ub(low:Bool)(cv cv':Nat→Nat→Nat)(h: ∀W P,W<4294967296→P<4294967296→cv W P=cv' W P)(start:Nat)(l:List UInt8)(k:Nat):pre low cv start l k=pre low cv' start l k:=by
 induction k with
 | zero=>rfl
 | succ k ih=>
  simp only[pre,ih]
  congr 1
  unfold grp
  split
  ·rw[h _ _ (word_lt _ _ _ _ _) (by omega)]
  ·rfl
theorem ou(low:Bool)(cv cv':Nat→Nat→Nat)(h: ∀W P,W<4294967296→P<4294967296→cv W P=cv' W P)(start:Nat)(l:List UInt8):coded low cv start l=coded low cv' start l:=by
 unfold coded;rw[Ub low cv cv' h]
theorem Lm(id:Int)(hid:isId id)(back:Bool)(start:Nat)(hst:start<4294967296)(hs4:start%4=0)(A:Option Addr)(l:List UInt8)(c:Nat)(w:World)(hB:Bytes w A l)(hm:l.length≤140737488355328):
  Calls Tryz.prog 119 #[.int .i64 id,.int .u32 (start:Nat),.slice A l.length c,.func (.func (lZ back)) #[] #[]] w (Gives w (coded (pU id) (lg id back) start l) 0):=by
 rcases hid with rfl | rfl | rfl | rfl
 ·rw[ou _ (lg 5 back) (ppc back) (fun W P h1 h2=>by simp[lg,afp back W P h1 h2])]
  refine xY 5 _ _ _ _ _ rfl afj ach (fun W P w h1 h2=>ab9 back W P w h1 h2) (fun W P h=> ?_) start hst hs4 A l c w hB hm
  unfold ppc;split
  ·exact wF _ _ _ _ (by omega) (by omega) h
  ·exact h
 ·rw[ou _ (lg 7 back) (arm back) (fun W P h1 h2=>by simp[lg,afq back W P h1 h2])]
  refine xY 7 _ _ _ _ _ rfl afk aci (fun W P w h1 h2=>acd back W P w h1 h2) (fun W P h=> ?_) start hst hs4 A l c w hB hm
  unfold arm;split
  ·exact wF _ _ _ _ (by omega) (by omega) h
  ·exact h
 ·rw[ou _ (lg 9 back) (DT back) (fun W P h1 h2=>by simp[lg,YA back W P h1 h2])]
  refine xY 9 _ _ _ _ _ rfl afl acj (fun W P w h1 h2=>TS back W P w h1 h2) (fun W P h=> ?_) start hst hs4 A l c w hB hm
  unfold DT;split
  ·exact wF _ _ _ _ (by omega) (by omega) (by omega)
  ·exact h
 ·rw[ou _ (lg 10 back) (DW back) (fun W P h1 h2=>by simp[lg,YB back W P h1 h2])]
  refine xY 10 _ _ _ _ _ rfl ab6 acn (fun W P w h1 h2=>TT back W P w h1 h2) (fun W P h=> ?_) start hst hs4 A l c w hB hm
  unfold DW;split
  ·exact wF _ _ _ _ (by omega) (by omega) h
  ·unfold page;split
   ·exact wF _ _ _ _ (by omega) (by omega) (wF _ _ _ _ (by omega) (by omega) h)
   ·exact h
theorem wG(id:Int)(hid:isId id)(start:Nat)(hst:start<4294967296)(hs4:start%4=0)(A:Option Addr)(l:List UInt8)(c:Nat)(w:World)(hB:Bytes w A l)(hm:l.length≤140737488355328):
  Calls Tryz.prog 70 #[.int .i64 id,.int .u32 (start:Nat),.slice A l.length c] w (Gives w (coded (pU id) (lg id false) start l) 0):=by
 have HE:=Lib.hid (Lm id hid false start hst hs4 A l c w hB hm)
 rw[zu]at HE
 clear hs4
 generalize coded (pU id) (lg id false) start l=X at*
 go_enter Tryz.func70,Tryz.ntmps70
 go_wp2_with fail
 refine HE.out.mono ?_
 rintro e w1 ⟨v,rfl,ho,hb⟩
 go_wp2_with fail
 go_ret2
 exact⟨v,rfl,ho,hb⟩
theorem I4(id:Int)(hid:isId id)(start:Nat)(hst:start<4294967296)(hs4:start%4=0)(A:Option Addr)(l:List UInt8)(c:Nat)(w:World)(hB:Bytes w A l)(hm:l.length≤140737488355328):
  Calls Tryz.prog 154 #[.int .i64 id,.int .u32 (start:Nat),.slice A l.length c] w (Gives w (coded (pU id) (lg id true) start l) 0):=by
 have HE:=Lib.hid (Lm id hid true start hst hs4 A l c w hB hm)
 rw[pR]at HE
 clear hs4
 generalize coded (pU id) (lg id true) start l=X at*
 go_enter Tryz.func154,Tryz.ntmps154
 go_wp2_with fail
 refine HE.out.mono ?_
 rintro e w1 ⟨v,rfl,ho,hb⟩
 go_wp2_with fail
 go_ret2
 exact⟨v,rfl,ho,hb⟩
theorem afs(w:World)(a b c d:UInt8)(base:Nat)(hb:base≤w.heap.size):Own base (w.alloc (.cells #[.int .u8 (a.toNat:Nat),.int .u8 (b.toNat:Nat),.int .u8 (c.toNat:Nat),.int .u8 (d.toNat:Nat)] 5)) (.slice (some ⟨w.heap.size,0,none⟩) 4 4) [a,b,c,d]:=
 Own.lit w [a,b,c,d] hb (by simp)
theorem DY(n:Nat):((UInt8.ofNat (n%256)).toNat:Nat)=n%256:=by
 have:n%256<256:=by omega
 simp[Nat.mod_eq_of_lt this]
def I5(id:Int)(start:Nat):Bool:=(id==5||id==7||id==9||id==10)&&start%4==0
theorem YC(id:Int)(start:Nat):I5 id start=true↔isId id∧start%4=0:=by
 unfold I5 isId;simp[or_assoc]
theorem Uc(id:Int)(start:Nat)(w:World):Calls Tryz.prog 89 #[.int .i64 id,.int .u32 (start:Nat)] w fun e w'=>e= .returned (.bool (I5 id start))∧w=w':=by
 have hs:((start:Int)%4==0)=(start%4==0):=by rw[Bool.eq_iff_iff];simp;omega
 have hm:I5 id start=((id==5||id==7||id==9||id==10)&&start%4==0):=rfl
 generalize I5 id start=M at*
 generalize(start%4==0)=T at*
 by_cases h5:id=5
 ·subst h5
  simp only[show((5:Int)==5)=true from rfl,Bool.true_or,Bool.true_and]at hm
  subst hm
  go_enter Tryz.func89,Tryz.ntmps89
  go_wp2_with fail
  go_ret
  exact⟨rfl,rfl⟩
 ·have b5:(id==5)=false:=by simp[h5]
  by_cases h7:id=7
  ·subst h7
   simp only[show((7:Int)==7)=true from rfl,Bool.or_true,Bool.true_or,Bool.true_and]at hm
   subst hm
   clear h5 b5
   go_enter Tryz.func89,Tryz.ntmps89
   go_wp2_with fail
   go_ret
   exact⟨rfl,rfl⟩
  ·have b7:(id==7)=false:=by simp[h7]
   by_cases h9:id=9
   ·subst h9
    simp only[show((9:Int)==9)=true from rfl,Bool.or_true,Bool.true_or,Bool.true_and]at hm
    subst hm
    clear h5 b5 h7 b7
    go_enter Tryz.func89,Tryz.ntmps89
    go_wp2_with fail
    go_ret
    exact⟨rfl,rfl⟩
   ·have b9:(id==9)=false:=by simp[h9]
    rw[b5,b7,b9]at hm
    simp only[Bool.false_or]at hm
    by_cases h10:id=10
    ·subst h10
     simp only[show((10:Int)==10)=true from rfl,Bool.true_and]at hm
     subst hm
     clear h5 b5 h7 b7 h9 b9
     go_enter Tryz.func89,Tryz.ntmps89
     go_wp2_with fail
     go_ret
     exact⟨rfl,rfl⟩
    ·have b10:(id==10)=false:=by simp[h10]
     rw[b10]at hm
     simp only[Bool.false_and]at hm
     subst hm
     clear h5 h7 h9 h10
     go_enter Tryz.func89,Tryz.ntmps89
     go_wp2_with fail
     go_ret
     exact⟨rfl,rfl⟩

theorem tK(x:UInt8):UInt8.ofNat x.toNat=x:=by simp
theorem I7(low:Bool)(a b c d:UInt8):bytesOf low (word low a b c d)=[a,b,c,d]:=by
 have h1:=a.toNat_lt;have h2:=b.toNat_lt;have h3:=c.toNat_lt;have h4:=d.toNat_lt
 cases low with
 | true=>
  simp only[bytesOf,word,if_true]
  rw[show(a.toNat+b.toNat*256+c.toNat*65536+d.toNat*16777216)%256=a.toNat by omega,
   show(a.toNat+b.toNat*256+c.toNat*65536+d.toNat*16777216)/256%256=b.toNat by omega,
   show(a.toNat+b.toNat*256+c.toNat*65536+d.toNat*16777216)/65536%256=c.toNat by omega,
   show(a.toNat+b.toNat*256+c.toNat*65536+d.toNat*16777216)/16777216%256=d.toNat by omega,tK,tK,tK,tK]
 | false=>
  simp only[bytesOf,word,Bool.false_eq_true,if_false]
  rw[show(d.toNat+c.toNat*256+b.toNat*65536+a.toNat*16777216)%256=d.toNat by omega,
   show(d.toNat+c.toNat*256+b.toNat*65536+a.toNat*16777216)/256%256=c.toNat by omega,
   show(d.toNat+c.toNat*256+b.toNat*65536+a.toNat*16777216)/65536%256=b.toNat by omega,
   show(d.toNat+c.toNat*256+b.toNat*65536+a.toNat*16777216)/16777216%256=a.toNat by omega,tK,tK,tK,tK]
theorem ofNat_mod(n:Nat):(UInt8.ofNat (n%256)).toNat=n%256:=by
 have:n%256<256:=by omega
 simp[Nat.mod_eq_of_lt this]
theorem xZ(low:Bool)(W:Nat)(h:W<4294967296): ∃a b c d,bytesOf low W=[a,b,c,d]∧word low a b c d=W:=by
 cases low with
 | true=>
  refine⟨_,_,_,_,rfl,?_⟩
  simp only[word,if_true]
  rw[ofNat_mod W,ofNat_mod (W/256),ofNat_mod (W/65536),ofNat_mod (W/16777216)];omega
 | false=>
  refine⟨_,_,_,_,rfl,?_⟩
  simp only[word,Bool.false_eq_true,if_false]
  rw[ofNat_mod W,ofNat_mod (W/256),ofNat_mod (W/65536),ofNat_mod (W/16777216)];omega
theorem pre_parts(low:Bool)(cv:Nat→Nat→Nat)(start:Nat)(l:List UInt8)(k n:Nat)(h:k<n): ∃t,pre low cv start l n=pre low cv start l k++grp low cv start l k++t:=by
 induction n with
 | zero=>omega
 | succ n ih=>
  by_cases e:k=n
  ·subst e;exact⟨[],by simp[pre]⟩
  ·obtain⟨t,ht⟩:=ih (by omega)
   exact⟨t++grp low cv start l n,by simp only[pre,ht,List.append_assoc]⟩
theorem qI(low:Bool)(cv:Nat→Nat→Nat)(start:Nat)(l:List UInt8):(coded low cv start l).length=l.length:=by
 unfold coded
 rw[List.length_append,qH _ _ _ _ _ (by omega),List.length_drop];omega
theorem OV(low:Bool)(cv:Nat→Nat→Nat)(start:Nat)(l:List UInt8):(coded low cv start l).drop (4*(l.length/4))=l.drop (4*(l.length/4)):=by
 unfold coded
 exact List.drop_left' (qH _ _ _ _ _ (by omega))
theorem YD(low:Bool)(cv cv':Nat→Nat→Nat)(hlt: ∀W P,W<4294967296→cv W P<4294967296)(hb: ∀W P,W<4294967296→cv' (cv W P) P=W)(start:Nat)(l:List UInt8)(k:Nat)(hk:4*k≤l.length):
  pre low cv' start (coded low cv start l) k=l.take (4*k):=by
 induction k with
 | zero=>simp[pre]
 | succ k ih=>
  have hx:=ih (by omega)
  obtain⟨a,b,c,d,t,e⟩:=zx l (4*k) (by omega)
  obtain⟨u,hu⟩:=pre_parts low cv start l k (l.length/4) (by omega)
  have hg:grp low cv start l k=bytesOf low (cv (word low a b c d) ((start+4*k)%4294967296)):=by unfold grp;rw[e]
  obtain⟨a',b',c',d',h1,h2⟩:=xZ low _ (hlt (word low a b c d) ((start+4*k)%4294967296) (word_lt low a b c d))
  have hd:(coded low cv start l).drop (4*k)=a'::b'::c'::d'::(u++l.drop (4*(l.length/4))):=by
   unfold coded
   rw[hu,hg,h1,List.append_assoc,List.append_assoc,List.drop_left' (qH _ _ _ _ _ (by omega))]
   rfl
  have hg2:grp low cv' start (coded low cv start l) k=[a,b,c,d]:=by
   unfold grp
   rw[hd]
   simp only
   rw[h2,hb _ _ (word_lt low a b c d),I7]
  simp only[pre,hx,hg2]
  rw[show 4*(k+1)=4*k+4 by omega,List.take_add,e];rfl
theorem OW(low:Bool)(cv cv':Nat→Nat→Nat)(hlt: ∀W P,W<4294967296→cv W P<4294967296)(hb: ∀W P,W<4294967296→cv' (cv W P) P=W)(start:Nat)(l:List UInt8):coded low cv' start (coded low cv start l)=l:=by
 have h:=YD low cv cv' hlt hb start l (l.length/4) (by omega)
 have ht:=OV low cv start l
 have hl:=qI low cv start l
 generalize coded low cv start l=X at*
 unfold coded
 rw[hl,h,ht,List.take_append_drop]
theorem aco(id:Int)(back:Bool)(start:Nat)(l:List UInt8):coded (pU id) (lg id (!back)) start (coded (pU id) (lg id back) start l)=l:=
 OW _ _ _ (fun W P h=>acg id back W P h) (fun W P h=>Ua id back W P h) start l
namespace Delta
abbrev at_(l:List UInt8)(i:Nat):UInt8:=l.getD i 0
def back(l:List UInt8)(d k:Nat):UInt8:=if d≤k then at_ l (k-d)else 0
def vK(l:List UInt8)(d k:Nat):List UInt8:=(List.range k).map fun i=>at_ l i-back l d i
def gu(l:List UInt8)(d:Nat):Nat→List UInt8
 | 0=>[]
 | k+1=>gu l d k++[at_ l k+back (gu l d k) d k]
def enc(l:List UInt8)(d:Nat):List UInt8:=vK l d l.length
def dec(l:List UInt8)(d:Nat):List UInt8:=gu l d l.length
theorem DZ(l:List UInt8)(d k:Nat):gu l d (k+1)=gu l d k++[at_ l k+back (gu l d k) d k]:=rfl
theorem l9(l:List UInt8)(d k:Nat):(vK l d k).length=k:=by simp[vK]
theorem iC(l:List UInt8)(d k:Nat):(gu l d k).length=k:=by
 induction k with
 | zero=>rfl
 | succ k ih=>simp[gu,ih]
theorem qJ(l:List UInt8)(d:Nat):(enc l d).length=l.length:=l9 _ _ _
theorem wH(l:List UInt8)(d:Nat):(dec l d).length=l.length:=iC _ _ _
theorem OX(l:List UInt8)(d k:Nat):vK l d (k+1)=vK l d k++[at_ l k-back l d k]:=by
 simp[vK,List.range_succ]
theorem tN(a b:List UInt8)(i:Nat)(h:i<a.length):at_ (a++b) i=at_ a i:=by
 simp[at_,List.getD,List.getElem?_append_left h]
theorem tV(a:List UInt8)(x:UInt8):at_ (a++[x]) a.length=x:=by
 simp[at_,List.getD]
theorem Lr(l:List UInt8)(d i k:Nat)(h:i<k): ∀n,k≤n→at_ (gu l d n) i=at_ (gu l d k) i:=by
 intro n hn
 induction n with
 | zero=>omega
 | succ n ih=>
  rcases Nat.lt_or_ge n k with h2 | h2
  ·obtain rfl:k=n+1:=by omega
   rfl
  ·rw[←ih h2,gu,tN _ _ _ (by rw[iC];omega)]
theorem aft(l:List UInt8)(d i:Nat)(hd1:1≤d)(h:i<l.length):at_ (dec l d) i=at_ l i+back (dec l d) d i:=by
 have h1:at_ (dec l d) i=at_ (gu l d (i+1)) i:=Lr l d i (i+1) (by omega) l.length (by omega)
 have h2:at_ (gu l d (i+1)) i=at_ l i+back (gu l d i) d i:=by
  have:=tV (gu l d i) (at_ l i+back (gu l d i) d i)
  rw[iC]at this
  rw[gu];exact this
 have h3:back (gu l d i) d i=back (dec l d) d i:=by
  unfold back
  by_cases hd:d≤i
  ·rw[if_pos hd,if_pos hd]
   exact(Lr l d (i-d) i (by omega) l.length (by omega)).symm
  ·rw[if_neg hd,if_neg hd]
 rw[h1,h2,h3]
theorem afu(l:List UInt8)(d i:Nat)(h:i<l.length):at_ (enc l d) i=at_ l i-back l d i:=by
 simp[at_,enc,vK,List.getD,h]
theorem afv(a b:List UInt8)(hl:a.length=b.length)(h: ∀i,i<a.length→at_ a i=at_ b i):a=b:=by
 apply List.ext_getElem hl
 intro i h1 h2
 have:=h i h1
 simpa [at_,List.getD,h1,h2]using this
theorem acp(l:List UInt8)(d:Nat)(hd:1≤d):dec (enc l d) d=l:=by
 have hl:(dec (enc l d) d).length=l.length:=by rw[wH,qJ]
 have key: ∀i,i<l.length→at_ (dec (enc l d) d) i=at_ l i:=by
  intro i
  induction i using Nat.strongRecOn with
  | _ i ih=>
   intro hi
   have hb:back (dec (enc l d) d) d i=back l d i:=by
    unfold back
    by_cases h:d≤i
    ·rw[if_pos h,if_pos h,ih (i-d) (by omega) (by omega)]
    ·rw[if_neg h,if_neg h]
   rw[aft _ _ _ hd (by rw[qJ];exact hi),afu _ _ _ hi,hb,UInt8.sub_add_cancel]
 exact afv _ _ hl (fun i hi=>key i (by rw[←hl];exact hi))
def Win(o:List UInt8)(f:Nat→UInt8):Prop:= ∀d,1≤d→d≤256→f ((o.length+256-d)%256)=back o d o.length
theorem Win.nil:Win [] (fun _=>0):=by
 intro d h1 _;unfold back;rw[if_neg (by simp;omega)]
theorem Win.snoc{o:List UInt8}{f:Nat→UInt8}(h:Win o f)(x:UInt8):Win (o++[x]) (fun j=>if j=o.length%256 then x else f j):=by
 intro d h1 h2
 rw[List.length_append,List.length_singleton]
 show(if(o.length+1+256-d)%256=o.length%256 then x else f ((o.length+1+256-d)%256))=_
 by_cases e:d=1
 ·subst e
  rw[if_pos (by omega)]
  unfold back
  rw[if_pos (by omega),Nat.add_sub_cancel,tV]
 ·rw[if_neg (by omega)]
  have:=h (d-1) (by omega) (by omega)
  rw[show o.length+256-(d-1)=o.length+1+256-d by omega]at this
  rw[this]
  unfold back
  by_cases hd:d≤o.length+1
  ·rw[if_pos hd,if_pos (by omega),tN _ _ _ (by omega),show o.length+1-d=o.length-(d-1) by omega]
  ·rw[if_neg hd,if_neg (by omega)]
theorem Ud(l:List UInt8)(d k:Nat)(hd:1≤d):back (l.take k) d k=back l d k:=by
 unfold back
 by_cases h:d≤k
 ·rw[if_pos h,if_pos h]
  simp[at_,List.getD,show k-d<k by omega]
 ·rw[if_neg h,if_neg h]
end Delta
end Go.Proofs.YtgfpocdiojifoaaGreatDoor
