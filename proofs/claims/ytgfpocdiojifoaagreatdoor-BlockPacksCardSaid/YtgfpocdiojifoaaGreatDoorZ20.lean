import Derived.Test.YtgfpocdiojifoaaGreatDoorZ19
namespace Go.Proofs.YtgfpocdiojifoaaGreatDoor
set_option maxRecDepth 100000
set_option maxHeartbeats 8000000
open Go.RowKit Go.Proofs.Tryz
variable{A:Option Addr}{w w':World}
def ga(id:Int):Bool:=id==7||id==10
def fL(id:Int)(back:Bool)(W P:Nat):Nat:=if id=5 then pA back W P else if id=7 then pB back W P else if id=9 then fW back W P else ey back W P
def Cj(id:Int):Prop:=id=5∨id=7∨id=9∨id=10
theorem s_(back:Bool)(W P:Nat)(hW:W<4294967296):pA back W P<4294967296∧pB back W P<4294967296∧fW back W P<4294967296∧ey back W P<4294967296:=by
 have h1:=fx back (W/4%16777216) (P/4) 16777216 aa;have h2:=fx back (W%16777216) (P/4+2) 16777216 aa;have h3:=xQ _ 8388608 1073741824 (fx back (W%8388608) (P/4) 8388608 aa) aa;have h4:=fx back (W%67108864) (P/4) 67108864 aa;have h5:=xQ _ 262144 2097152 (fx back (aM W%262144) (P/4096) 262144 aa) aa;refine⟨?_,?_,?_,?_⟩;·unfold pA;split<;>omega
 ·unfold pB;split<;>omega
 ·unfold fW;split<;>omega
 ·unfold ey dP;split;·omega
  ·split;·generalize pX (tld back (aM W%262144) (P/4096) 262144) 262144 2097152=U at*;have:U%4<4:=aa;omega
   ·omega
theorem Kq(id:Int)(back:Bool)(W P:Nat)(hW:W<4294967296):fL id back W P<4294967296:=by
 obtain⟨h1,h2,h3,h4⟩:=s_ back W P hW;unfold fL;split;·exact h1
 ·split;·exact h2
  ·split;·exact h3
   ·exact h4
theorem Mv(id:Int)(back:Bool)(W P:Nat)(hW:W<4294967296):fL id (!back) (fL id back W P) P=W:=by
 unfold fL;split;·exact Mt back W P
 ·split;·exact Mu back W P
  ·split;·exact EU back W P hW
   ·exact EV back W P
theorem enters{f:FuncId}{fn:Func}(hf:prog.funcs[f]? =some fn)(hn:fn.name≠ "runtime.NumGoroutine")(hb:fn.body.isNone=false)(args:Array Value)(w:World):(callFunc f args).run prog w= .ok (.enter f args) w:=by
 have zY: ¬fn.body=none:=by intro h;simp[h]at hb
 simp[callFunc,hf,hn,zY]
theorem VM(args:Array Value)(w:World):(callFunc 190 args).run prog w= .ok (.enter 190 args) w:=enters func190 an (by rfl) args w
theorem VN(args:Array Value)(w:World):(callFunc 192 args).run prog w= .ok (.enter 192 args) w:=enters func192 an (by rfl) args w
theorem VO(args:Array Value)(w:World):(callFunc 193 args).run prog w= .ok (.enter 193 args) w:=enters func193 an (by rfl) args w
theorem VP(args:Array Value)(w:World):(callFunc 195 args).run prog w= .ok (.enter 195 args) w:=enters func195 an (by rfl) args w
theorem Mw(low:Bool)(cv uO:Nat→Nat→Nat)(h: ∀W P,W<4294967296→P<4294967296→cv W P=uO W P)(start:Nat)(l:List UInt8)(k:Nat):pre low cv start l k=pre low uO start l k:=by
 induction k with
 | zero=>rfl
 | succ k ih=>
  simp only[pre,ih];congr 1;unfold Rs;split;·rw[h _ _ (word_lt _ _ _ _ _) aa]
  ·rfl
theorem kR(low:Bool)(cv uO:Nat→Nat→Nat)(h: ∀W P,W<4294967296→P<4294967296→cv W P=uO W P)(start:Nat)(l:List UInt8):dh low cv start l=dh low uO start l:=by unfold dh;rw[Mw low cv uO h]
theorem EW(id:Int)(hid:Cj id)(back:Bool)(start:Nat)(bJ:start<4294967296)(wM:start%4=0)(A:Option Addr)(l:List UInt8)(c:Nat)(w:World)(hB:Bytes w A l)(hm:l.length≤140737488355328):
  Calls prog 119 #[.int .i64 id,.int .u32 (start:Nat),.slice A l.length c,.func (.func (jP back)) #[] #[]] w (kf w (dh (ga id) (fL id back) start l) 0):=by
 rcases hid with rfl | rfl | rfl | rfl
 ·rw[kR _ (fL 5 back) (n_ back) (fun W P h1 h2=>by simp[fL,q_ back W P h1 h2])];refine sh 5 _ _ _ _ _ rfl Rk VM (fun W P w h1 h2=>VH back W P w h1 h2) (fun W P h=> ?_) start bJ wM A l c w hB hm;unfold n_;split;·exact qs _ _ _ _ aa aa h
  ·exact h
 ·rw[kR _ (fL 7 back) (arm back) (fun W P h1 h2=>by simp[fL,r_ back W P h1 h2])];refine sh 7 _ _ _ _ _ rfl Rl VN (fun W P w h1 h2=>VI back W P w h1 h2) (fun W P h=> ?_) start bJ wM A l c w hB hm;unfold arm;split;·exact qs _ _ _ _ aa aa h
  ·exact h
 ·rw[kR _ (fL 9 back) (xM back) (fun W P h1 h2=>by simp[fL,Rw back W P h1 h2])];refine sh 9 _ _ _ _ _ rfl Rm VO (fun W P w h1 h2=>Mn back W P w h1 h2) (fun W P h=> ?_) start bJ wM A l c w hB hm;unfold xM;split;·exact qs _ _ _ _ aa aa aa
  ·exact h
 ·rw[kR _ (fL 10 back) (xO back) (fun W P h1 h2=>by simp[fL,Rx back W P h1 h2])];refine sh 10 _ _ _ _ _ rfl Kp VP (fun W P w h1 h2=>Mo back W P w h1 h2) (fun W P h=> ?_) start bJ wM A l c w hB hm;unfold xO;split;·exact qs _ _ _ _ aa aa h
  ·unfold page;split;·exact qs _ _ _ _ aa aa (qs _ _ _ _ aa aa h)
   ·exact h
theorem qt(id:Int)(hid:Cj id)(start:Nat)(bJ:start<4294967296)(wM:start%4=0)(A:Option Addr)(l:List UInt8)(c:Nat)(w:World)(hB:Bytes w A l)(hm:l.length≤140737488355328):
  Calls prog 70 #[.int .i64 id,.int .u32 (start:Nat),.slice A l.length c] w (kf w (dh (ga id) (fL id false) start l) 0):=by
 have HE:=hdd (EW id hid false start bJ wM A l c w hB hm);rw[tE]at HE;clear wM;generalize dh (ga id) (fL id false) start l=X at*;go_enter func70,ntmps70;go_wp2_with fail;refine HE.out.mono ?_;rintro e w1 ⟨v,rfl,ho,hb⟩;go_wp2_with fail;go_ret2;exact⟨v,rfl,ho,hb⟩
theorem Ck(id:Int)(hid:Cj id)(start:Nat)(bJ:start<4294967296)(wM:start%4=0)(A:Option Addr)(l:List UInt8)(c:Nat)(w:World)(hB:Bytes w A l)(hm:l.length≤140737488355328):
  Calls prog 154 #[.int .i64 id,.int .u32 (start:Nat),.slice A l.length c] w (kf w (dh (ga id) (fL id true) start l) 0):=by
 have HE:=hdd (EW id hid true start bJ wM A l c w hB hm);rw[lP]at HE;clear wM;generalize dh (ga id) (fL id true) start l=X at*;go_enter func154,ntmps154;go_wp2_with fail;refine HE.out.mono ?_;rintro e w1 ⟨v,rfl,ho,hb⟩;go_wp2_with fail;go_ret2;exact⟨v,rfl,ho,hb⟩
def EX(w:World)(l:List UInt8)(e:Ending)(w':World):Prop:= ∃v,e= .returned v∧Own w.heap.size w' v l∧Below w.heap.size w w'
theorem Cl(w:World)(a b c d:UInt8)(base:Nat)(hb:base≤w.heap.size):Own base (w.alloc (.cells #[.int .u8 (a.toNat:Nat),.int .u8 (b.toNat:Nat),.int .u8 (c.toNat:Nat),.int .u8 (d.toNat:Nat)] 5)) (.slice (some ⟨w.heap.size,0,none⟩) 4 4) [a,b,c,d]:=
 Own.lit w [a,b,c,d] hb ae
theorem jr(n:Nat):((UInt8.ofNat (n%256)).toNat:Nat)=n%256:=by have:n%256<256:=aa;simp[Nat.mod_eq_of_lt this]
theorem Mx(w W':World)(a b c d:Value)(h:Below (w.alloc (.cells #[a,b,c,d] 5)).heap.size (w.alloc (.cells #[a,b,c,d] 5)) W'):
  W'.cell? ⟨w.heap.size,0,none⟩=some a∧W'.cell? ⟨w.heap.size,1,none⟩=some b∧W'.cell? ⟨w.heap.size,2,none⟩=some c∧W'.cell? ⟨w.heap.size,3,none⟩=some d:=by
 have aF:w.heap.size<(w.alloc (.cells #[a,b,c,d] 5)).heap.size:=ae;refine⟨?_,?_,?_,?_⟩<;>(rw[h.cell (p:=⟨w.heap.size,_,none⟩) aF,cell_of_row _ _ _ _ _ _ (heap_alloc_last _ _)];rfl)
theorem Ry(W:Nat)(low:Bool)(w:World)(hW:W<4294967296):
  Calls prog 97 #[.int .i64 (W:Nat),.bool (!low)] w (EX w (bytesOf low W)):=by
 have e0:(W:Int)%256=((UInt8.ofNat (W%256)).toNat:Int):=by rw[jr W];omega
 have e1:(W:Int)/256%256=((UInt8.ofNat (W/256%256)).toNat:Int):=by rw[jr (W/256)];omega
 have e2:(W:Int)/65536%256=((UInt8.ofNat (W/65536%256)).toNat:Int):=by rw[jr (W/65536)];omega
 have e3:(W:Int)/16777216%256=((UInt8.ofNat (W/16777216%256)).toNat:Int):=by rw[jr (W/16777216)];omega
 have e3':(W:Int)/16777216=((UInt8.ofNat (W/16777216%256)).toNat:Int):=by rw[jr (W/16777216)];omega
 have hb:bytesOf low W=if low then [UInt8.ofNat (W%256),UInt8.ofNat (W/256%256),UInt8.ofNat (W/65536%256),UInt8.ofNat (W/16777216%256)]else [UInt8.ofNat (W/16777216%256),UInt8.ofNat (W/65536%256),UInt8.ofNat (W/256%256),UInt8.ofNat (W%256)]:=rfl;generalize bytesOf low W=R at*;generalize UInt8.ofNat (W%256)=y0 at*;generalize UInt8.ofNat (W/256%256)=y1 at*;generalize UInt8.ofNat (W/65536%256)=y2 at*;generalize UInt8.ofNat (W/16777216%256)=y3 at*;cases low with
 | false=>
  simp only[Bool.false_eq_true,if_false]at hb;subst hb;have ho:=Cl w y3 y2 y1 y0 w.heap.size (Nat.le_refl _);have eH:Below w.heap.size w (w.alloc (.cells #[.int .u8 (y3.toNat:Nat),.int .u8 (y2.toNat:Nat),.int .u8 (y1.toNat:Nat),.int .u8 (y0.toNat:Nat)] 5)):=ap;simp only[Bool.not_false];go_enter func97,ntmps97;go_wp2_with fail;go_ret;exact⟨_,rfl,ho,eH⟩
 | true=>
  simp only[if_true]at hb;subst hb;have hc:=Mx w;have eH:Below w.heap.size w (w.alloc (.cells #[.int .u8 (y3.toNat:Nat),.int .u8 (y2.toNat:Nat),.int .u8 (y1.toNat:Nat),.int .u8 (y0.toNat:Nat)] 5)):=ap;have hcs:=fun W' h=>hc W' (.int .u8 (y3.toNat:Nat)) (.int .u8 (y2.toNat:Nat)) (.int .u8 (y1.toNat:Nat)) (.int .u8 (y0.toNat:Nat)) h;clear hc;simp only[Bool.not_true];go_enter func97,ntmps97;go_wp2_with fail;clear e0 e1 e2 e3 e3';generalize w.alloc (.cells #[.int .u8 (y3.toNat:Nat),.int .u8 (y2.toNat:Nat),.int .u8 (y1.toNat:Nat),.int .u8 (y0.toNat:Nat)] 5)=W1 at*;have uB: ∀w',Below W1.heap.size W1 w'→w'.cell? ⟨w.heap.size,0,none⟩=some (.int .u8 (y3.toNat:Nat)):=fun w' h=>(hcs w' h).1;have fY: ∀w',Below W1.heap.size W1 w'→w'.cell? ⟨w.heap.size,1,none⟩=some (.int .u8 (y2.toNat:Nat)):=fun w' h=>(hcs w' h).2.1;have fS: ∀w',Below W1.heap.size W1 w'→w'.cell? ⟨w.heap.size,2,none⟩=some (.int .u8 (y1.toNat:Nat)):=fun w' h=>(hcs w' h).2.2.1;have lu: ∀w',Below W1.heap.size W1 w'→w'.cell? ⟨w.heap.size,3,none⟩=some (.int .u8 (y0.toNat:Nat)):=fun w' h=>(hcs w' h).2.2.2;have UI:Below W1.heap.size W1 W1.drew:=(Below.refl _ _).drew;have hS2:=UI.alloc (Nat.le_refl _) (.cells #[.int .u8 (y0.toNat:Nat),.int .u8 (y1.toNat:Nat),.int .u8 (y2.toNat:Nat),.int .u8 (y3.toNat:Nat)] 5);have ho:=Cl W1.drew y0 y1 y2 y3 w.heap.size eH.size;clear hcs;refine wp_region_held_drew (S:=fun w'=>Below W1.heap.size W1 w') ak UI (fun hS=> ?_);refine af 0 hS (h:=af 1 hS (h:=bT 2 rfl (fun w hSw=>uW) hS (h:=af 3 hS (h:=af 4 hS (h:=bT 5 rfl (fun w hSw=>uW) hS (h:=af 6 hS (h:=af 7 hS (h:=bT 8 rfl (fun w hSw=>uW) hS (h:=af 9 hS (h:=af 10 hS (h:=bT 11 rfl (fun w hSw=>uW) hS (h:= ?_))))))))))));refine aG 12 (fun K hK=> ?_);go_simp;refine hK.out _ _ hS2 (fun _=> ?_);clear hK K;refine af 13 hS2 (h:= ?_);refine wpAnyH_done ak ?_ _;go_wp2_with fail;go_ret;exact⟨_,rfl,ho,aO eH hS2⟩
def cG(y0 y1 y2 y3:Nat):Nat→Nat
 | 0=>0
 | 1=>y0
 | 2=>256*y0+y1
 | 3=>256*(256*y0+y1)+y2
 | _=>256*(256*(256*y0+y1)+y2)+y3
theorem VQ(y0 y1 y2 y3:Nat):cG y0 y1 y2 y3 0=0:=rfl
theorem My(y0 y1 y2 y3:Nat):cG y0 y1 y2 y3 1=y0:=rfl
theorem Mz(y0 y1 y2 y3:Nat):cG y0 y1 y2 y3 2=256*y0+y1:=rfl
theorem MA(y0 y1 y2 y3:Nat):cG y0 y1 y2 y3 3=256*(256*y0+y1)+y2:=rfl
theorem VR(y0 y1 y2 y3:Nat):cG y0 y1 y2 y3 4=256*(256*(256*y0+y1)+y2)+y3:=rfl
theorem EY(b off c:Nat)(x0 x1 x2 x3:UInt8)(w:World)(h0:w.cell? ⟨b,off,none⟩=some (B8 x0))(h1:w.cell? ⟨b,off+1,none⟩=some (B8 x1))(h2:w.cell? ⟨b,off+2,none⟩=some (B8 x2))(h3:w.cell? ⟨b,off+3,none⟩=some (B8 x3)):
  Calls prog 99 #[.slice (some ⟨b,off,none⟩) 4 c,.bool true] w fun e w'=>e= .returned (.int .i64 (word false x0 x1 x2 x3:Nat))∧w=w':=by
 have p0:=x0.toNat_lt;have p1:=x1.toNat_lt;have p2:=x2.toNat_lt;have p3:=x3.toNat_lt;have Cm:word false x0 x1 x2 x3=cG x0.toNat x1.toNat x2.toNat x3.toNat 4:=by rw[VR];simp only[word,Bool.false_eq_true,if_false];omega
 have HW:=hdd Cm;clear Cm;generalize word false x0 x1 x2 x3=R at*;go_enter func99,ntmps99;go_wp2_with fail;go_loop [5,6] (fun n i=> ∃k:Nat,k≤4∧i= .int .i64 k∧n= .int .i64 (cG x0.toNat x1.toNat x2.toNat x3.toNat k:Nat)) (fun _ i=>4-(intOf i).toNat);case atStart=>exact⟨0,aa,rfl,rfl⟩
 case round=>
  obtain⟨k,hk,rfl,rfl⟩:=hrel;have lI:k=0∨k=1∨k=2∨k=3∨k=4:=aa;rcases lI with rfl | rfl | rfl | rfl | rfl
  ·have P8:cG x0.toNat x1.toNat x2.toNat x3.toNat 0<16777216:=(by rw[VQ];omega);have iK:((cG x0.toNat x1.toNat x2.toNat x3.toNat 1:Nat):Int)=256*((cG x0.toNat x1.toNat x2.toNat x3.toNat 0:Nat):Int)+(x0.toNat:Int):=(by rw[VQ,My];omega);have HX:=hdd iK;clear iK;generalize cG x0.toNat x1.toNat x2.toNat x3.toNat 0=N at*;go_wp2_with fail;go_round;case rel=>exact⟨1,aa,rfl,iU⟩
   case measure=>simp[intOf]
  ·have P8:cG x0.toNat x1.toNat x2.toNat x3.toNat 1<16777216:=(by rw[My];omega);have iK:((cG x0.toNat x1.toNat x2.toNat x3.toNat 2:Nat):Int)=256*((cG x0.toNat x1.toNat x2.toNat x3.toNat 1:Nat):Int)+(x1.toNat:Int):=(by rw[My,Mz];omega);have HX:=hdd iK;clear iK;generalize cG x0.toNat x1.toNat x2.toNat x3.toNat 1=N at*;go_wp2_with fail;go_round;case rel=>exact⟨2,aa,rfl,iU⟩
   case measure=>simp[intOf]
  ·have P8:cG x0.toNat x1.toNat x2.toNat x3.toNat 2<16777216:=(by rw[Mz];omega);have iK:((cG x0.toNat x1.toNat x2.toNat x3.toNat 3:Nat):Int)=256*((cG x0.toNat x1.toNat x2.toNat x3.toNat 2:Nat):Int)+(x2.toNat:Int):=(by rw[Mz,MA];omega);have HX:=hdd iK;clear iK;generalize cG x0.toNat x1.toNat x2.toNat x3.toNat 2=N at*;go_wp2_with fail;go_round;case rel=>exact⟨3,aa,rfl,iU⟩
   case measure=>simp[intOf]
  ·have P8:cG x0.toNat x1.toNat x2.toNat x3.toNat 3<16777216:=(by rw[MA];omega);have iK:((cG x0.toNat x1.toNat x2.toNat x3.toNat 4:Nat):Int)=256*((cG x0.toNat x1.toNat x2.toNat x3.toNat 3:Nat):Int)+(x3.toNat:Int):=(by rw[MA,VR];omega);have HX:=hdd iK;clear iK;generalize cG x0.toNat x1.toNat x2.toNat x3.toNat 3=N at*;go_wp2_with fail;go_round;case rel=>exact⟨4,aa,rfl,iU⟩
   case measure=>simp[intOf]
  ·have e4:((4:Nat):Int)=4:=rfl;rw[e4];rw[←HW.out];go_wp2_with fail;go_ret;exact⟨rfl,rfl⟩
theorem Ig(b off c:Nat)(x0 x1 x2 x3:UInt8)(w:World)(h0:w.cell? ⟨b,off,none⟩=some (B8 x0))(h1:w.cell? ⟨b,off+1,none⟩=some (B8 x1))(h2:w.cell? ⟨b,off+2,none⟩=some (B8 x2))(h3:w.cell? ⟨b,off+3,none⟩=some (B8 x3)):
  Calls prog 99 #[.slice (some ⟨b,off,none⟩) 4 c,.bool false] w fun e w'=>e= .returned (.int .i64 (word true x0 x1 x2 x3:Nat))∧w=w':=by
 have p0:=x0.toNat_lt;have p1:=x1.toNat_lt;have p2:=x2.toNat_lt;have p3:=x3.toNat_lt;have Cm:word true x0 x1 x2 x3=cG x3.toNat x2.toNat x1.toNat x0.toNat 4:=by rw[VR];simp only[word,if_true];omega
 have HW:=hdd Cm;clear Cm;generalize word true x0 x1 x2 x3=R at*;go_enter func99,ntmps99;go_wp2_with fail;go_loop [5,6] (fun n i=> ∃k:Nat,k≤4∧i= .int .i64 k∧n= .int .i64 (cG x3.toNat x2.toNat x1.toNat x0.toNat k:Nat)) (fun _ i=>4-(intOf i).toNat);case atStart=>exact⟨0,aa,rfl,rfl⟩
 case round=>
  obtain⟨k,hk,rfl,rfl⟩:=hrel;have lI:k=0∨k=1∨k=2∨k=3∨k=4:=aa;rcases lI with rfl | rfl | rfl | rfl | rfl
  ·have P8:cG x3.toNat x2.toNat x1.toNat x0.toNat 0<16777216:=(by rw[VQ];omega);have iK:((cG x3.toNat x2.toNat x1.toNat x0.toNat 1:Nat):Int)=256*((cG x3.toNat x2.toNat x1.toNat x0.toNat 0:Nat):Int)+(x3.toNat:Int):=(by rw[VQ,My];omega);have HX:=hdd iK;clear iK;generalize cG x3.toNat x2.toNat x1.toNat x0.toNat 0=N at*;go_wp2_with fail;go_round;case rel=>exact⟨1,aa,rfl,iU⟩
   case measure=>simp[intOf]
  ·have P8:cG x3.toNat x2.toNat x1.toNat x0.toNat 1<16777216:=(by rw[My];omega);have iK:((cG x3.toNat x2.toNat x1.toNat x0.toNat 2:Nat):Int)=256*((cG x3.toNat x2.toNat x1.toNat x0.toNat 1:Nat):Int)+(x2.toNat:Int):=(by rw[My,Mz];omega);have HX:=hdd iK;clear iK;generalize cG x3.toNat x2.toNat x1.toNat x0.toNat 1=N at*;go_wp2_with fail;go_round;case rel=>exact⟨2,aa,rfl,iU⟩
   case measure=>simp[intOf]
  ·have P8:cG x3.toNat x2.toNat x1.toNat x0.toNat 2<16777216:=(by rw[Mz];omega);have iK:((cG x3.toNat x2.toNat x1.toNat x0.toNat 3:Nat):Int)=256*((cG x3.toNat x2.toNat x1.toNat x0.toNat 2:Nat):Int)+(x1.toNat:Int):=(by rw[Mz,MA];omega);have HX:=hdd iK;clear iK;generalize cG x3.toNat x2.toNat x1.toNat x0.toNat 2=N at*;go_wp2_with fail;go_round;case rel=>exact⟨3,aa,rfl,iU⟩
   case measure=>simp[intOf]
  ·have P8:cG x3.toNat x2.toNat x1.toNat x0.toNat 3<16777216:=(by rw[MA];omega);have iK:((cG x3.toNat x2.toNat x1.toNat x0.toNat 4:Nat):Int)=256*((cG x3.toNat x2.toNat x1.toNat x0.toNat 3:Nat):Int)+(x0.toNat:Int):=(by rw[MA,VR];omega);have HX:=hdd iK;clear iK;generalize cG x3.toNat x2.toNat x1.toNat x0.toNat 3=N at*;go_wp2_with fail;go_round;case rel=>exact⟨4,aa,rfl,iU⟩
   case measure=>simp[intOf]
  ·have e4:((4:Nat):Int)=4:=rfl;rw[e4];rw[←HW.out];go_wp2_with fail;go_ret;exact⟨rfl,rfl⟩
theorem Ih(low:Bool)(b off c:Nat)(x0 x1 x2 x3:UInt8)(w:World)(h0:w.cell? ⟨b,off,none⟩=some (B8 x0))(h1:w.cell? ⟨b,off+1,none⟩=some (B8 x1))(h2:w.cell? ⟨b,off+2,none⟩=some (B8 x2))(h3:w.cell? ⟨b,off+3,none⟩=some (B8 x3)):
  Calls prog 99 #[.slice (some ⟨b,off,none⟩) 4 c,.bool (!low)] w fun e w'=>e= .returned (.int .i64 (word low x0 x1 x2 x3:Nat))∧w=w':=by
 cases low;·exact EY b off c x0 x1 x2 x3 w h0 h1 h2 h3
 ·exact Ig b off c x0 x1 x2 x3 w h0 h1 h2 h3
theorem Ii(id:Int)(hid:Cj id)(back:Bool)(W P:Nat)(w:World)(hW:W<4294967296)(hP:P<4294967296):
  Calls prog 98 #[.int .i64 id,.int .i64 (W:Nat),.int .i64 (P:Nat),.bool back] w fun e w'=>e= .returned (.int .i64 (fL id back W P:Nat))∧w=w':=by
 rcases hid with rfl | rfl | rfl | rfl;·exact Rt back W P w hW hP
 ·exact Ru back W P w hW hP
 ·exact Rv back W P w hW hP
 ·exact Mr back W P w hW hP
def Cn(id:Int)(start:Nat):Bool:=(id==5||id==7||id==9||id==10)&&start%4==0
theorem Rz(id:Int)(start:Nat):Cn id start=true↔Cj id∧start%4=0:=by unfold Cn Cj;simp[or_assoc]
theorem MB(id:Int)(start:Nat)(w:World):Calls prog 89 #[.int .i64 id,.int .u32 (start:Nat)] w fun e w'=>e= .returned (.bool (Cn id start))∧w=w':=by
 have hs:((start:Int)%4==0)=(start%4==0):=by rw[Bool.eq_iff_iff];simp;omega
 have hm:Cn id start=((id==5||id==7||id==9||id==10)&&start%4==0):=rfl;generalize Cn id start=M at*;generalize(start%4==0)=T at*;by_cases h5:id=5;·subst h5;simp only[show((5:Int)==5)=true from rfl,Bool.true_or,Bool.true_and]at hm;subst hm;go_enter func89,ntmps89;go_wp2_with fail;go_ret;exact⟨rfl,rfl⟩
 ·have b5:(id==5)=false:=by simp[h5]
  by_cases h7:id=7;·subst h7;simp only[show((7:Int)==7)=true from rfl,Bool.or_true,Bool.true_or,Bool.true_and]at hm;subst hm;clear h5 b5;go_enter func89,ntmps89;go_wp2_with fail;go_ret;exact⟨rfl,rfl⟩
  ·have b7:(id==7)=false:=(by simp[h7]);by_cases h9:id=9;·subst h9;simp only[show((9:Int)==9)=true from rfl,Bool.or_true,Bool.true_or,Bool.true_and]at hm;subst hm;clear h5 b5 h7 b7;go_enter func89,ntmps89;go_wp2_with fail;go_ret;exact⟨rfl,rfl⟩
   ·have b9:(id==9)=false:=(by simp[h9]);rw[b5,b7,b9]at hm;simp only[Bool.false_or]at hm;by_cases uR:id=10;·subst uR;simp only[show((10:Int)==10)=true from rfl,Bool.true_and]at hm;subst hm;clear h5 b5 h7 b7 h9 b9;go_enter func89,ntmps89;go_wp2_with fail;go_ret;exact⟨rfl,rfl⟩
    ·have b10:(id==10)=false:=(by simp[uR]);rw[b10]at hm;simp only[Bool.false_and]at hm;subst hm;clear h5 h7 h9 uR;go_enter func89,ntmps89;go_wp2_with fail;go_ret;exact⟨rfl,rfl⟩
theorem MC(id:Int)(hid:Cj id)(back:Bool)(start:Nat)(bJ:start<4294967296)(A:Option Addr)(l:List UInt8)(c:Nat)(w:World)(hB:Bytes w A l)(hm:l.length≤1000000)(hc:l.length≤c)(_hcm:c≤9223372036854775807):
  Calls prog 58 #[.int .i64 id,.int .u32 (start:Nat),.slice A l.length c,.bool back] w (EX w (dh (ga id) (fL id back) start l)):=by
 have Ei:(id==5||id==9)= !(ga id):=by rcases hid with rfl | rfl | rfl | rfl<;>rfl
 have HT:=hdd (Ii id hid back);have HL:=hdd (Kq id back);have zj:dh (ga id) (fL id back) start l=pre (ga id) (fL id back) start l (l.length/4)++l.drop (4*(l.length/4)):=rfl;have ZZ:=hdd zj;clear zj hid;generalize dh (ga id) (fL id back) start l=X at*;generalize ga id=low at*;generalize fL id back=cv at*;go_enter func58,ntmps58;go_wp2_with fail;go_loopw [9,10] (fun v i wr=> ∃(k:Nat),4*k≤l.length∧i= .int .i64 (4*k:Nat)∧Own w.heap.size wr v (pre low cv start l k)∧Below w.heap.size w wr) (fun _ i _=>l.length-(intOf i).toNat);case atStart=>exact⟨0,aa,rfl,Own.nil _ _,Below.refl _ _⟩
 case round=>
  obtain⟨k,hk,rfl,aD,hb⟩:=hrel;have rI:=ke low cv start l k hk;by_cases aF:4*k<l.length
  ·by_cases hle:4*k+4≤l.length
   ·obtain⟨b,off,rfl,fF,hcell⟩:=(hB.below hb).addr aa;obtain⟨x0,x1,x2,x3,t,e⟩:=pg l (4*k) hle;have p_:Hid (pre low cv start l (k+1)=pre low cv start l k++bytesOf low (cv (word low x0 x1 x2 x3) ((start+4*k)%4294967296))):=(by apply hdd;simp only[pre,Rs,e]);have hg: ∀j (hj:j<4),wr.cell? ⟨b,off+4*k+j,none⟩=some (B8 ([x0,x1,x2,x3][j])):=by
     intro j hj;have h1:=hcell (4*k+j) aa;have h2:l[4*k+j]? =some [x0,x1,x2,x3][j]:=by
      have:=congrArg (fun q:List UInt8=>q[j]?) e;simp only[List.getElem?_drop]at this;rw[this];match j,hj with
      | 0,_=>rfl
      | 1,_=>rfl
      | 2,_=>rfl
      | 3,_=>rfl
     rw[List.getElem?_eq_getElem aa]at h2;injection h2 with h2;rw[Nat.add_assoc,h1,h2]
    have h0:=hg 0 aa;have h1:=hg 1 aa;have h2:=hg 2 aa;have h3:=hg 3 aa;rw[Nat.add_zero]at h0;simp only[List.getElem_cons_zero,List.getElem_cons_succ]at h0 h1 h2 h3;have HNB:=hdd (Ih low b (off+4*k) (c-4*k) x0 x1 x2 x3 wr h0 h1 h2 h3);have N1:=word_lt low x0 x1 x2 x3;have pG:=HL.out (word low x0 x1 x2 x3) ((start+4*k)%4294967296) N1;have HC:=hdd (HT.out (word low x0 x1 x2 x3) ((start+4*k)%4294967296) wr N1 aa);generalize word low x0 x1 x2 x3=W at*;generalize cv W ((start+4*k)%4294967296)=V at*;have HF:=hdd (Ry V low wr pG);have aeZ:=bytesOf_length low V;generalize bytesOf low V=BV at*;have k0: ¬c=4*k:=aa;have hpp:((start:Int)+4*(k:Int))%4294967296=(((start+4*k)%4294967296:Nat):Int):=aa;generalize(start+4*k)%4294967296=PL at*;have bt:(pre low cv start l k).length+BV.length≤140737488355328:=aa;have RC:=hdd bt;clear hg h0 h1 h2 h3 e hcell bt;generalize pre low cv start l k=R at*;generalize BM:(!low)=nl at*;have HNL:=hdd BM;have iz:=hdd aeZ;have CO:=hdd rI;clear BM aeZ rI;have h5:((id==5)=true∧nl=true)∨((id==5)=false∧(id==9)=nl):=by
     cases h:(id==5)with
     | true=>left;rw[h,Bool.true_or]at Ei;exact⟨rfl,Ei.symm⟩
     | false=>right;rw[h,Bool.false_or]at Ei;exact⟨rfl,Ei⟩
    clear Ei;have Tw:=hdd hpp;clear hpp;rcases h5 with⟨h5,rfl⟩ | ⟨h5,h9⟩
    all_goals
     go_wp2_with fail;refine HNB.out.mono ?_;rintro e w' ⟨rfl,rfl⟩;go_wp2_with fail;rw[Tw.out];refine HC.out.mono ?_;rintro e w' ⟨rfl,rfl⟩;go_wp2_with fail;refine HF.out.mono ?_;rintro e w3 ⟨v3,rfl,gW,aW⟩;obtain⟨A3,c3,rfl,lu,Oh,nR⟩:=gW.read;have bj:=aD.below aW;have kt:=aO hb aW;clear aD gW;go_wp2_with (at_builtin;refine aj rfl (.tmp 40) (.tmp 53) rfl w.heap.size _ _ R rfl bj A3 BV c3 rfl nR RC.out kt.size ?_;intro v4 w4 cH dK;have bc:=am kt dK kt.size (fun g hg=>(bj.aw g hg).1))
     go_roundw;case rel=>exact⟨k+1,aa,aq,by rw[p_.out];exact cH,bc⟩
     case measure=>simp[intOf];omega
   ·obtain⟨b,off,rfl,fF,hcell⟩:=(hB.below hb).addr aa;have UG:Bytes wr (some ⟨b,off+4*k,none⟩) (l.drop (4*k)):=Bytes.drop (4*k) (.inr ⟨b,off,rfl,fF,hcell⟩);have TM:(l.drop (4*k)).length=l.length-4*k:=List.length_drop ..;have Ya:l.length/4=k:=aa;have hx:=ZZ.out;rw[Ya]at hx;have HX:=hdd hx;have bt:(pre low cv start l k).length+(l.drop (4*k)).length≤140737488355328:=aa;have RC:=hdd bt;have Lv:=hdd TM;have k0: ¬c=4*k:=aa;clear hx Ya hcell TM rI bt;generalize l.drop (4*k)=D at*;generalize pre low cv start l k=R at*;go_wp2_with (at_builtin;refine aj rfl (.tmp 24) (.tmp 27) rfl w.heap.size _ _ R rfl aD (some ⟨b,off+4*k,none⟩) D (c-4*k) (by rw[Lv.out];rfl) UG RC.out hb.size ?_;intro v4 w4 cH dK;have bc:=am hb dK hb.size (fun g hg=>(aD.aw g hg).1))
    go_ret;exact⟨_,rfl,by rw[HX.out];exact cH,bc⟩
  ·have Ya:l.length/4=k:=(by omega);have hx:=ZZ.out;rw[Ya,List.drop_eq_nil_of_le aa,List.append_nil]at hx;have HX:=hdd hx;clear hx Ya rI;go_wp2_with fail;go_ret;exact⟨_,rfl,by rw[HX.out];exact aD,hb⟩
theorem ol(x:UInt8):UInt8.ofNat x.toNat=x:=ae
theorem Co(low:Bool)(a b c d:UInt8):bytesOf low (word low a b c d)=[a,b,c,d]:=by
 have h1:=a.toNat_lt;have h2:=b.toNat_lt;have h3:=c.toNat_lt;have h4:=d.toNat_lt;cases low with
 | true=>
  simp only[bytesOf,word,if_true]
  rw[show(a.toNat+b.toNat*256+c.toNat*65536+d.toNat*16777216)%256=a.toNat by omega,
   show(a.toNat+b.toNat*256+c.toNat*65536+d.toNat*16777216)/256%256=b.toNat by omega,
   show(a.toNat+b.toNat*256+c.toNat*65536+d.toNat*16777216)/65536%256=c.toNat by omega,
   show(a.toNat+b.toNat*256+c.toNat*65536+d.toNat*16777216)/16777216%256=d.toNat by omega,ol,ol,ol,ol]
 | false=>
  simp only[bytesOf,word,Bool.false_eq_true,if_false]
  rw[show(d.toNat+c.toNat*256+b.toNat*65536+a.toNat*16777216)%256=d.toNat by omega,
   show(d.toNat+c.toNat*256+b.toNat*65536+a.toNat*16777216)/256%256=c.toNat by omega,
   show(d.toNat+c.toNat*256+b.toNat*65536+a.toNat*16777216)/65536%256=b.toNat by omega,
   show(d.toNat+c.toNat*256+b.toNat*65536+a.toNat*16777216)/16777216%256=a.toNat by omega,ol,ol,ol,ol]
theorem ofNat_mod(n:Nat):(UInt8.ofNat (n%256)).toNat=n%256:=by have:n%256<256:=aa;simp[Nat.mod_eq_of_lt this]
theorem si(low:Bool)(W:Nat)(h:W<4294967296): ∃a b c d,bytesOf low W=[a,b,c,d]∧word low a b c d=W:=by
 cases low with
 | true=>
  refine⟨_,_,_,_,rfl,?_⟩;simp only[word,if_true];rw[ofNat_mod W,ofNat_mod (W/256),ofNat_mod (W/65536),ofNat_mod (W/16777216)];omega
 | false=>
  refine⟨_,_,_,_,rfl,?_⟩;simp only[word,Bool.false_eq_true,if_false];rw[ofNat_mod W,ofNat_mod (W/256),ofNat_mod (W/65536),ofNat_mod (W/16777216)];omega
theorem pre_parts(low:Bool)(cv:Nat→Nat→Nat)(start:Nat)(l:List UInt8)(k n:Nat)(h:k<n): ∃t,pre low cv start l n=pre low cv start l k++Rs low cv start l k++t:=by
 induction n with
 | zero=>omega
 | succ n ih=>
  by_cases e:k=n;·subst e;exact⟨[],by simp[pre]⟩
  ·obtain⟨t,ht⟩:=ih aa;exact⟨t++Rs low cv start l n,by simp only[pre,ht,List.append_assoc]⟩
theorem mJ(low:Bool)(cv:Nat→Nat→Nat)(start:Nat)(l:List UInt8):(dh low cv start l).length=l.length:=by unfold dh;rw[List.length_append,ke _ _ _ _ _ aa,List.length_drop];omega
theorem Ij(low:Bool)(cv:Nat→Nat→Nat)(start:Nat)(l:List UInt8):(dh low cv start l).drop (4*(l.length/4))=l.drop (4*(l.length/4)):=by unfold dh;exact List.drop_left' (ke _ _ _ _ _ aa)
theorem RD(low:Bool)(cv uO:Nat→Nat→Nat)(aF: ∀W P,W<4294967296→cv W P<4294967296)(hb: ∀W P,W<4294967296→uO (cv W P) P=W)(start:Nat)(l:List UInt8)(k:Nat)(hk:4*k≤l.length):
  pre low uO start (dh low cv start l) k=l.take (4*k):=by
 induction k with
 | zero=>simp[pre]
 | succ k ih=>
  have hx:=ih aa;obtain⟨a,b,c,d,t,e⟩:=pg l (4*k) aa;obtain⟨u,hu⟩:=pre_parts low cv start l k (l.length/4) aa;have hg:Rs low cv start l k=bytesOf low (cv (word low a b c d) ((start+4*k)%4294967296)):=by unfold Rs;rw[e]
  obtain⟨a',b',c',d',h1,h2⟩:=si low _ (aF (word low a b c d) ((start+4*k)%4294967296) (word_lt low a b c d));have hd:(dh low cv start l).drop (4*k)=a'::b'::c'::d'::(u++l.drop (4*(l.length/4))):=by unfold dh;rw[hu,hg,h1,List.append_assoc,List.append_assoc,List.drop_left' (ke _ _ _ _ _ aa)];rfl
  have iV:Rs low uO start (dh low cv start l) k=[a,b,c,d]:=by unfold Rs;rw[hd];simp only;rw[h2,hb _ _ (word_lt low a b c d),Co]
  simp only[pre,hx,iV];rw[show 4*(k+1)=4*k+4 by omega,List.take_add,e];rfl
theorem Ik(low:Bool)(cv uO:Nat→Nat→Nat)(aF: ∀W P,W<4294967296→cv W P<4294967296)(hb: ∀W P,W<4294967296→uO (cv W P) P=W)(start:Nat)(l:List UInt8):dh low uO start (dh low cv start l)=l:=by have h:=RD low cv uO aF hb start l (l.length/4) aa;have ht:=Ij low cv start l;have hl:=mJ low cv start l;generalize dh low cv start l=X at*;unfold dh;rw[hl,h,ht,List.take_append_drop]
theorem VS(id:Int)(back:Bool)(start:Nat)(l:List UInt8):dh (ga id) (fL id (!back)) start (dh (ga id) (fL id back) start l)=l:=
 Ik _ _ _ (fun W P h=>Kq id back W P h) (fun W P h=>Mv id back W P h) start l
namespace Delta
abbrev at_(l:List UInt8)(i:Nat):UInt8:=l.getD i 0
def back(l:List UInt8)(d k:Nat):UInt8:=if d≤k then at_ l (k-d)else 0
def lQ(l:List UInt8)(d k:Nat):List UInt8:=(List.range k).map fun i=>at_ l i-back l d i
def eh(l:List UInt8)(d:Nat):Nat→List UInt8
 | 0=>[]
 | k+1=>eh l d k++[at_ l k+back (eh l d k) d k]
def enc(l:List UInt8)(d:Nat):List UInt8:=lQ l d l.length
def dec(l:List UInt8)(d:Nat):List UInt8:=eh l d l.length
theorem xR(l:List UInt8)(d k:Nat):eh l d (k+1)=eh l d k++[at_ l k+back (eh l d k) d k]:=rfl
theorem iu(l:List UInt8)(d k:Nat):(lQ l d k).length=k:=by simp[lQ]
theorem ez(l:List UInt8)(d k:Nat):(eh l d k).length=k:=by
 induction k with
 | zero=>rfl
 | succ k ih=>simp[eh,ih]
theorem mK(l:List UInt8)(d:Nat):(enc l d).length=l.length:=iu _ _ _
theorem qu(l:List UInt8)(d:Nat):(dec l d).length=l.length:=ez _ _ _
theorem xS(l:List UInt8)(d k:Nat):lQ l d (k+1)=lQ l d k++[at_ l k-back l d k]:=by simp[lQ,List.range_succ]
theorem om(a b:List UInt8)(i:Nat)(h:i<a.length):at_ (a++b) i=at_ a i:=by simp[at_,List.getD,List.getElem?_append_left h]
theorem on(a:List UInt8)(x:UInt8):at_ (a++[x]) a.length=x:=by simp[at_,List.getD]
theorem EZ(l:List UInt8)(d i k:Nat)(h:i<k): ∀n,k≤n→at_ (eh l d n) i=at_ (eh l d k) i:=by
 intro n hn;induction n with
 | zero=>omega
 | succ n ih=>
  rcases Nat.lt_or_ge n k with h2 | h2;·obtain rfl:k=n+1:=(by omega);rfl
  ·rw[←ih h2,eh,om _ _ _ (by rw[ez];omega)]
theorem t_(l:List UInt8)(d i:Nat)(ky:1≤d)(h:i<l.length):at_ (dec l d) i=at_ l i+back (dec l d) d i:=by
 have h1:at_ (dec l d) i=at_ (eh l d (i+1)) i:=EZ l d i (i+1) aa l.length aa;have h2:at_ (eh l d (i+1)) i=at_ l i+back (eh l d i) d i:=by have:=on (eh l d i) (at_ l i+back (eh l d i) d i);rw[ez]at this;rw[eh];exact this
 have h3:back (eh l d i) d i=back (dec l d) d i:=by
  unfold back;by_cases hd:d≤i;·rw[if_pos hd,if_pos hd];exact(EZ l d (i-d) i aa l.length aa).symm
  ·rw[if_neg hd,if_neg hd]
 rw[h1,h2,h3]
theorem u_(l:List UInt8)(d i:Nat)(h:i<l.length):at_ (enc l d) i=at_ l i-back l d i:=by simp[at_,enc,lQ,List.getD,h]
theorem v_(a b:List UInt8)(hl:a.length=b.length)(h: ∀i,i<a.length→at_ a i=at_ b i):a=b:=by apply List.ext_getElem hl;intro i h1 h2;have:=h i h1;simpa [at_,List.getD,h1,h2]using this
theorem VT(l:List UInt8)(d:Nat)(hd:1≤d):dec (enc l d) d=l:=by
 have hl:(dec (enc l d) d).length=l.length:=by rw[qu,mK]
 have key: ∀i,i<l.length→at_ (dec (enc l d) d) i=at_ l i:=by
  intro i;induction i using Nat.strongRecOn with
  | _ i ih=>
   intro hi;have hb:back (dec (enc l d) d) d i=back l d i:=by
    unfold back;by_cases h:d≤i;·rw[if_pos h,if_pos h,ih (i-d) aa aa]
    ·rw[if_neg h,if_neg h]
   rw[t_ _ _ _ hd (by rw[mK];exact hi),u_ _ _ _ hi,hb,UInt8.sub_add_cancel]
 exact v_ _ _ hl (fun i hi=>key i (by rw[←hl];exact hi))
def VU(o:List UInt8)(f:Nat→UInt8):Prop:= ∀d,1≤d→d≤256→f ((o.length+256-d)%256)=back o d o.length
theorem VU.nil:VU [] (fun _=>0):=by intro d h1 _;unfold back;rw[if_neg av]
theorem VU.snoc{o:List UInt8}{f:Nat→UInt8}(h:VU o f)(x:UInt8):VU (o++[x]) (fun j=>if j=o.length%256 then x else f j):=by
 intro d h1 h2;rw[List.length_append,List.length_singleton];show(if(o.length+1+256-d)%256=o.length%256 then x else f ((o.length+1+256-d)%256))=_;by_cases e:d=1;·subst e;rw[if_pos aa];unfold back;rw[if_pos aa,Nat.add_sub_cancel,on]
 ·rw[if_neg aa];have:=h (d-1) aa aa;rw[show o.length+256-(d-1)=o.length+1+256-d by omega]at this;rw[this];unfold back;by_cases hd:d≤o.length+1;·rw[if_pos hd,if_pos aa,om _ _ _ aa,show o.length+1-d=o.length-(d-1) by omega]
  ·rw[if_neg hd,if_neg aa]
theorem MD(l:List UInt8)(d k:Nat)(hd:1≤d):back (l.take k) d k=back l d k:=by
 unfold back;by_cases h:d≤k;·rw[if_pos h,if_pos h];simp[at_,List.getD,show k-d<k by omega]
 ·rw[if_neg h,if_neg h]
end Delta
section
namespace De
open Go.RowKit Go.Proofs.YtgfpocdiojifoaaGreatDoor
def kf(w:World)(l:List UInt8)(err:Int)(e:Ending)(w':World):Prop:= ∃v,e= .returned (.tuple #[v,.int .i64 err])∧Own w.heap.size w' v l∧Below w.heap.size w w'
theorem RF(a b:UInt8):IntKind.u8.wrap ((a.toNat:Int)-(b.toNat:Int))=((a-b).toNat:Int):=by have h1:=a.toNat_lt;have h2:=b.toNat_lt;rw[IntKind.wrap_u8',UInt8.toNat_sub];omega
theorem w_(a b:UInt8):IntKind.u8.wrap ((a.toNat:Int)+(b.toNat:Int))=((a+b).toNat:Int):=by rw[IntKind.wrap_u8',UInt8.toNat_add];omega
theorem alt(v b:UInt8)(w:World):Calls prog 118 #[.int .u8 v.toNat,.int .u8 b.toNat] w fun e w'=>e= .returned (.tuple #[.int .u8 (v-b).toNat,.int .u8 v.toNat])∧w=w':=by have h:=RF v b;rw[IntKind.wrap_u8']at h;go_enter func118,ntmps118;go_wp2_with fail;go_ret2;exact⟨congrArg (fun n:Int=>Ending.returned (.tuple #[.int .u8 n,.int .u8 v.toNat])) h,rfl⟩
theorem alu(v b:UInt8)(w:World):Calls prog 188 #[.int .u8 v.toNat,.int .u8 b.toNat] w fun e w'=>e= .returned (.tuple #[.int .u8 (v+b).toNat,.int .u8 (v+b).toNat])∧w=w':=by have h:=w_ v b;rw[IntKind.wrap_u8']at h;go_enter func188,ntmps188;go_wp2_with fail;go_ret2;exact⟨congrArg (fun n:Int=>Ending.returned (.tuple #[.int .u8 n,.int .u8 n])) h,rfl⟩
def pY:Array Value:=Array.replicate 256 (.int .u8 0)
theorem Yb:(prog.info? 223).map (fun i=>(i.zero,i.size))=some (some (.agg pY),256):=ak
theorem E5(w:World):(w.alloc (.cells pY 223)).rowIs w.heap.size 223 256 (fun _=>B8 0):=by
 have h:=World.rowIs_alloc w pY 223 (fun _=>B8 0) (fun i hi=>by
  unfold pY at hi ⊢;rw[Array.getElem?_replicate,if_pos jp];rfl)
 have e:pY.size=256:=by simp[pY]
 rwa [e]at h
theorem xT(n:Nat):(madeCells (Value.int .u8 0).cells (n*1)).toList=(List.replicate n (0:UInt8)).map B8:=by rw[Nat.mul_one,show(Value.int .u8 0).cells= #[Value.int .u8 0]from rfl,toList_madeCells_one,List.map_replicate];rfl
theorem xU(k:Nat)(d:Int)(h1:1≤d)(h2:d≤256)(hk:k≤9223372036854775807):IntKind.u8.wrap ((k:Int)-d)=(((k+256-d.toNat)%256:Nat):Int):=by rw[IntKind.wrap_u8'];omega
theorem Cp(l:List UInt8)(k:Nat)(h:k<l.length):Delta.at_ l k=l[k]:=by simp[Delta.at_,List.getD,h]
theorem E6(a:List UInt8)(n k:Nat)(x:UInt8)(ha:a.length=k)(hk:k<n):((a++List.replicate (n-k) 0).map B8).set k (B8 x)=((a++[x])++List.replicate (n-(k+1)) 0).map B8:=by
 rw[←List.map_set];congr 1;obtain⟨m,hm⟩: ∃m,n-k=m+1:=⟨n-k-1,aa⟩
 rw[hm,show n-(k+1)=m by omega,List.replicate_succ,List.set_append_right _ _ aa,ha,Nat.sub_self,List.set_cons_zero,List.append_assoc];rfl
theorem iP{w:World}{base fO e n:Nat}{v:Value}{xs:List Value}(h:w.ownsRow base e 1 v n xs)(hb:fO≤base):w.ownsRow fO e 1 v n xs:=by
 rcases h with⟨h1,h2 | ⟨g,cap,cur,h2,h3,h4⟩⟩
 ·exact⟨h1,.inl h2⟩
 ·exact⟨h1,.inr ⟨g,cap,cur,h2,aa,h4⟩⟩
theorem RG(A:Option Addr)(l:List UInt8)(c:Nat)(d:Int)(w:World)(hB:Bytes w A l)(hm:l.length≤140737488355328)(ky:1≤d)(pL:d≤256):
  Calls prog 117 #[.slice A l.length c,.int .i64 d,.func (.func 118) #[] #[]] w (kf w (Delta.enc l d.toNat) 0):=by
 have hz:=(zero_of_info Yb).1;obtain⟨i,hi,nE,gU,qR⟩:=info_parts pE;have g1:decide (d<1)=false:=av;have g2:decide (256<d)=false:=av;have Ld:i.bytes*l.length≤281474976710656:=mc;have qS:l.length≤maxLen:=gD;have wP:=E5 w;have eH:Below w.heap.size w (w.alloc (.cells pY 223)):=ap;go_enter func117,ntmps117;go_wp2_with (refine wpList_make_full _ rfl _ _ 22 rfl (w.heap.size+1) 5 i (.int .u8 0) 1 underlying22 hi nE gU _ _ _ _ l.length rfl rfl rfl rfl Ld qS ae ?_;intro w1 cE iY)
 rw[xT]at cE;have jZ:w1.rowIs w.heap.size 223 256 (fun _=>B8 0):=wP.of_block (iY.block _ ae ae);have aC:Below w.heap.size w w1:=am eH iY eH.size ae;have dJ:(w.alloc (.cells pY 223)).heap.size=w.heap.size+1:=ae;rw[dJ]at cE;clear hz wP eH iY hi nE gU qR Ld dJ;generalize hg:w.heap.size+1=g at*;have qc:w.heap.size<g:=aa;have HG:=hdd hg;clear hg;generalize VV:d.toNat=dn at*;have HD:=hdd VV;have RH:1≤dn:=aa;have x_:dn≤256:=aa;clear VV g1 g2;go_loopw [23] (fun i wr=> ∃(k:Nat) (f:Nat→UInt8),k≤l.length∧i= .int .i64 k∧wr.rowIs w.heap.size 223 256 (fun j=>B8 (f j))∧Delta.VU (l.take k) f∧wr.ownsRow g 5 1 (.slice (some ⟨g,0,none⟩) l.length l.length) l.length ((Delta.lQ l dn k++List.replicate (l.length-k) 0).map B8)∧Below w.heap.size w wr) (fun i _=>l.length-(intOf i).toNat);case atStart=>exact⟨0,fun _=>0,aa,rfl,jZ,Delta.VU.nil,by simpa [Delta.lQ]using cE,aC⟩
 case round=>
  clear jZ cE aC;obtain⟨k,f,hk,rfl,hr,hw,aD,hb⟩:=hrel;by_cases aF:k<l.length
  ·obtain⟨b,off,rfl,fF,hcell⟩:=(hB.below hb).addr aa;have tQ:=hcell k aF;have hlen:(l.take k).length=k:=qa;have Cm:=hw dn RH x_;rw[hlen]at Cm;have ZM:=xU k d ky pL aa;rw[HD.out]at ZM;have ae0:=hr.cell (i:=(k+256-dn)%256) aa;have y_:=hr.cell (i:=k%256) aa;have hrf:=hr.frozen (k%256);have bJ:=hdd (aD.stored k);have XZ:=aD.cellAt k aa;have hof:=aD.frozenAt k;rw[List.getElem?_map,List.getElem?_append_right (by rw[Delta.iu];exact Nat.le_refl _),Delta.iu,Nat.sub_self,List.getElem?_replicate,if_pos aa]at XZ;simp only[Option.map]at XZ;have BI:IntKind.u8.wrap (k:Int)=((k%256:Nat):Int):=uX;have Cq:=hdd (E6 (Delta.lQ l dn k) l.length k (Delta.at_ l k-Delta.back l dn k) (Delta.iu _ _ _) aF);have ru:=hdd (Delta.xS l dn k);have bU:=hdd (List.take_succ_eq_append_getElem aF);have Dj:=hdd (hw.snoc (Delta.at_ l k));have aC:(((k+256-dn)%256:Nat):Int)<256:=aa;have aE:((k%256:Nat):Int)<256:=aa;generalize fg:f ((k+256-dn)%256)=bb at*;generalize fX:(k+256-dn)%256=m1 at*;generalize eY:k%256=m2 at*;have jd:=hdd fX;have ry:=hdd eY;have oX:=hdd fg;have HWD:=hdd Cm;have HW:=hdd hw;have bx:=Cp l k aF;generalize hv:l[k]=v at*;have HV:=hdd hv;have Ho:=hdd bx;clear fX eY fg Cm hw hv bx hcell;go_wp2_with fail;refine(alt v bb _).mono ?_;rintro e w' ⟨rfl,rfl⟩;generalize Yc:v-bb=sv at*;have HSV:=hdd Yc;clear Yc;go_wp2_with fail;go_roundw;case rel=>
    have ni:bb=Delta.back (l.take k) dn k:=HWD.out;have hx:sv=Delta.at_ l k-Delta.back l dn k:=(by rw[←HSV.out,ni,Ho.out];rw[Delta.MD _ _ _ RH]);obtain⟨kG,ro⟩:=bJ.out (B8 sv);have h3:=Cq.out;have h4:=ru.out;rw[←hx]at h3 h4;rw[h3,←h4]at kG;refine⟨k+1,fun j=>if j=m2 then v else f j,aa,aq,?_,?_,?_,?_⟩;·refine((hr.setOther av _).set m2 _).congr fun j _=> ?_;by_cases e:j=m2<;>simp[e]
    ·have h2:=Dj.out;rw[hlen,ry.out]at h2;rw[Ho.out]at h2;rw[bU.out];exact h2
    ·exact(World.ownsRow.kept (row:=some w.heap.size) kG ⟨rfl,rfl,rfl,ae,fun j _ hj=>heap_setCell_other _ _ j _ (fun e=>hj (by simp[e]))⟩ (.inr (by simp[Value.ownBlock];omega)))
    ·exact(hb.setCell av _).setCell ae _
   case measure=>simp[intOf];omega
  ·obtain rfl:k=l.length:=(by omega);go_wp2_with fail;go_ret2;refine⟨_,rfl,?_,hb⟩;rw[Nat.sub_self,List.replicate_zero,List.append_nil]at aD;have hl:(Delta.enc l dn).length=l.length:=Delta.mK _ _;unfold Own;rw[hl];exact iP aD aa
theorem RI(A:Option Addr)(l:List UInt8)(c:Nat)(d:Int)(w:World)(hB:Bytes w A l)(hm:l.length≤140737488355328)(ky:1≤d)(pL:d≤256):
  Calls prog 117 #[.slice A l.length c,.int .i64 d,.func (.func 188) #[] #[]] w (kf w (Delta.dec l d.toNat) 0):=by
 have hz:=(zero_of_info Yb).1;obtain⟨i,hi,nE,gU,qR⟩:=info_parts pE;have g1:decide (d<1)=false:=av;have g2:decide (256<d)=false:=av;have Ld:i.bytes*l.length≤281474976710656:=mc;have qS:l.length≤maxLen:=gD;have wP:=E5 w;have eH:Below w.heap.size w (w.alloc (.cells pY 223)):=ap;go_enter func117,ntmps117;go_wp2_with (refine wpList_make_full _ rfl _ _ 22 rfl (w.heap.size+1) 5 i (.int .u8 0) 1 underlying22 hi nE gU _ _ _ _ l.length rfl rfl rfl rfl Ld qS ae ?_;intro w1 cE iY)
 rw[xT]at cE;have jZ:w1.rowIs w.heap.size 223 256 (fun _=>B8 0):=wP.of_block (iY.block _ ae ae);have aC:Below w.heap.size w w1:=am eH iY eH.size ae;have dJ:(w.alloc (.cells pY 223)).heap.size=w.heap.size+1:=ae;rw[dJ]at cE;clear hz wP eH iY hi nE gU qR Ld dJ;generalize hg:w.heap.size+1=g at*;have qc:w.heap.size<g:=aa;have HG:=hdd hg;clear hg;generalize VV:d.toNat=dn at*;have HD:=hdd VV;have RH:1≤dn:=aa;have x_:dn≤256:=aa;clear VV g1 g2;go_loopw [23] (fun i wr=> ∃(k:Nat) (f:Nat→UInt8),k≤l.length∧i= .int .i64 k∧wr.rowIs w.heap.size 223 256 (fun j=>B8 (f j))∧Delta.VU (Delta.eh l dn k) f∧wr.ownsRow g 5 1 (.slice (some ⟨g,0,none⟩) l.length l.length) l.length ((Delta.eh l dn k++List.replicate (l.length-k) 0).map B8)∧Below w.heap.size w wr) (fun i _=>l.length-(intOf i).toNat);case atStart=>exact⟨0,fun _=>0,aa,rfl,jZ,Delta.VU.nil,by simpa [Delta.eh]using cE,aC⟩
 case round=>
  clear jZ cE aC;obtain⟨k,f,hk,rfl,hr,hw,aD,hb⟩:=hrel;by_cases aF:k<l.length
  ·obtain⟨b,off,rfl,fF,hcell⟩:=(hB.below hb).addr aa;have tQ:=hcell k aF;have hlen:(Delta.eh l dn k).length=k:=(by exact Delta.ez _ _ _);have Cm:=hw dn RH x_;rw[hlen]at Cm;have ZM:=xU k d ky pL aa;rw[HD.out]at ZM;have ae0:=hr.cell (i:=(k+256-dn)%256) aa;have y_:=hr.cell (i:=k%256) aa;have hrf:=hr.frozen (k%256);have bJ:=hdd (aD.stored k);have XZ:=aD.cellAt k aa;have hof:=aD.frozenAt k;rw[List.getElem?_map,List.getElem?_append_right (by rw[Delta.ez];exact Nat.le_refl _),Delta.ez,Nat.sub_self,List.getElem?_replicate,if_pos aa]at XZ;simp only[Option.map]at XZ;have BI:IntKind.u8.wrap (k:Int)=((k%256:Nat):Int):=uX;have Cq:=hdd (E6 (Delta.eh l dn k) l.length k (Delta.at_ l k+Delta.back (Delta.eh l dn k) dn k) (Delta.ez _ _ _) aF);have ru:=hdd (Delta.xR l dn k);have bU:=hdd (Delta.xR l dn k);have Dj:=hdd (hw.snoc (Delta.at_ l k+Delta.back (Delta.eh l dn k) dn k));have aC:(((k+256-dn)%256:Nat):Int)<256:=aa;have aE:((k%256:Nat):Int)<256:=aa;generalize fg:f ((k+256-dn)%256)=bb at*;generalize fX:(k+256-dn)%256=m1 at*;generalize eY:k%256=m2 at*;have jd:=hdd fX;have ry:=hdd eY;have oX:=hdd fg;have HWD:=hdd Cm;have HW:=hdd hw;have bx:=Cp l k aF;generalize hv:l[k]=v at*;have HV:=hdd hv;have Ho:=hdd bx;clear fX eY fg Cm hw hv bx hcell;go_wp2_with fail;refine(alu v bb _).mono ?_;rintro e w' ⟨rfl,rfl⟩;generalize Yc:v+bb=sv at*;have HSV:=hdd Yc;clear Yc;go_wp2_with fail;go_roundw;case rel=>
    have ni:bb=Delta.back (Delta.eh l dn k) dn k:=HWD.out;have hx:sv=Delta.at_ l k+Delta.back (Delta.eh l dn k) dn k:=(by rw[←HSV.out,ni,Ho.out]);obtain⟨kG,ro⟩:=bJ.out (B8 sv);have h3:=Cq.out;have h4:=ru.out;rw[←hx]at h3 h4;rw[h3,←h4]at kG;refine⟨k+1,fun j=>if j=m2 then sv else f j,aa,aq,?_,?_,?_,?_⟩;·refine((hr.setOther av _).set m2 _).congr fun j _=> ?_;by_cases e:j=m2<;>simp[e]
    ·have h2:=Dj.out;rw[hlen,ry.out]at h2;rw[←hx]at h2;rw[h4];exact h2
    ·exact(World.ownsRow.kept (row:=some w.heap.size) kG ⟨rfl,rfl,rfl,ae,fun j _ hj=>heap_setCell_other _ _ j _ (fun e=>hj (by simp[e]))⟩ (.inr (by simp[Value.ownBlock];omega)))
    ·exact(hb.setCell av _).setCell ae _
   case measure=>simp[intOf];omega
  ·obtain rfl:k=l.length:=(by omega);go_wp2_with fail;go_ret2;refine⟨_,rfl,?_,hb⟩;rw[Nat.sub_self,List.replicate_zero,List.append_nil]at aD;have hl:(Delta.dec l dn).length=l.length:=Delta.qu _ _;unfold Own;rw[hl];exact iP aD aa
theorem qt(A:Option Addr)(l:List UInt8)(c:Nat)(d:Int)(w:World)(hB:Bytes w A l)(hm:l.length≤140737488355328)(ky:1≤d)(pL:d≤256):
  Calls prog 69 #[.slice A l.length c,.int .i64 d] w (kf w (Delta.enc l d.toNat) 0):=by
 go_enter func69,ntmps69;go_wp2_with fail;refine(RG A l c d _ hB hm ky pL).mono ?_;rintro e w' ⟨v,rfl,ho,hb⟩;go_wp2_with fail;go_ret2;exact⟨v,rfl,ho,hb⟩
theorem Il(A:Option Addr)(l:List UInt8)(c:Nat)(d:Int)(w:World)(hB:Bytes w A l)(hm:l.length≤140737488355328)(ky:1≤d)(pL:d≤256):
  Calls prog 153 #[.slice A l.length c,.int .i64 d] w (kf w (Delta.dec l d.toNat) 0):=by
 go_enter func153,ntmps153;go_wp2_with fail;refine(RI A l c d _ hB hm ky pL).mono ?_;rintro e w' ⟨v,rfl,ho,hb⟩;go_wp2_with fail;go_ret2;exact⟨v,rfl,ho,hb⟩
end De
end
section
namespace De
open Go.RowKit Go.Proofs.YtgfpocdiojifoaaGreatDoor
def li(w:World)(l:List UInt8)(e:Ending)(w':World):Prop:= ∃v,e= .returned v∧Own w.heap.size w' v l∧Below w.heap.size w w'
theorem RJ(l:List UInt8)(d k:Nat)(h:d≤k):Delta.back l d k=Delta.at_ l (k-d):=by unfold Delta.back;rw[if_pos h]
theorem VW(l:List UInt8)(d k:Nat)(h: ¬d≤k):Delta.back l d k=0:=by unfold Delta.back;rw[if_neg h]
theorem Im(A:Option Addr)(l:List UInt8)(c:Nat)(d:Int)(w:World)(hB:Bytes w A l)(hm:l.length≤140737488355327)(ky:1≤d)(pL:d≤256):
  Calls prog 57 #[.slice A l.length c,.int .i64 d] w (li w (Delta.enc l d.toNat)):=by
 generalize VV:d.toNat=dn at*;have RH:1≤dn:=aa;have hde:d=(dn:Int):=aa;subst hde;clear VV;go_enter func57,ntmps57;go_wp2_with fail;go_loopw [5,6] (fun v i wr=> ∃(k:Nat),k≤l.length∧i= .int .i64 k∧Own w.heap.size wr v (Delta.lQ l dn k)∧Below w.heap.size w wr) (fun _ i _=>l.length-(intOf i).toNat);case atStart=>exact⟨0,aa,rfl,Own.nil _ _,Below.refl _ _⟩
 case round=>
  obtain⟨k,hk,rfl,ho,hb⟩:=hrel;by_cases aF:k<l.length
  ·obtain⟨b,off,rfl,fF,hcell⟩:=(hB.below hb).addr aa;have tQ:=hcell k aF;have Yd:=hdd (Delta.xS l dn k);have hlen:=Delta.iu l dn k;have bx:=hdd (Cp l k aF);generalize l[k]=v at*;by_cases hdk:dn≤k
   ·have ni:=hdd (RJ (l) dn k hdk);have hcu:=hcell (k-dn) aa;have alw:=hdd (Cp l (k-dn) aa);generalize l[k-dn]=u at*;have hj1:(0:Int)≤(k:Int)-(dn:Int):=aa;have hj2:(k:Int)-(dn:Int)<l.length:=aa;have hj3:((k:Int)-(dn:Int)).toNat=k-dn:=aa;have hop:=RF v u;rw[IntKind.wrap_u8']at hop;generalize Yc:v-u=sv at*;have HSV:=hdd Yc;have ku:=Bytes.one wr sv;have CP:=ho.alloc (.cells #[.int .u8 (sv.toNat:Nat)] 5);have pU:=hb.alloc hb.size (.cells #[.int .u8 (sv.toNat:Nat)] 5);have bt:(Delta.lQ l dn k).length+[sv].length≤140737488355328:=(by rw[hlen];simp;omega);clear Yc hcell;go_wp2_with (at_builtin;refine aj rfl (.tmp 29) (.tmp 31) rfl w.heap.size _ _ _ rfl CP (some ⟨wr.heap.size,0,none⟩) [sv] 1 rfl ku bt pU.size ?_;intro v2 w2 j6 iV;have aE:=am pU iV pU.size (fun g hg=>(CP.aw g hg).1))
    go_roundw;case rel=>refine⟨k+1,aa,aq,?_,aE⟩;rw[Yd.out,bx.out,ni.out,alw.out,HSV.out];exact j6
    case measure=>simp[intOf];omega
   ·have ni:=hdd (VW (l) dn k hdk);have ku:=Bytes.one wr v;have CP:=ho.alloc (.cells #[.int .u8 (v.toNat:Nat)] 5);have pU:=hb.alloc hb.size (.cells #[.int .u8 (v.toNat:Nat)] 5);have bt:(Delta.lQ l dn k).length+[v].length≤140737488355328:=(by rw[hlen];simp;omega);have hnd: ¬(dn:Int)≤(k:Int):=aa;clear hcell;go_wp2_with (at_builtin;refine aj rfl (.tmp 29) (.tmp 31) rfl w.heap.size _ _ _ rfl CP (some ⟨wr.heap.size,0,none⟩) [v] 1 rfl ku bt pU.size ?_;intro v2 w2 j6 iV;have aE:=am pU iV pU.size (fun g hg=>(CP.aw g hg).1))
    go_roundw;case rel=>refine⟨k+1,aa,aq,?_,aE⟩;rw[Yd.out,bx.out,ni.out,UInt8.sub_zero];exact j6
    case measure=>simp[intOf];omega
  ·obtain rfl:k=l.length:=(by omega);go_wp2_with fail;go_ret;exact⟨_,rfl,ho,hb⟩
end De
end
structure bA where
 id:Int
 n:Nat
def bA.ok(f:bA):Prop:= -9223372036854775808≤f.id∧f.id≤9223372036854775807∧f.n<4294967296
abbrev bA.agg(f:bA):Value:= .agg #[.int .i64 f.id,.int .u32 (f.n:Nat)]
structure Ao(w:World)(b o:Nat)(f:bA):Prop where
 c0:w.cell? ⟨b,o,none⟩=some (.int .i64 f.id)
 c1:w.cell? ⟨b,o+1,none⟩=some (.int .u32 (f.n:Nat))
 ok:f.ok
def dX(w:World)(A:Option Addr)(l:List bA):Prop:=
 l=[]∨ ∃b off,A=some ⟨b,off,none⟩∧b<w.heap.size∧ ∀i (h:i<l.length),Ao w b (off+i*2) l[i]
theorem Ao.below{b o B:Nat}{f:bA}(h:Ao w b o f)(hb:Below B w w')(aF:b<B):Ao w' b o f:=
 ⟨(hb.cell (p:=⟨b,o,none⟩) aF).trans h.c0,(hb.cell (p:=⟨b,o+1,none⟩) aF).trans h.c1,h.ok⟩
theorem dX.below{l:List bA}(h:dX w A l)(hb:Below w.heap.size w w'):dX w' A l:=by
 rcases h with h | ⟨b,off,rfl,aF,h⟩
 ·exact .inl h
 ·exact .inr ⟨b,off,rfl,Nat.lt_of_lt_of_le aF hb.size,fun i hi=>(h i hi).below hb aF⟩
theorem dX.addr{l:List bA}(h:dX w A l)(hl:0<l.length): ∃b off,A=some ⟨b,off,none⟩∧b<w.heap.size∧ ∀i (h:i<l.length),Ao w b (off+i*2) l[i]:=by
 rcases h with rfl | h;·simp at hl
 ·exact h
def cW(f:bA):Bool:=if f.id=3 then decide (1≤f.n)&&decide (f.n≤256)else Cn f.id f.n
def jg(l:List bA):Bool:=decide (l.length≤3)&&l.all cW
def jh(id:Int):Bool:=id==5||id==7||id==9||id==10
theorem bv(w:World)(o:Obj):Below w.heap.size w (w.alloc o):=ap
theorem dA(id:Int)(w:World):Calls prog 91 #[.int .i64 id] w fun e w'=>e= .returned (.bool (jh id))∧w=w':=by
 have hm:jh id=(id==5||id==7||id==9||id==10):=rfl;generalize jh id=M at*;by_cases h5:id=5;·subst h5;simp only[show((5:Int)==5)=true from rfl,Bool.true_or]at hm;subst hm;go_enter func91,ntmps91;go_wp2_with fail;go_ret;exact⟨rfl,rfl⟩
 ·have b5:(id==5)=false:=by simp[h5]
  by_cases h7:id=7;·subst h7;simp only[show((7:Int)==7)=true from rfl,Bool.or_true,Bool.true_or]at hm;subst hm;clear h5 b5;go_enter func91,ntmps91;go_wp2_with fail;go_ret;exact⟨rfl,rfl⟩
  ·have b7:(id==7)=false:=(by simp[h7]);by_cases h9:id=9;·subst h9;simp only[show((9:Int)==9)=true from rfl,Bool.or_true,Bool.true_or]at hm;subst hm;clear h5 b5 h7 b7;go_enter func91,ntmps91;go_wp2_with fail;go_ret;exact⟨rfl,rfl⟩
   ·have b9:(id==9)=false:=(by simp[h9]);rw[b5,b7,b9]at hm;simp only[Bool.false_or]at hm;clear h5 h7 h9;generalize hT:(id==10)=T at*;subst hm;have HT:=hdd hT;cases M
    all_goals
     go_enter func91,ntmps91;go_wp2_with fail;go_ret;exact⟨rfl,rfl⟩
theorem oo(f:bA)(hf:f.ok)(w:World):Calls prog 50 #[f.agg] w fun e w'=>e= .returned (.bool (cW f))∧Below w.heap.size w w':=by
 obtain⟨id,n⟩:=f;obtain⟨h1,h2,h3⟩:=hf;simp only at h1 h2 h3;have hb:=bv w;have HM:=hdd (MB id n);by_cases hid:id=3
 ·subst hid;have pP:cW ⟨3,n⟩=(decide (1≤n)&&decide (n≤256)):=rfl;generalize cW ⟨3,n⟩=R at*;by_cases hn:1≤n
  ·have d1:decide ((1:Int)≤(n:Int))=true:=(by simp;omega);have tF:R=decide (n≤256):=(by rw[pP];simp[hn]);clear pP;by_cases oT:n≤256;·have d2:decide ((n:Int)≤256)=true:=(by simp;omega);rw[decide_eq_true oT]at tF;subst tF;go_enter func50,ntmps50;go_wp2_with fail;go_ret;exact⟨rfl,hb _⟩
   ·have d2:decide ((n:Int)≤256)=false:=(by simp;omega);rw[decide_eq_false oT]at tF;subst tF;go_enter func50,ntmps50;go_wp2_with fail;go_ret;exact⟨rfl,hb _⟩
  ·have d1:decide ((1:Int)≤(n:Int))=false:=(by simp;omega);have tF:R=false:=(by rw[pP];simp[hn]);subst tF;clear pP;go_enter func50,ntmps50;go_wp2_with fail;go_ret;exact⟨rfl,hb _⟩
 ·have pP:cW ⟨id,n⟩=Cn id n:=by unfold cW;rw[if_neg hid]
  rw[pP];generalize Cn id n=R at*;clear pP;go_enter func50,ntmps50;go_wp2_with fail;refine(HM.out _).mono ?_;rintro e w' ⟨rfl,rfl⟩;go_wp2_with fail;go_ret;exact⟨rfl,hb _⟩
theorem lR(f:bA)(hf:f.ok)(w:World):Calls prog 53 #[f.agg] w fun e w'=>e= .returned (.bool (cW f))∧Below w.heap.size w w':=by
 obtain⟨id,n⟩:=f;obtain⟨h1,h2,h3⟩:=hf;simp only at h1 h2 h3;have hb:=bv w;have HM:=hdd (dA id);by_cases hid:id=3
 ·subst hid;have pP:cW ⟨3,n⟩=(decide (1≤n)&&decide (n≤256)):=rfl;generalize cW ⟨3,n⟩=R at*;by_cases hn:1≤n
  ·have d1:decide ((1:Int)≤(n:Int))=true:=(by simp;omega);have tF:R=decide (n≤256):=(by rw[pP];simp[hn]);clear pP;by_cases oT:n≤256;·have d2:decide ((n:Int)≤256)=true:=(by simp;omega);rw[decide_eq_true oT]at tF;subst tF;go_enter func53,ntmps53;go_wp2_with fail;go_ret;exact⟨rfl,hb _⟩
   ·have d2:decide ((n:Int)≤256)=false:=(by simp;omega);rw[decide_eq_false oT]at tF;subst tF;go_enter func53,ntmps53;go_wp2_with fail;go_ret;exact⟨rfl,hb _⟩
  ·have d1:decide ((1:Int)≤(n:Int))=false:=(by simp;omega);have tF:R=false:=(by rw[pP];simp[hn]);subst tF;clear pP;go_enter func53,ntmps53;go_wp2_with fail;go_ret;exact⟨rfl,hb _⟩
 ·have pP:cW ⟨id,n⟩=(jh id&&n%4==0):=by unfold cW;rw[if_neg hid];rfl
  rw[pP];generalize jh id=R at*;clear pP;have hT:((n:Int)%4==0)=(n%4==0):=by rw[Bool.eq_iff_iff];simp;omega
  generalize(n%4==0)=T at*;cases R
  all_goals
   go_enter func53,ntmps53;go_wp2_with fail;refine(HM.out _).mono ?_;rintro e w' ⟨rfl,rfl⟩;go_wp2_with fail;go_ret;exact⟨rfl,hb _⟩
theorem E7(l:List bA)(k:Nat)(h:k<l.length)(ha:(l.take k).all cW=true):(l.take (k+1)).all cW=cW l[k]:=by rw[List.take_succ_eq_append_getElem h,List.all_append,ha];simp
theorem RK(l:List bA)(k:Nat)(h:k<l.length)(hf:cW l[k]=false):l.all cW=false:=by rw[List.all_eq_false];exact⟨_,List.getElem_mem h,by simp[hf]⟩
theorem ME(A:Option Addr)(l:List bA)(c:Nat)(w:World)(hF:dX w A l)(hl:l.length≤20):
  Calls prog 22 #[.slice A l.length c] w fun e w'=>e= .returned (.bool (jg l))∧Below w.heap.size w w':=by
 have hm:jg l=(decide (l.length≤3)&&l.all cW):=rfl;have HM:=hdd hm;clear hm;generalize jg l=M at*;go_enter func22,ntmps22;go_wp2_with fail;go_loopw [3] (fun i wr=> ∃k:Nat,k≤l.length∧i= .int .i64 k∧(l.take k).all cW=true∧Below w.heap.size w wr) (fun i _=>l.length-(intOf i).toNat);case atStart=>exact⟨0,aa,rfl,ae,Below.refl _ _⟩
 case round=>
  obtain⟨k,hk,rfl,dv,hb⟩:=hrel;by_cases aF:k<l.length
  ·obtain⟨b,off,rfl,fF,bx⟩:=(hF.below hb).addr aa;have gh:=bx k aF;have Rj:=hdd (E7 l k aF dv);have pM:=hdd (RK l k aF);have vt:=hdd (oo l[k] gh.ok wr);have h0:=gh.c0;have h1:=gh.c1;have aR:=gh.ok;generalize l[k]=f at*;obtain⟨id,n⟩:=f;clear bx dv gh;simp only[bA.ok]at aR;simp only at h0 h1;cases pP:cW ⟨id,n⟩with
   | true=>
    rw[pP]at vt Rj;clear pP pM;go_wp2_with fail;refine vt.out.mono ?_;rintro e w1 ⟨rfl,aC⟩;go_wp2_with fail;go_roundw;case rel=>exact⟨k+1,aa,aq,Rj.out,aO hb aC⟩
    case measure=>simp[intOf];omega
   | false=>
    have hx:=pM.out pP;have hm:=HM.out;rw[hx,Bool.and_false]at hm;subst hm;rw[pP]at vt;clear pP Rj hx;go_wp2_with fail;refine vt.out.mono ?_;rintro e w1 ⟨rfl,aC⟩;go_wp2_with fail;go_ret;exact⟨rfl,aO hb aC⟩
  ·obtain rfl:k=l.length:=(by omega);have hx:l.all cW=true:=(by rw[List.take_length]at dv;exact dv);have hm:=HM.out;rw[hx,Bool.and_true]at hm;have hd:decide ((l.length:Int)≤3)=decide (l.length≤3):=(by rw[decide_eq_decide];omega);generalize decide (l.length≤3)=D at*;clear hx dv;subst hm;go_wp2_with fail;go_ret;exact⟨rfl,hb⟩
theorem sj(A:Option Addr)(l:List bA)(c:Nat)(w:World)(hF:dX w A l)(hl:l.length≤20):
  Calls prog 25 #[.slice A l.length c] w fun e w'=>e= .returned (.bool (jg l))∧Below w.heap.size w w':=by
 have hm:jg l=(decide (l.length≤3)&&l.all cW):=rfl;by_cases h3:l.length≤3
 ·rw[decide_eq_true h3,Bool.true_and]at hm;have HM:=hdd hm;clear hm;generalize jg l=M at*;have hd:decide ((3:Int)<(l.length:Int))=false:=av;go_enter func25,ntmps25;go_wp2_with fail;clear hd;go_loopw [10] (fun i wr=> ∃k:Nat,k≤l.length∧i= .int .i64 k∧(l.take k).all cW=true∧Below w.heap.size w wr) (fun i _=>l.length-(intOf i).toNat);case atStart=>exact⟨0,aa,rfl,ae,Below.refl _ _⟩
  case round=>
   obtain⟨k,hk,rfl,dv,hb⟩:=hrel;by_cases aF:k<l.length
   ·obtain⟨b,off,rfl,fF,bx⟩:=(hF.below hb).addr aa;have gh:=bx k aF;have Rj:=hdd (E7 l k aF dv);have pM:=hdd (RK l k aF);have vt:=hdd (lR l[k] gh.ok);have h0:=gh.c0;have h1:=gh.c1;have aR:=gh.ok;generalize l[k]=f at*;obtain⟨id,n⟩:=f;clear bx dv gh;simp only[bA.ok]at aR;simp only at h0 h1;have pU:=fun o=>hb.alloc hb.size o;cases pP:cW ⟨id,n⟩with
    | true=>
     rw[pP]at vt Rj;clear pP pM;go_wp2_with fail;refine(vt.out _).mono ?_;rintro e w1 ⟨rfl,aC⟩;go_wp2_with fail;go_roundw;case rel=>exact⟨k+1,aa,aq,Rj.out,(pU _).trans (aC.mono (pU _).size)⟩
     case measure=>simp[intOf];omega
    | false=>
     have hx:=pM.out pP;have hm:=HM.out;rw[hx]at hm;subst hm;rw[pP]at vt;clear pP Rj hx;go_wp2_with fail;refine(vt.out _).mono ?_;rintro e w1 ⟨rfl,aC⟩;go_wp2_with fail;go_ret;exact⟨rfl,(pU _).trans (aC.mono (pU _).size)⟩
   ·obtain rfl:k=l.length:=(by omega);have hx:l.all cW=true:=(by rw[List.take_length]at dv;exact dv);have hm:=HM.out;rw[hx]at hm;clear hx dv;subst hm;go_wp2_with fail;go_ret;exact⟨rfl,hb⟩
 ·rw[decide_eq_false h3,Bool.false_and]at hm;generalize jg l=M at*;subst hm;have hd:decide ((3:Int)<(l.length:Int))=true:=av;go_enter func25,ntmps25;go_wp2_with fail;go_ret;exact⟨rfl,Below.refl _ _⟩
end Go.Proofs.YtgfpocdiojifoaaGreatDoor
