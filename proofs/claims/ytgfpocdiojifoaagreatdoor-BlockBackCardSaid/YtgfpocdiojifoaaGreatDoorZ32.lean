import Derived.Test.YtgfpocdiojifoaaGreatDoorZ31
import Derived.MapKept
namespace Go.Proofs.YtgfpocdiojifoaaGreatDoor
set_option maxRecDepth 100000
set_option maxHeartbeats 8000000
open Go.RowKit
namespace C3
def Ec(b0 b1 b2 b3:UInt8):BitVec 32:=((dw.ext 32 b0 ||| dw.ext 32 b1 <<< 8) ||| dw.ext 32 b2 <<< 16) ||| dw.ext 32 b3 <<< 24
theorem O7(b:UInt8)(j i:Nat):(dw.ext 32 b <<< j).getLsbD i=(decide (i<32)&&decide (j≤i)&&b.toBitVec.getLsbD (i-j)):=by
 rw[BitVec.getLsbD_shiftLeft]
 unfold dw.ext
 rw[BitVec.getLsbD_setWidth]
 by_cases h1:i<32
 ·by_cases h2:i<j
  ·simp[h1,h2,show ¬j≤i by omega]
  ·simp[h1,h2,show i-j<32 by omega,show j≤i by omega]
 ·simp[h1]
theorem O8(b:UInt8)(i:Nat)(h:8≤i):b.toBitVec.getLsbD i=false:=BitVec.getLsbD_of_ge _ _ h
theorem Ul(b0 b1 b2 b3:UInt8):Ec b0 b1 b2 b3=((dw.ext 32 b0 <<< 0 ^^^ dw.ext 32 b1 <<< 8) ^^^ dw.ext 32 b2 <<< 16) ^^^ dw.ext 32 b3 <<< 24:=by
 have e0:dw.ext 32 b0=dw.ext 32 b0 <<< 0:=by simp
 unfold Ec
 conv=>lhs;rw[e0]
 apply BitVec.eq_of_getLsbD_eq
 intro i hi
 simp only[BitVec.getLsbD_or,BitVec.getLsbD_xor,O7]
 by_cases h1:i<8
 ·simp[show ¬8≤i by omega,show ¬16≤i by omega,show ¬24≤i by omega]
 ·by_cases h2:i<16
  ·simp[show ¬16≤i by omega,show ¬24≤i by omega,O8 b0 i (by omega)]
  ·by_cases h3:i<24
   ·simp[show ¬24≤i by omega,O8 b0 i (by omega),O8 b1 (i-8) (by omega)]
   ·simp[O8 b0 i (by omega),O8 b1 (i-8) (by omega),O8 b2 (i-16) (by omega)]
theorem uP(z:BitVec 32)(j:Nat)(b:UInt8)(hj:j+8≤32):dw.eat oP (dw.sn oP j z) b=dw.sn oP (j+8) (z ^^^ dw.ext 32 b <<< j):=by
 have h:dw.sn oP j (dw.ext 32 b <<< j)=dw.ext 32 b:=by
  rw[dw.QY oP j _ (by intro i hi;rw[O7];simp[show ¬j≤i by omega])]
  apply BitVec.eq_of_getLsbD_eq
  intro i hi
  rw[BitVec.getLsbD_ushiftRight,O7]
  by_cases h8:i<8
  ·unfold dw.ext;rw[BitVec.getLsbD_setWidth]
   simp[show j+i<32 by omega,hi]
  ·rw[dw.I9 32 b i (by omega)]
   simp[O8 b i (by omega)]
 unfold dw.eat
 rw[dw.Eb,dw.O5 oP j,h]
theorem aiY(r:BitVec 32)(b0 b1 b2 b3:UInt8):dw.eats oP r [b0,b1,b2,b3]=dw.sn oP 32 (r ^^^ Ec b0 b1 b2 b3):=by
 have h0:=uP r 0 b0 (by omega)
 have h1:=fun z=>uP z 8 b1 (by omega)
 have h2:=fun z=>uP z 16 b2 (by omega)
 have h3:=fun z=>uP z 24 b3 (by omega)
 simp only[dw.eats,List.foldl]
 rw[show dw.eat oP r b0=dw.sn oP 8 (r ^^^ dw.ext 32 b0 <<< 0)from h0,h1,h2,h3,Ul]
 simp only[BitVec.xor_assoc]
theorem acB(x:BitVec 32)(j:Nat):dw.low (x >>> j)=BitVec.ofNat 32 (x.toNat/2^j%256):=by
 unfold dw.low
 apply BitVec.eq_of_toNat_eq
 simp only[BitVec.toNat_setWidth,BitVec.toNat_ofNat,BitVec.toNat_ushiftRight,Nat.shiftRight_eq_div_pow]
theorem acC(k m:Nat)(hm:m<256):T (256*k+m)=dw.sn oP (8*(k+1)) (BitVec.ofNat 32 m):=by
 unfold T;rw[show(256*k+m)/256=k by omega,show(256*k+m)%256=m by omega]
theorem step4(x:BitVec 32)(j k:Nat):dw.sn oP (8+k) (x >>> j)=dw.sn oP k (x >>> (j+8)) ^^^ dw.sn oP (8+k) (BitVec.ofNat 32 (x.toNat/2^j%256)):=by
 rw[dw.Eb,dw.Bg,dw.O5,acB,←dw.Eb,BitVec.shiftRight_add]
theorem four(x:BitVec 32):((T (768+x.toNat%256) ^^^ T (512+x.toNat/256%256)) ^^^ T (256+x.toNat/65536%256)) ^^^ T (x.toNat/16777216%256)=dw.sn oP 32 x:=by
 have t3:=acC 3 (x.toNat%256) (by omega)
 have t2:=acC 2 (x.toNat/256%256) (by omega)
 have t1:=acC 1 (x.toNat/65536%256) (by omega)
 have t0:=acC 0 (x.toNat/16777216%256) (by omega)
 have s0:=step4 x 0 24
 have s1:=step4 x 8 16
 have s2:=step4 x 16 8
 have s3:=step4 x 24 0
 simp only[Nat.mul_one,Nat.reduceMul,Nat.reduceAdd,Nat.zero_add,Nat.reducePow,Nat.div_one]at t3 t2 t1 t0 s0 s1 s2 s3
 rw[t3,t2,t1,t0]
 rw[show x >>> 0=x from by simp]at s0
 have hz:x >>> 32=0#32:=by
  apply BitVec.eq_of_getLsbD_eq
  intro i _;rw[BitVec.getLsbD_ushiftRight,BitVec.getLsbD_of_ge _ _ (by omega)];simp
 rw[s0,s1,s2,s3,hz,dw.acA,BitVec.zero_xor]
 ac_rfl
theorem afD(a b:BitVec 32):bits .or .u32 (a.toNat:Int) (b.toNat:Int)=((a ||| b).toNat:Int):=by
 rw[u32_or_nat _ _ a.isLt b.isLt,BitVec.toNat_or]
theorem yt(b:UInt8):(dw.ext 32 b).toNat=b.toNat:=by
 have:=b.toNat_lt
 unfold dw.ext;simp only[BitVec.toNat_setWidth,UInt8.toNat_toBitVec];omega
theorem Ja(b:UInt8)(j:Nat)(h:j≤24):(dw.ext 32 b <<< j).toNat=b.toNat*2^j:=by
 have hb:=b.toNat_lt
 have hj:2^j≤2^24:=Nat.pow_le_pow_right (by omega) h
 have hm:b.toNat*2^j≤255*2^24:=Nat.mul_le_mul (by omega) hj
 rw[BitVec.toNat_shiftLeft,yt,Nat.shiftLeft_eq,Nat.mod_eq_of_lt (by omega)]
theorem Um(r:BitVec 32)(b0 b1 b2 b3:UInt8):bits .xor .u32 (r.toNat:Int) (bits .or .u32 (bits .or .u32 (bits .or .u32 (b0.toNat:Int) ((b1.toNat:Int)*256)) ((b2.toNat:Int)*65536)) ((b3.toNat:Int)*16777216))
  =((r ^^^ Ec b0 b1 b2 b3).toNat:Int):=by
 have e0:(b0.toNat:Int)=((dw.ext 32 b0).toNat:Int):=by rw[yt]
 have e1:(b1.toNat:Int)*(256:Int)=((dw.ext 32 b1 <<< 8).toNat:Int):=by rw[Ja _ _ (by omega)];omega
 have e2:(b2.toNat:Int)*(65536:Int)=((dw.ext 32 b2 <<< 16).toNat:Int):=by rw[Ja _ _ (by omega)];omega
 have e3:(b3.toNat:Int)*(16777216:Int)=((dw.ext 32 b3 <<< 24).toNat:Int):=by rw[Ja _ _ (by omega)];omega
 rw[e0,e1,e2,e3,afD,afD,afD,LQ];rfl
theorem byteAt(x:BitVec 32)(d:Nat): ∃m:Nat,m<256∧m=x.toNat/d%256∧IntKind.u8.wrap ((x.toNat:Int)/(d:Int))=(m:Int):=
 ⟨x.toNat/d%256,Nat.mod_lt _ (by omega),rfl,by rw[IntKind.wrap_u8'];omega⟩
theorem vN(g:Nat)(r:BitVec 32)(b off n c:Nat)(b0 b1 b2 b3:UInt8)(w:World)(hn:4≤n)(hmax:n≤9223372036854775807)
  (c0:w.cell? ⟨b,off,none⟩=some (.int .u8 (b0.toNat:Nat))) (c1:w.cell? ⟨b,off+1,none⟩=some (.int .u8 (b1.toNat:Nat)))
  (c2:w.cell? ⟨b,off+2,none⟩=some (.int .u8 (b2.toNat:Nat))) (c3:w.cell? ⟨b,off+3,none⟩=some (.int .u8 (b3.toNat:Nat)))
  (hT: ∀i,i<1024→w.cell? ⟨g,i,none⟩=some (.int .u32 (T i).toNat)):
  Calls Tryz.prog 166 #[.pointer (some ⟨g,0,none⟩),.int .u32 r.toNat,.slice (some ⟨b,off,none⟩) n c] w fun e w'=>
   e= .returned (.int .u32 (dw.eats oP r [b0,b1,b2,b3]).toNat)∧ ∃k,w'=w.drewN k:=by
 have hn0:(0:Int)<n:=by omega
 have hn1:(1:Int)<n:=by omega
 have hn2:(2:Int)<n:=by omega
 have hn3:(3:Int)<n:=by omega
 have l0:=b0.toNat_lt
 have l1:=b1.toNat_lt
 have l2:=b2.toNat_lt
 have l3:=b3.toNat_lt
 have HT:=Lib.hid hT;clear hT
 rw[aiY]
 have hw:=Lib.hid (Um r b0 b1 b2 b3)
 go_enter Tryz.func166,Tryz.ntmps166
 go_wp2_with fail
 go_quiet (fail)
 go_wp2_with fail
 rw[hw.out]
 clear hw
 have hf:=Lib.hid (four (r ^^^ Ec b0 b1 b2 b3))
 generalize hx:r ^^^ Ec b0 b1 b2 b3=x at*
 have HX:=Lib.hid hx;clear hx
 obtain⟨m0,hm0,em0,w0⟩:=byteAt x 1
 obtain⟨m1,hm1,em1,w1⟩:=byteAt x 256
 obtain⟨m2,hm2,em2,w2⟩:=byteAt x 65536
 obtain⟨m3,hm3,em3,w3⟩:=byteAt x 16777216
 have d3:=HT.out (768+m0) (by omega)
 have d2:=HT.out (512+m1) (by omega)
 have d1:=HT.out (256+m2) (by omega)
 have d0:=HT.out m3 (by omega)
 have E0:=Lib.hid em0
 have E1:=Lib.hid em1
 have E2:=Lib.hid em2
 have E3:=Lib.hid em3
 clear em0 em1 em2 em3
 rw[show((1:Nat):Int)=1 from rfl,Int.ediv_one]at w0
 rw[show((256:Nat):Int)=256 from rfl]at w1
 rw[show((65536:Nat):Int)=65536 from rfl]at w2
 rw[show((16777216:Nat):Int)=16777216 from rfl]at w3
 have i0:(m0:Int)<256:=by omega
 have i1:(m1:Int)<256:=by omega
 have i2:(m2:Int)<256:=by omega
 have i3:(m3:Int)<256:=by omega
 go_quiet (fail)
 go_wp2_with fail
 have h0:=E0.out
 rw[Nat.div_one]at h0
 have hnum:bits .xor .u32 (bits .xor .u32 (bits .xor .u32 ((T (768+m0)).toNat:Int) ((T (512+m1)).toNat:Int)) ((T (256+m2)).toNat:Int)) ((T m3).toNat:Int)=((dw.sn oP 32 (r ^^^ Ec b0 b1 b2 b3)).toNat:Int):=by
  rw[LQ,LQ,LQ,HX.out,←hf.out,←h0,←E1.out,←E2.out,←E3.out]
 go_ret
 exact⟨congrArg (fun n:Int=>Ending.returned (Value.int .u32 n)) hnum,_,World.drewN_drewN _ _ _⟩
end C3
namespace C3
theorem Ik(a:BitVec 32):bits .xor .u32 IntKind.u32.max (a.toNat:Int)=((~~~a).toNat:Int):=by
 rw[show IntKind.u32.max=(((BitVec.allOnes 32).toNat:Nat):Int)from rfl,LQ,BitVec.allOnes_xor]
theorem zC{w:World}{g:Nat}{t:TypeId}{fr:Nat×Nat}(h:w.heap[g]? =some (.cells tabs t fr))(i:Nat)(hi:i<1024):w.cell? ⟨g,i,none⟩=some (.int .u32 (T i).toNat):=by
 rw[cell_of_row w g i tabs t fr h]
 unfold tabs
 rw[List.getElem?_toArray,List.getElem?_map,List.getElem?_range hi];rfl
theorem pW:tabs.size=1024:=by simp[tabs]
theorem yu:tabs.all (·.oneCell')=true:=by
 unfold tabs
 rw[List.all_toArray,List.all_map,List.all_eq_true]
 intro x _;rfl
structure wI(w0:World)(g:Nat)(w:World):Prop where
 tab: ∀i,i<1024→w.cell? ⟨g,i,none⟩=some (.int .u32 (T i).toNat)
 below:Below w0.heap.size w0 w
theorem wI.drewN{w0 w:World}{g:Nat}(h:wI w0 g w)(n:Nat):wI w0 g (w.drewN n):=⟨fun i hi=>h.tab i hi,below_drewN h.below n⟩
theorem Ed(x:BitVec 32)(v:UInt8)(m:Nat)(hm:m=(x.toNat%256) ^^^ v.toNat):bits .xor .u32 ((x.toNat:Int)/256) ((T m).toNat:Int)=((dw.eat oP x v).toNat:Int):=by
 have Gi:m<256:=by
  have:=v.toNat_lt
  rw[hm];exact Nat.xor_lt_two_pow (n:=8) (by omega) (by omega)
 have e:(x.toNat:Int)/(256:Int)=((x >>> 8).toNat:Int):=by
  rw[BitVec.toNat_ushiftRight,Nat.shiftRight_eq_div_pow];simp
 have hl:dw.low (x ^^^ dw.ext 32 v)=BitVec.ofNat 32 m:=by
  unfold dw.low
  apply BitVec.eq_of_toNat_eq
  have hv:=v.toNat_lt
  simp only[BitVec.toNat_setWidth,BitVec.toNat_ofNat,BitVec.toNat_xor,yt]
  rw[Nat.xor_mod_two_pow (n:=8),hm,Nat.mod_eq_of_lt (show v.toNat<2^8 by omega)]
 have hs:(x ^^^ dw.ext 32 v) >>> 8=x >>> 8:=by
  apply BitVec.eq_of_getLsbD_eq
  intro i _
  rw[BitVec.getLsbD_ushiftRight,BitVec.getLsbD_ushiftRight,BitVec.getLsbD_xor,dw.I9 32 v _ (by omega)];simp
 rw[e,LQ]
 unfold dw.eat
 rw[dw.Bg,hs,hl,Y0 m Gi]
theorem Ee(x:BitVec 32)(v:UInt8): ∃m:Nat,m<256∧m=(x.toNat%256) ^^^ v.toNat∧bits .xor .u8 ((x.toNat:Int)%256) (v.toNat:Int)=(m:Int):=by
 have hv:=v.toNat_lt
 refine⟨_,Nat.xor_lt_two_pow (n:=8) (show x.toNat%256<2^8 by omega) (show v.toNat<2^8 by omega),rfl,?_⟩
 rw[show(x.toNat:Int)%256=((x.toNat%256:Nat):Int)from by omega,u8_xor_nat _ _ (by omega) (by omega)]
theorem Un(x:BitVec 32)(l:List UInt8)(h:4≤l.length):dw.eats oP x l=dw.eats oP (dw.eats oP x [l[0],l[1],l[2],l[3]]) (l.drop 4):=by
 match l,h with
 | b0::b1::b2::b3::r,_=>rfl
theorem zD(x:BitVec 32)(l:List UInt8)(k:Nat)(h:k<l.length):dw.eats oP x (l.take (k+1))=dw.eat oP (dw.eats oP x (l.take k)) l[k]:=by
 rw[List.take_succ_eq_append_getElem h,dw.Am];rfl
def jB(s:BitVec 32)(l:List UInt8):BitVec 32:= ~~~ dw.eats oP (~~~ s) l
def lenOf:Value→Nat | .slice _ n _=>n | _=>0
def aiZ(w:World)(g:Nat)(x0:BitVec 32)(l:List UInt8)(sl reg:Value)(wr:World):Prop:=
 ∃(A:Option Addr) (c:Nat) (rest:List UInt8) (x:BitVec 32),sl= .slice A rest.length c∧rest.length≤c∧c≤9223372036854775807∧Bytes wr A rest∧wI w g wr∧reg= .int .u32 x.toNat∧dw.eats oP x0 l=dw.eats oP x rest
theorem on_any(s:BitVec 32)(A:Option Addr)(l:List UInt8)(c:Nat)(w:World)(hB:Bytes w A l)(hc:l.length≤c)(hm:c≤9223372036854775807):
  Calls Tryz.prog 127 #[.int .u32 s.toNat,.slice A l.length c] w fun e w'=>
   e= .returned (.int .u32 (jB s l).toNat)∧Below w.heap.size w w':=by
 have hz:=(zero_of_info YZ).1
 go_enter Tryz.func127,Tryz.ntmps127
 go_wp2_with fail
 refine(mk_any w).mono ?_
 rintro e w1 ⟨rfl,hb1⟩
 go_wp2_with (refine wpList_store_row rfl 244 _ _ rfl w1.heap.size tabs rfl rfl 244 iV (heap_alloc_last _ _) ?c2 ?c3 ?c4 ?_)
 case c2=>rw[Bh,pW]
 case c3=>rw[pW];simp[iV]
 case c4=>exact yu
 rw[World.setRow_alloc_new,Ik]
 have hT:wI w w1.heap.size (w1.alloc (.cells tabs 244)):=⟨zC (heap_alloc_last _ _),hb1.alloc hb1.size _⟩
 have hB1:=hB.below hT.below
 generalize w1.alloc (.cells tabs 244)=w2 at*
 generalize w1.heap.size=g at*
 clear hb1 hz hB
 generalize hx0: ~~~s=x0
 have HX0:=Lib.hid hx0;clear hx0
 go_loopw [1,6] (fun sl reg wr=>aiZ w g x0 l sl reg wr) (fun sl _ _=>lenOf sl)
 case atStart=>exact⟨A,c,l,_,rfl,hc,hm,hB1,hT,rfl,rfl⟩
 case round=>
  clear hB1 hT hc hm
  obtain⟨A',c',rest,x,rfl,hc,hm,hB,hT,rfl,hx⟩:=hrel
  have HX:=Lib.hid hx;clear hx
  by_cases h4:4≤rest.length
  ·obtain⟨b,off,rfl,hlt,hcell⟩:=hB.addr (by omega)
   have d0:=hcell 0 (by omega)
   have d1:=hcell 1 (by omega)
   have d2:=hcell 2 (by omega)
   have d3:=hcell 3 (by omega)
   have HC:=Lib.hid hcell;clear hcell
   have HT:=Lib.hid hT.tab
   have He:=Lib.hid (Un x rest h4)
   have hn0:(4:Int)≤rest.length:=by omega
   generalize rest[0]=b0 at*
   generalize rest[1]=b1 at*
   generalize rest[2]=b2 at*
   generalize rest[3]=b3 at*
   by_cases hc4:c'=4
   ·subst hc4
    go_wp2_with fail
    refine(vN g x b off _ _ b0 b1 b2 b3 _ h4 (by omega) (by simpa using d0) d1 d2 d3 HT.out).mono ?_
    rintro e w' ⟨rfl,nq,rfl⟩
    go_wp2_with fail
    go_roundw
    case rel=>
     have hl:rest.drop 4=[]:=by rw[List.drop_eq_nil_iff];omega
     exact⟨_,0,rest.drop 4,_,by rw[hl];rfl,by rw[hl];simp,by omega,.inl hl,hT.drewN nq,rfl,by rw[HX.out,He.out]⟩
    case measure=>simp[lenOf];omega
   ·go_wp2_with fail
    refine(vN g x b off _ _ b0 b1 b2 b3 _ h4 (by omega) (by simpa using d0) d1 d2 d3 HT.out).mono ?_
    rintro e w' ⟨rfl,nq,rfl⟩
    go_wp2_with fail
    go_roundw
    case rel=>
     exact⟨_,_,rest.drop 4,_,by rw[List.length_drop],by rw[List.length_drop];omega,by omega,(hB.drop 4).drewN nq,hT.drewN nq,rfl,by rw[HX.out,He.out]⟩
    case measure=>simp[lenOf];omega
  ·go_wp2_with fail
   obtain⟨wo,rfl⟩: ∃wo:World,wo=wr:=⟨_,rfl⟩
   go_loop [6,22] (fun reg i=> ∃k:Nat,k≤rest.length∧i= .int .i64 k∧reg= .int .u32 (dw.eats oP x (rest.take k)).toNat) (fun _ i=>rest.length-(intOf i).toNat)
   case atStart=>exact⟨0,by omega,rfl,by simp[dw.eats]⟩
   case round=>
    obtain⟨k,hk,rfl,rfl⟩:=hrel
    by_cases hlt:k<rest.length
    ·obtain⟨b,off,rfl,_,hcell⟩:=hB.addr (by omega)
     have hck:=hcell k hlt
     have hs:=Lib.hid (zD x rest k hlt)
     generalize dw.eats oP x (rest.take k)=y at*
     obtain⟨m,Gi,hmv,hmw⟩:=Ee y rest[k]
     have hct:=hT.tab m (by omega)
     have Hmv:=Lib.hid hmv;clear hmv
     have i0:(m:Int)<256:=by omega
     generalize rest[k]=v at*
     clear hcell
     go_wp2_with fail
     go_round
     case rel=>exact⟨k+1,by omega,by go_num,by rw[hs.out,←Ed y v m Hmv.out]⟩
     case measure=>simp[intOf];omega
    ·obtain rfl:k=rest.length:=by omega
     go_wp2_with fail
     go_ret
     have hfin:dw.eats oP x rest=dw.eats oP (~~~ s) l:=by rw[HX0.out,HX.out]
     have hnum:bits .xor .u32 IntKind.u32.max ((dw.eats oP x rest).toNat:Int)=((jB s l).toNat:Int):=by rw[Ik,hfin];rfl
     exact⟨congrArg (fun n:Int=>Ending.returned (Value.int .u32 n)) hnum,hT.below⟩
end C3
namespace C3
end C3
namespace C3
theorem Jb(A:Option Addr)(l:List UInt8)(c:Nat)(w:World)(hB:Bytes w A l)(hc:l.length≤c)(hm:c≤9223372036854775807):
  Calls Tryz.prog 127 #[.int .u32 0,.slice A l.length c] w fun e w'=>
   e= .returned (.int .u32 (jB 0#32 l).toNat)∧Below w.heap.size w w':=on_any 0#32 A l c w hB hc hm
theorem sum_any(A:Option Addr)(l:List UInt8)(c:Nat)(w:World)(hB:Bytes w A l)(hc:l.length≤c)(hm:c≤9223372036854775807):
  Calls Tryz.prog 84 #[.slice A l.length c] w fun e w'=>
   e= .returned (.int .u32 (jB 0#32 l).toNat)∧Below w.heap.size w w':=by
 go_enter Tryz.func84,Tryz.ntmps84
 go_wp2_with fail
 refine(Jb A l c _ hB hc hm).mono ?_
 rintro e w' ⟨rfl,hb⟩
 go_wp2_with fail
 go_ret
 exact⟨rfl,hb⟩
end C3
namespace Y5
def O9:BitVec 64:=14514072000185962306#64
theorem afF(a b:BitVec 64):bits .xor .u64 (a.toNat:Int) (b.toNat:Int)=((a ^^^ b).toNat:Int):=by
 rw[u64_xor_nat _ _ a.isLt b.isLt,BitVec.toNat_xor]
theorem YU(a:BitVec 64):bits .and .u64 (a.toNat:Int) 1=((a.toNat%2:Nat):Int):=by
 rw[show(1:Int)=((1:Nat):Int)from rfl,u64_and_nat _ _ a.isLt (by omega),nat_mask1]
theorem YV(a:BitVec 64):a.getLsbD 0=decide (a.toNat%2=1):=by
 rw[BitVec.getLsbD,Nat.testBit_zero]
theorem YW(a:BitVec 64):(a.toNat:Int)/(2:Int)=((a >>> 1).toNat:Int):=by
 rw[BitVec.toNat_ushiftRight,Nat.shiftRight_eq_div_pow];simp
theorem O6(x:BitVec 64)(h:(bits .and .u64 (x.toNat:Int) 1==1)=true):bits .xor .u64 ((x.toNat:Int)/2) 14514072000185962306=((dw.s1 O9 x).toNat:Int):=by
 have h1:x.getLsbD 0=true:=by
  rw[YU]at h;rw[YV];simp at h ⊢;omega
 rw[YW,show(14514072000185962306:Int)=((O9.toNat:Nat):Int)from rfl,afF]
 unfold dw.s1;rw[h1];simp
theorem YX(x:BitVec 64)(h:(bits .and .u64 (x.toNat:Int) 1==1)=false):(x.toNat:Int)/2=((dw.s1 O9 x).toNat:Int):=by
 have h1:x.getLsbD 0=false:=by
  rw[YU]at h;rw[YV];simp at h ⊢;omega
 rw[YW]
 unfold dw.s1;rw[h1];simp
def lD:Array Value:=Array.replicate 256 (.int .u64 0)
theorem adR:(Tryz.prog.info? 248).map (fun i=>(i.zero,i.size))=some (some (.agg lD),256):=by kernel_rfl
theorem Jc:(Tryz.prog.info? 248).map (·.size)=some 256:=by kernel_rfl
def T(j:Nat):BitVec 64:=dw.sn O9 8 (BitVec.ofNat 64 j)
def upTo(k j:Nat):Value:=if j<k then .int .u64 (T j).toNat else .int .u64 0
def tabs:Array Value:=((List.range 256).map fun i=>Value.int .u64 (T i).toNat).toArray
theorem tY{k j:Nat}(h:j<k):upTo k j= .int .u64 (T j).toNat:=by unfold upTo;rw[if_pos h]
theorem yh(k:Nat): ∀i,(if i=k then Value.int .u64 (T k).toNat else upTo k i)=upTo (k+1) i:=by
 intro i;unfold upTo
 by_cases h:i=k
 ·subst h;simp
 ·by_cases h2:i<k
  ·simp[h,h2,show i<k+1 by omega]
  ·simp[h,h2,show ¬i<k+1 by omega]
theorem yj(w:World):(w.alloc (.cells lD 248)).rowIs w.heap.size 248 256 (upTo 0):=by
 have h:=World.rowIs_alloc w lD 248 (upTo 0) (fun i hi=>by
  unfold lD at hi ⊢
  rw[Array.getElem?_replicate,if_pos (by simpa using hi)];simp[upTo])
 have e:lD.size=256:=by simp[lD]
 rwa [e]at h
theorem tabs_eq{cs:Array Value}(hn:cs.size=256)(hv: ∀i,i<256→cs[i]? =some (upTo 256 i)):cs=tabs:=by
 apply Array.ext_getElem?
 intro i
 by_cases hi:i<256
 ·rw[hv i hi,tY (by omega)]
  unfold tabs
  rw[List.getElem?_toArray,List.getElem?_map,List.getElem?_range hi];rfl
 ·rw[Array.getElem?_eq_none (by omega),Array.getElem?_eq_none (by simp[tabs];omega)]
theorem yu:tabs.all (·.oneCell')=true:=by
 unfold tabs
 rw[List.all_toArray,List.all_map,List.all_eq_true]
 intro x _;rfl
theorem pW:tabs.size=256:=by simp[tabs]
theorem zC{w:World}{g:Nat}{t:TypeId}{fr:Nat×Nat}(h:w.heap[g]? =some (.cells tabs t fr))(i:Nat)(hi:i<256):w.cell? ⟨g,i,none⟩=some (.int .u64 (T i).toNat):=by
 rw[cell_of_row w g i tabs t fr h]
 unfold tabs
 rw[List.getElem?_toArray,List.getElem?_map,List.getElem?_range hi];rfl
theorem Uo(k:Nat)(h:k<256):(k:Int)=((BitVec.ofNat 64 k).toNat:Int):=by
 rw[BitVec.toNat_ofNat];omega
theorem mk_any(w:World):
  Calls Tryz.prog 167 #[] w fun e w'=>e= .returned (.agg tabs)∧Below w.heap.size w w':=by
 have hz:=(zero_of_info adR).1
 go_enter Tryz.func167,Tryz.ntmps167
 go_wp2_with fail
 have h0:((w.alloc (.cells lD 248)).alloc (.cells lD 248)).rowIs w.heap.size 248 256 (upTo 0):=(yj w).alloc _
 have h1:((w.alloc (.cells lD 248)).alloc (.cells lD 248)).rowIs (w.heap.size+1) 248 256 (upTo 0):=by have:=yj (w.alloc (.cells lD 248));simpa using this
 have hb:Below w.heap.size w ((w.alloc (.cells lD 248)).alloc (.cells lD 248)):=((Below.refl _ _).alloc (Nat.le_refl _) _).alloc (by simp) _
 generalize(w.alloc (.cells lD 248)).alloc (.cells lD 248)=w1 at*
 generalize hg:w.heap.size+1=g at*
 have hg1:w.heap.size<g:=by omega
 have HG:=Lib.hid hg;clear hg
 go_loopw [5] (fun i wr=> ∃k:Nat,k≤256∧i= .int .i64 k∧wr.rowIs w.heap.size 248 256 (upTo 0)∧wr.rowIs g 248 256 (upTo k)∧Below w.heap.size w wr) (fun i _=>256-(intOf i).toNat)
 case atStart=>exact⟨0,by omega,rfl,h0,h1,hb⟩
 case round=>
  obtain⟨k,hk,rfl,r0,r1,rb⟩:=hrel
  by_cases h:k<256
  ·have hc:=r1.cell (i:=k) (by omega)
   have hf:=r1.frozen k
   go_wp2_with fail
   obtain⟨wo,rfl⟩: ∃wo:World,wo=wr:=⟨_,rfl⟩
   go_loop [3,10] (fun a i=> ∃j:Nat,j≤8∧i= .int .i64 j∧a= .int .u64 (dw.sn O9 j (BitVec.ofNat 64 k)).toNat) (fun _ i=>8-(intOf i).toNat)
   case atStart=>exact⟨0,by omega,rfl,by rw[Uo k h];rfl⟩
   case round=>
    obtain⟨j,hj,rfl,rfl⟩:=hrel
    by_cases h8:j<8
    ·have hs:=Lib.hid (dw.LM O9 j (BitVec.ofNat 64 k))
     generalize dw.sn O9 j (BitVec.ofNat 64 k)=x at*
     go_wp2_with fail
     ·go_round
      case rel=>exact⟨j+1,by omega,by go_num,by rw[hs.out,←O6 x (by assumption)]⟩
      case measure=>simp[intOf];omega
     ·go_round
      case rel=>exact⟨j+1,by omega,by go_num,by rw[hs.out,←YX x (by assumption)]⟩
      case measure=>simp[intOf];omega
    ·obtain rfl:j=8:=by omega
     go_wp2_with fail
     go_roundw
     case rel=>
      refine⟨k+1,by omega,by go_num,r0.setOther (by simp;omega) _,?_,rb.setCell (by simp;omega) _⟩
      exact(r1.set k _).congr fun i _=>yh k i
     case measure=>simp[intOf];omega
  ·obtain rfl:k=256:=by omega
   obtain⟨cs,hcs,hn,hv⟩:=r1
   obtain⟨os,hos,hno,hvo⟩:=r0
   obtain rfl:=tabs_eq hn hv
   go_wp2_with (first | (refine wpList_load_row rfl 248 _ rfl g rfl 248 tabs _ _ hcs Tryz.underlying248 rfl ?c1 ?_) | (refine wpList_store_row rfl 248 _ _ rfl w.heap.size tabs rfl rfl 248 os hos ?c2 ?c3 ?c4 ?_))
   case c1=>rw[Jc,hn]
   case c2=>rw[Jc,hn]
   case c3=>rw[hno,hn]
   case c4=>exact yu
   refine bodyPost_ret (results_cell_row rfl _ _ w.heap.size 248 tabs _ _ rfl (setRow_heap _ _ _ _ _ _ hos) Tryz.underlying248 rfl (by rw[Jc,hn])) rfl ?_
   exact⟨rfl,below_setRow rb (Nat.le_refl _) _⟩
theorem Y6(a:BitVec 64):bits .xor .u64 IntKind.u64.max (a.toNat:Int)=((~~~a).toNat:Int):=by
 rw[show IntKind.u64.max=(((BitVec.allOnes 64).toNat:Nat):Int)from rfl,afF,BitVec.allOnes_xor]
structure wI(w0:World)(g:Nat)(w:World):Prop where
 tab: ∀i,i<256→w.cell? ⟨g,i,none⟩=some (.int .u64 (T i).toNat)
 below:Below w0.heap.size w0 w
theorem yt(b:UInt8):(dw.ext 64 b).toNat=b.toNat:=by
 have:=b.toNat_lt
 unfold dw.ext;simp only[BitVec.toNat_setWidth,UInt8.toNat_toBitVec];omega
theorem Ed(x:BitVec 64)(v:UInt8)(m:Nat)(hm:m=(x.toNat%256) ^^^ v.toNat):bits .xor .u64 ((x.toNat:Int)/256) ((T m).toNat:Int)=((dw.eat O9 x v).toNat:Int):=by
 have e:(x.toNat:Int)/(256:Int)=((x >>> 8).toNat:Int):=by
  rw[BitVec.toNat_ushiftRight,Nat.shiftRight_eq_div_pow];simp
 have hl:dw.low (x ^^^ dw.ext 64 v)=BitVec.ofNat 64 m:=by
  unfold dw.low
  apply BitVec.eq_of_toNat_eq
  have hv:=v.toNat_lt
  simp only[BitVec.toNat_setWidth,BitVec.toNat_ofNat,BitVec.toNat_xor,yt]
  rw[Nat.xor_mod_two_pow (n:=8),hm,Nat.mod_eq_of_lt (show v.toNat<2^8 by omega)]
 have hs:(x ^^^ dw.ext 64 v) >>> 8=x >>> 8:=by
  apply BitVec.eq_of_getLsbD_eq
  intro i _
  rw[BitVec.getLsbD_ushiftRight,BitVec.getLsbD_ushiftRight,BitVec.getLsbD_xor,dw.I9 64 v _ (by omega)];simp
 rw[e,afF]
 unfold dw.eat
 rw[dw.Bg,hs,hl];rfl
theorem Ee(x:BitVec 64)(v:UInt8): ∃m:Nat,m<256∧m=(x.toNat%256) ^^^ v.toNat∧bits .xor .u8 ((x.toNat:Int)%256) (v.toNat:Int)=(m:Int):=by
 have hv:=v.toNat_lt
 refine⟨_,Nat.xor_lt_two_pow (n:=8) (show x.toNat%256<2^8 by omega) (show v.toNat<2^8 by omega),rfl,?_⟩
 rw[show(x.toNat:Int)%256=((x.toNat%256:Nat):Int)from by omega,u8_xor_nat _ _ (by omega) (by omega)]
theorem zD(x:BitVec 64)(l:List UInt8)(k:Nat)(h:k<l.length):dw.eats O9 x (l.take (k+1))=dw.eat O9 (dw.eats O9 x (l.take k)) l[k]:=by
 rw[List.take_succ_eq_append_getElem h,dw.Am];rfl
def jB(s:BitVec 64)(l:List UInt8):BitVec 64:= ~~~ dw.eats O9 (~~~ s) l
theorem on_any(s:BitVec 64)(A:Option Addr)(l:List UInt8)(c:Nat)(w:World)(hB:Bytes w A l)(hc:l.length≤c)(hm:c≤9223372036854775807):
  Calls Tryz.prog 128 #[.int .u64 s.toNat,.slice A l.length c] w fun e w'=>
   e= .returned (.int .u64 (jB s l).toNat)∧Below w.heap.size w w':=by
 have hz:=(zero_of_info adR).1
 go_enter Tryz.func128,Tryz.ntmps128
 go_wp2_with fail
 refine(mk_any w).mono ?_
 rintro e w1 ⟨rfl,hb1⟩
 go_wp2_with (refine wpList_store_row rfl 248 _ _ rfl w1.heap.size tabs rfl rfl 248 lD (heap_alloc_last _ _) ?c2 ?c3 ?c4 ?_)
 case c2=>rw[Jc,pW]
 case c3=>rw[pW];simp[lD]
 case c4=>exact yu
 rw[World.setRow_alloc_new,Y6]
 have hT:wI w w1.heap.size (w1.alloc (.cells tabs 248)):=⟨zC (heap_alloc_last _ _),hb1.alloc hb1.size _⟩
 have hB1:=hB.below hT.below
 generalize w1.alloc (.cells tabs 248)=w2 at*
 generalize w1.heap.size=g at*
 clear hb1 hz hB
 generalize hx0: ~~~s=x0
 have HX0:=Lib.hid hx0;clear hx0
 go_loop [6,14] (fun reg i=> ∃k:Nat,k≤l.length∧i= .int .i64 k∧reg= .int .u64 (dw.eats O9 x0 (l.take k)).toNat) (fun _ i=>l.length-(intOf i).toNat)
 case atStart=>exact⟨0,by omega,rfl,by simp[dw.eats]⟩
 case round=>
  obtain⟨k,hk,rfl,rfl⟩:=hrel
  by_cases hlt:k<l.length
  ·obtain⟨b,off,rfl,_,hcell⟩:=hB1.addr (by omega)
   have hck:=hcell k hlt
   have hs:=Lib.hid (zD x0 l k hlt)
   generalize dw.eats O9 x0 (l.take k)=y at*
   obtain⟨m,Gi,hmv,hmw⟩:=Ee y l[k]
   have hct:=hT.tab m (by omega)
   have Hmv:=Lib.hid hmv;clear hmv
   have i0:(m:Int)<256:=by omega
   generalize l[k]=v at*
   clear hcell
   go_wp2_with fail
   go_round
   case rel=>exact⟨k+1,by omega,by go_num,by rw[hs.out,←Ed y v m Hmv.out]⟩
   case measure=>simp[intOf];omega
  ·obtain rfl:k=l.length:=by omega
   go_wp2_with fail
   go_ret
   have hnum:bits .xor .u64 IntKind.u64.max ((dw.eats O9 x0 l).toNat:Int)=((jB s l).toNat:Int):=by rw[Y6,←HX0.out];rfl
   exact⟨congrArg (fun n:Int=>Ending.returned (Value.int .u64 n)) hnum,hT.below⟩
end Y5
namespace Y5
end Y5
namespace Y5
theorem Jb(A:Option Addr)(l:List UInt8)(c:Nat)(w:World)(hB:Bytes w A l)(hc:l.length≤c)(hm:c≤9223372036854775807):
  Calls Tryz.prog 128 #[.int .u64 0,.slice A l.length c] w fun e w'=>
   e= .returned (.int .u64 (jB 0#64 l).toNat)∧Below w.heap.size w w':=on_any 0#64 A l c w hB hc hm
theorem sum_any(A:Option Addr)(l:List UInt8)(c:Nat)(w:World)(hB:Bytes w A l)(hc:l.length≤c)(hm:c≤9223372036854775807):
  Calls Tryz.prog 86 #[.slice A l.length c] w fun e w'=>
   e= .returned (.int .u64 (jB 0#64 l).toNat)∧Below w.heap.size w w':=by
 go_enter Tryz.func86,Tryz.ntmps86
 go_wp2_with fail
 refine(Jb A l c _ hB hc hm).mono ?_
 rintro e w' ⟨rfl,hb⟩
 go_wp2_with fail
 go_ret
 exact⟨rfl,hb⟩
end Y5
theorem afG(w:World)(r clock:Nat)(k:Int)(es:Array MapEntry)(v:Value)(hb:w.heap[r]? =some (.map es clock))(hf:Instr.findNow (.int .i64) (.int .i64 k) es.toList 0=some none):
  (Instr.mapUpdate 88 (.map (some r)) (.int .i64 k) v).run Tryz.prog w= .ok () {w with heap:=w.heap.setIfInBounds r (.map (es.push {key:= .int .i64 k,val:=v,born:=clock}) (clock+1))}:=by
 have hc:(Instr.checkKey false 10000 3 (.int .i64 k)).run Tryz.prog w= .ok () w:=MapKept.run_checkKey (k:= .int .i64 k) Tryz.underlying3 (by simp[MapKept.IsKey]) false 9999
 simp[Instr.mapUpdate,run_underlying Tryz.underlying88,MapKept.run_getObj_map hb,hc,MapKept.run_findKey Tryz.underlying3 hf,MapKept.run_setObj_map _ hb,Result.andThen]
def oQ:Array MapEntry:= #[⟨.int .i64 0,.func (.func 81) #[] #[],0⟩,⟨.int .i64 1,.func (.func 82) #[] #[],1⟩,⟨.int .i64 4,.func (.func 85) #[] #[],2⟩,⟨.int .i64 10,.func (.func 87) #[] #[],3⟩]
theorem Bj{w W:World}{r c:Nat}{es:Array MapEntry}(k:Int)(v:Value)(hb:W.heap[r]? =some (.map es c))(hf:Instr.findNow (.int .i64) (.int .i64 k) es.toList 0=some none)(hB:Below w.heap.size w W)(hr:w.heap.size≤r):
  ∃W',(Instr.mapUpdate 88 (.map (some r)) (.int .i64 k) v).run Tryz.prog W= .ok () W'∧W'.heap[r]? =some (.map (es.push {key:= .int .i64 k,val:=v,born:=c}) (c+1))∧Below w.heap.size w W':=by
 refine⟨_,afG W r c k es v hb hf,(MapKept.heap_set hb).1,?_⟩
 exact⟨hB.os,hB.tape,hB.output,by simpa using hB.size,fun i hi=>((MapKept.heap_set hb).2 i (by omega)).trans (hB.block i hi)⟩
def Y7(w:World)(e:Ending)(w':World):Prop:= ∃r,e= .returned (.map (some r))∧w'.heap[r]? =some (.map oQ 4)∧w.heap.size≤r∧Below w.heap.size w w'
theorem nH(w:World):Calls Tryz.prog 47 #[] w (Y7 w):=by
 have hmm:=run_makeMap (P:=Tryz.prog) 88 w
 have b0:=(MapKept.heap_alloc w (.map #[] 0)).1
 have B0:Below w.heap.size w (w.alloc (.map #[] 0)):=(Below.refl _ _).alloc (Nat.le_refl _) _
 generalize w.alloc (.map #[] 0)=W0 at*
 obtain⟨W1,i1,b1,B1⟩:=Bj 0 (.func (.func 81) #[] #[]) b0 rfl B0 (Nat.le_refl _)
 obtain⟨W2,i2,b2,B2⟩:=Bj 1 (.func (.func 82) #[] #[]) b1 rfl B1 (Nat.le_refl _)
 obtain⟨W3,i3,b3,B3⟩:=Bj 4 (.func (.func 85) #[] #[]) b2 rfl B2 (Nat.le_refl _)
 obtain⟨W4,i4,b4,B4⟩:=Bj 10 (.func (.func 87) #[] #[]) b3 rfl B3 (Nat.le_refl _)
 have HB4:=Lib.hid b4
 clear b0 b1 b2 b3 b4
 go_enter Tryz.func47,Tryz.ntmps47
 go_wp2_with fail
 go_ret
 exact⟨w.heap.size,rfl,HB4.out,Nat.le_refl _,B4⟩
theorem qL(w:World)(r:Nat)(id:Int)(hb:w.heap[r]? =some (.map oQ 4))(a:Option (Nat×Value))(hf:Instr.findNow (.int .i64) (.int .i64 id) oQ.toList 0=some a):
  (Instr.lookup 88 (.map (some r)) (.int .i64 id) true).run Tryz.prog w= .ok (.tuple #[(a.map (·.2)).getD .nilFunc,.bool a.isSome]) w:=by
 have hz:(zeroValue 86).run Tryz.prog w= .ok .nilFunc w:=by kernel_rfl
 have hc: ∀e,(Instr.checkKey e 10000 3 (.int .i64 id)).run Tryz.prog w= .ok () w:=fun e=>MapKept.run_checkKey (k:= .int .i64 id) Tryz.underlying3 (by simp[MapKept.IsKey]) e 9999
 cases a<;>simp[Instr.lookup,run_underlying Tryz.underlying88,MapKept.run_getObj_map hb,hc,MapKept.run_findKey Tryz.underlying3 hf,hz,Result.andThen]
def iD(c:Int):Bool:=c==0||c==1||c==4||c==10
theorem GY:Instr.findNow (.int .i64) (.int .i64 0) oQ.toList 0=some (some (0,.func (.func 81) #[] #[])):=rfl
theorem zF:Instr.findNow (.int .i64) (.int .i64 1) oQ.toList 0=some (some (1,.func (.func 82) #[] #[])):=rfl
theorem GZ:Instr.findNow (.int .i64) (.int .i64 4) oQ.toList 0=some (some (2,.func (.func 85) #[] #[])):=rfl
theorem Ef:Instr.findNow (.int .i64) (.int .i64 10) oQ.toList 0=some (some (3,.func (.func 87) #[] #[])):=rfl
theorem qM(c k:Int)(h:c≠k):Instr.sameNow (.int .i64) (.int .i64 c) (.int .i64 k)=some false:=by simp[Instr.sameNow,h]
theorem Eh(c:Int)(h:iD c=false):Instr.findNow (.int .i64) (.int .i64 c) oQ.toList 0=some none:=by
 simp[iD]at h
 obtain⟨⟨⟨h0,h1⟩,h4⟩,h10⟩:=h
 simp[oQ,Instr.findNow,qM _ _ h0,qM _ _ h1,qM _ _ h4,qM _ _ h10]
def tZ(c:Int)(l:List UInt8):List UInt8:=if c=1 then qK (C3.jB 0#32 l).toNat 4 else if c=4 then qK (Y5.jB 0#64 l).toNat 8 else if c=10 then(St.new.puts l).digest else []
def dS(c:Int):Nat:=if c=1 then 4 else if c=4 then 8 else if c=10 then 32 else 0
theorem jQ(c:Int)(l:List UInt8):(tZ c l).length=dS c:=by
 unfold tZ dS
 split
 ·exact oC _ _
 ·split
  ·exact oC _ _
  ·split
   ·exact oM _
   ·rfl
end Go.Proofs.YtgfpocdiojifoaaGreatDoor
