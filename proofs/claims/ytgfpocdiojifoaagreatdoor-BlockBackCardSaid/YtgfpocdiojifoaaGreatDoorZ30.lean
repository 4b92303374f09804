import Derived.Test.YtgfpocdiojifoaaGreatDoorZ29
namespace Go.Proofs.YtgfpocdiojifoaaGreatDoor
set_option maxRecDepth 100000
set_option maxHeartbeats 8000000
open Go.RowKit
section
namespace De
open Go.RowKit Go.Proofs.YtgfpocdiojifoaaGreatDoor
def Gives(w:World)(l:List UInt8)(err:Int)(e:Ending)(w':World):Prop:= ∃v,e= .returned (.tuple #[v,.int .i64 err])∧Own w.heap.size w' v l∧Below w.heap.size w w'
theorem afw(a b:UInt8):IntKind.u8.wrap ((a.toNat:Int)-(b.toNat:Int))=((a-b).toNat:Int):=by
 have h1:=a.toNat_lt
 have h2:=b.toNat_lt
 rw[IntKind.wrap_u8',UInt8.toNat_sub];omega
theorem afx(a b:UInt8):IntKind.u8.wrap ((a.toNat:Int)+(b.toNat:Int))=((a+b).toNat:Int):=by
 rw[IntKind.wrap_u8',UInt8.toNat_add];omega
theorem am2(v b:UInt8)(w:World):Calls Tryz.prog 118 #[.int .u8 v.toNat,.int .u8 b.toNat] w fun e w'=>e= .returned (.tuple #[.int .u8 (v-b).toNat,.int .u8 v.toNat])∧w=w':=by
 have h:=afw v b
 rw[IntKind.wrap_u8']at h
 go_enter Tryz.func118,Tryz.ntmps118
 go_wp2_with fail
 go_ret2
 exact⟨congrArg (fun n:Int=>Ending.returned (.tuple #[.int .u8 n,.int .u8 v.toNat])) h,rfl⟩
theorem am3(v b:UInt8)(w:World):Calls Tryz.prog 188 #[.int .u8 v.toNat,.int .u8 b.toNat] w fun e w'=>e= .returned (.tuple #[.int .u8 (v+b).toNat,.int .u8 (v+b).toNat])∧w=w':=by
 have h:=afx v b
 rw[IntKind.wrap_u8']at h
 go_enter Tryz.func188,Tryz.ntmps188
 go_wp2_with fail
 go_ret2
 exact⟨congrArg (fun n:Int=>Ending.returned (.tuple #[.int .u8 n,.int .u8 n])) h,rfl⟩
def vM:Array Value:=Array.replicate 256 (.int .u8 0)
theorem adP:(Tryz.prog.info? 223).map (fun i=>(i.zero,i.size))=some (some (.agg vM),256):=by kernel_rfl
theorem Ls(w:World):(w.alloc (.cells vM 223)).rowIs w.heap.size 223 256 (fun _=>B8 0):=by
 have h:=World.rowIs_alloc w vM 223 (fun _=>B8 0) (fun i hi=>by
  unfold vM at hi ⊢
  rw[Array.getElem?_replicate,if_pos (by simpa using hi)];rfl)
 have e:vM.size=256:=by simp[vM]
 rwa [e]at h
theorem D5(n:Nat):(madeCells (Value.int .u8 0).cells (n*1)).toList=(List.replicate n (0:UInt8)).map B8:=by
 rw[Nat.mul_one,show(Value.int .u8 0).cells= #[Value.int .u8 0]from rfl,toList_madeCells_one,List.map_replicate];rfl
theorem D6(k:Nat)(d:Int)(h1:1≤d)(h2:d≤256)(hk:k≤9223372036854775807):IntKind.u8.wrap ((k:Int)-d)=(((k+256-d.toNat)%256:Nat):Int):=by
 rw[IntKind.wrap_u8'];omega
theorem YE(l:List UInt8)(k:Nat)(h:k<l.length):Delta.at_ l k=l[k]:=by simp[Delta.at_,List.getD,h]
theorem Lu(a:List UInt8)(n k:Nat)(x:UInt8)(ha:a.length=k)(hk:k<n):((a++List.replicate (n-k) 0).map B8).set k (B8 x)=((a++[x])++List.replicate (n-(k+1)) 0).map B8:=by
 rw[←List.map_set]
 congr 1
 obtain⟨m,hm⟩: ∃m,n-k=m+1:=⟨n-k-1,by omega⟩
 rw[hm,show n-(k+1)=m by omega,List.replicate_succ,List.set_append_right _ _ (by omega),ha,Nat.sub_self,List.set_cons_zero,List.append_assoc];rfl
theorem uO{w:World}{base base' e n:Nat}{v:Value}{xs:List Value}(h:w.ownsRow base e 1 v n xs)(hb:base'≤base):w.ownsRow base' e 1 v n xs:=by
 rcases h with⟨h1,h2 | ⟨g,cap,cur,h2,h3,h4⟩⟩
 ·exact⟨h1,.inl h2⟩
 ·exact⟨h1,.inr ⟨g,cap,cur,h2,by omega,h4⟩⟩
theorem YF(A:Option Addr)(l:List UInt8)(c:Nat)(d:Int)(w:World)(hB:Bytes w A l)(hm:l.length≤140737488355328)(hd1:1≤d)(hd2:d≤256):
  Calls Tryz.prog 117 #[.slice A l.length c,.int .i64 d,.func (.func 118) #[] #[]] w (Gives w (Delta.enc l d.toNat) 0):=by
 have hz:=(zero_of_info adP).1
 obtain⟨i,hi,hz0,hz1,hz2⟩:=info_parts wW
 have g1:decide (d<1)=false:=by simp;omega
 have g2:decide (256<d)=false:=by simp;omega
 have hmk:i.bytes*l.length≤281474976710656:=by rw[hz2];omega
 have hml:l.length≤maxLen:=by unfold maxLen;omega
 have hr0:=Ls w
 have hb0:Below w.heap.size w (w.alloc (.cells vM 223)):=(Below.refl _ _).alloc (Nat.le_refl _) _
 go_enter Tryz.func117,Tryz.ntmps117
 go_wp2_with (refine wpList_make_full _ rfl _ _ 22 rfl (w.heap.size+1) 5 i (.int .u8 0) 1 Tryz.underlying22 hi hz0 hz1 _ _ _ _ l.length rfl rfl rfl rfl hmk hml (by simp) ?_;intro w1 hown1 hg1)
 rw[D5]at hown1
 have hr1:w1.rowIs w.heap.size 223 256 (fun _=>B8 0):=hr0.of_block (hg1.block _ (by simp) (by simp))
 have hb1:Below w.heap.size w w1:=below_grown hb0 hg1 hb0.size (by simp)
 have hsz:(w.alloc (.cells vM 223)).heap.size=w.heap.size+1:=by simp
 rw[hsz]at hown1
 clear hz hr0 hb0 hg1 hi hz0 hz1 hz2 hmk hsz
 generalize hg:w.heap.size+1=g at*
 have hgl:w.heap.size<g:=by omega
 have HG:=Lib.hid hg;clear hg
 generalize hdn:d.toNat=dn at*
 have HD:=Lib.hid hdn
 have acs:1≤dn:=by omega
 have afy:dn≤256:=by omega
 clear hdn g1 g2
 go_loopw [23] (fun i wr=> ∃(k:Nat) (f:Nat→UInt8),k≤l.length∧i= .int .i64 k∧wr.rowIs w.heap.size 223 256 (fun j=>B8 (f j))∧Delta.Win (l.take k) f∧wr.ownsRow g 5 1 (.slice (some ⟨g,0,none⟩) l.length l.length) l.length ((Delta.vK l dn k++List.replicate (l.length-k) 0).map B8)∧Below w.heap.size w wr) (fun i _=>l.length-(intOf i).toNat)
 case atStart=>exact⟨0,fun _=>0,by omega,rfl,hr1,Delta.Win.nil,by simpa [Delta.vK]using hown1,hb1⟩
 case round=>
  clear hr1 hown1 hb1
  obtain⟨k,f,hk,rfl,hr,hw,hown,hb⟩:=hrel
  by_cases hlt:k<l.length
  ·obtain⟨b,off,rfl,hbl,hcell⟩:=(hB.below hb).addr (by omega)
   have hck:=hcell k hlt
   have hlen:(l.take k).length=k:=by rw[List.length_take];omega
   have hwd:=hw dn acs afy
   rw[hlen]at hwd
   have hoi:=D6 k d hd1 hd2 (by omega)
   rw[HD.out]at hoi
   have hring:=hr.cell (i:=(k+256-dn)%256) (by omega)
   have afz:=hr.cell (i:=k%256) (by omega)
   have hrf:=hr.frozen (k%256)
   have hst:=Lib.hid (hown.stored k)
   have hoc:=hown.cellAt k (by omega)
   have hof:=hown.frozenAt k
   rw[List.getElem?_map,List.getElem?_append_right (by rw[Delta.l9];exact Nat.le_refl _),Delta.l9,Nat.sub_self,List.getElem?_replicate,if_pos (by omega)]at hoc
   simp only[Option.map]at hoc
   have hki:IntKind.u8.wrap (k:Int)=((k%256:Nat):Int):=by rw[IntKind.wrap_u8'];omega
   have hput:=Lib.hid (Lu (Delta.vK l dn k) l.length k (Delta.at_ l k-Delta.back l dn k) (Delta.l9 _ _ _) hlt)
   have hnext:=Lib.hid (Delta.OX l dn k)
   have hon:=Lib.hid (List.take_succ_eq_append_getElem hlt)
   have hwn:=Lib.hid (hw.snoc (Delta.at_ l k))
   have hb1:(((k+256-dn)%256:Nat):Int)<256:=by omega
   have hb2:((k%256:Nat):Int)<256:=by omega
   generalize hbb:f ((k+256-dn)%256)=bb at*
   generalize hm1:(k+256-dn)%256=m1 at*
   generalize hm2:k%256=m2 at*
   have uT:=Lib.hid hm1
   have EX:=Lib.hid hm2
   have Xv:=Lib.hid hbb
   have HWD:=Lib.hid hwd
   have HW:=Lib.hid hw
   have hat:=YE l k hlt
   generalize hv:l[k]=v at*
   have HV:=Lib.hid hv
   have HAT:=Lib.hid hat
   clear hm1 hm2 hbb hwd hw hv hat hcell
   go_wp2_with fail
   refine(am2 v bb _).mono ?_
   rintro e w' ⟨rfl,rfl⟩
   generalize hsv:v-bb=sv at*
   have HSV:=Lib.hid hsv;clear hsv
   go_wp2_with fail
   go_roundw
   case rel=>
    have hbk:bb=Delta.back (l.take k) dn k:=HWD.out
    have hx:sv=Delta.at_ l k-Delta.back l dn k:=by rw[←HSV.out,hbk,HAT.out];rw[Delta.Ud _ _ _ acs]
    obtain⟨hs1,hs2⟩:=hst.out (B8 sv)
    have h3:=hput.out
    have h4:=hnext.out
    rw[←hx]at h3 h4
    rw[h3,←h4]at hs1
    refine⟨k+1,fun j=>if j=m2 then v else f j,by omega,by go_num,?_,?_,?_,?_⟩
    ·refine((hr.setOther (by simp;omega) _).set m2 _).congr fun j _=> ?_
     by_cases e:j=m2<;>simp[e]
    ·have h2:=hwn.out
     rw[hlen,EX.out]at h2
     rw[HAT.out]at h2;rw[hon.out];exact h2
    ·exact(World.ownsRow.kept (row:=some w.heap.size) hs1 ⟨rfl,rfl,rfl,by simp,fun j _ hj=>heap_setCell_other _ _ j _ (fun e=>hj (by simp[e]))⟩ (.inr (by simp[Value.ownBlock];omega)))
    ·exact(hb.setCell (by simp;omega) _).setCell (by simp) _
   case measure=>simp[intOf];omega
  ·obtain rfl:k=l.length:=by omega
   go_wp2_with fail
   go_ret2
   refine⟨_,rfl,?_,hb⟩
   rw[Nat.sub_self,List.replicate_zero,List.append_nil]at hown
   have hl:(Delta.enc l dn).length=l.length:=Delta.qJ _ _
   unfold Own
   rw[hl]
   exact uO hown (by omega)
theorem YG(A:Option Addr)(l:List UInt8)(c:Nat)(d:Int)(w:World)(hB:Bytes w A l)(hm:l.length≤140737488355328)(hd1:1≤d)(hd2:d≤256):
  Calls Tryz.prog 117 #[.slice A l.length c,.int .i64 d,.func (.func 188) #[] #[]] w (Gives w (Delta.dec l d.toNat) 0):=by
 have hz:=(zero_of_info adP).1
 obtain⟨i,hi,hz0,hz1,hz2⟩:=info_parts wW
 have g1:decide (d<1)=false:=by simp;omega
 have g2:decide (256<d)=false:=by simp;omega
 have hmk:i.bytes*l.length≤281474976710656:=by rw[hz2];omega
 have hml:l.length≤maxLen:=by unfold maxLen;omega
 have hr0:=Ls w
 have hb0:Below w.heap.size w (w.alloc (.cells vM 223)):=(Below.refl _ _).alloc (Nat.le_refl _) _
 go_enter Tryz.func117,Tryz.ntmps117
 go_wp2_with (refine wpList_make_full _ rfl _ _ 22 rfl (w.heap.size+1) 5 i (.int .u8 0) 1 Tryz.underlying22 hi hz0 hz1 _ _ _ _ l.length rfl rfl rfl rfl hmk hml (by simp) ?_;intro w1 hown1 hg1)
 rw[D5]at hown1
 have hr1:w1.rowIs w.heap.size 223 256 (fun _=>B8 0):=hr0.of_block (hg1.block _ (by simp) (by simp))
 have hb1:Below w.heap.size w w1:=below_grown hb0 hg1 hb0.size (by simp)
 have hsz:(w.alloc (.cells vM 223)).heap.size=w.heap.size+1:=by simp
 rw[hsz]at hown1
 clear hz hr0 hb0 hg1 hi hz0 hz1 hz2 hmk hsz
 generalize hg:w.heap.size+1=g at*
 have hgl:w.heap.size<g:=by omega
 have HG:=Lib.hid hg;clear hg
 generalize hdn:d.toNat=dn at*
 have HD:=Lib.hid hdn
 have acs:1≤dn:=by omega
 have afy:dn≤256:=by omega
 clear hdn g1 g2
 go_loopw [23] (fun i wr=> ∃(k:Nat) (f:Nat→UInt8),k≤l.length∧i= .int .i64 k∧wr.rowIs w.heap.size 223 256 (fun j=>B8 (f j))∧Delta.Win (Delta.gu l dn k) f∧wr.ownsRow g 5 1 (.slice (some ⟨g,0,none⟩) l.length l.length) l.length ((Delta.gu l dn k++List.replicate (l.length-k) 0).map B8)∧Below w.heap.size w wr) (fun i _=>l.length-(intOf i).toNat)
 case atStart=>exact⟨0,fun _=>0,by omega,rfl,hr1,Delta.Win.nil,by simpa [Delta.gu]using hown1,hb1⟩
 case round=>
  clear hr1 hown1 hb1
  obtain⟨k,f,hk,rfl,hr,hw,hown,hb⟩:=hrel
  by_cases hlt:k<l.length
  ·obtain⟨b,off,rfl,hbl,hcell⟩:=(hB.below hb).addr (by omega)
   have hck:=hcell k hlt
   have hlen:(Delta.gu l dn k).length=k:=by exact Delta.iC _ _ _
   have hwd:=hw dn acs afy
   rw[hlen]at hwd
   have hoi:=D6 k d hd1 hd2 (by omega)
   rw[HD.out]at hoi
   have hring:=hr.cell (i:=(k+256-dn)%256) (by omega)
   have afz:=hr.cell (i:=k%256) (by omega)
   have hrf:=hr.frozen (k%256)
   have hst:=Lib.hid (hown.stored k)
   have hoc:=hown.cellAt k (by omega)
   have hof:=hown.frozenAt k
   rw[List.getElem?_map,List.getElem?_append_right (by rw[Delta.iC];exact Nat.le_refl _),Delta.iC,Nat.sub_self,List.getElem?_replicate,if_pos (by omega)]at hoc
   simp only[Option.map]at hoc
   have hki:IntKind.u8.wrap (k:Int)=((k%256:Nat):Int):=by rw[IntKind.wrap_u8'];omega
   have hput:=Lib.hid (Lu (Delta.gu l dn k) l.length k (Delta.at_ l k+Delta.back (Delta.gu l dn k) dn k) (Delta.iC _ _ _) hlt)
   have hnext:=Lib.hid (Delta.DZ l dn k)
   have hon:=Lib.hid (Delta.DZ l dn k)
   have hwn:=Lib.hid (hw.snoc (Delta.at_ l k+Delta.back (Delta.gu l dn k) dn k))
   have hb1:(((k+256-dn)%256:Nat):Int)<256:=by omega
   have hb2:((k%256:Nat):Int)<256:=by omega
   generalize hbb:f ((k+256-dn)%256)=bb at*
   generalize hm1:(k+256-dn)%256=m1 at*
   generalize hm2:k%256=m2 at*
   have uT:=Lib.hid hm1
   have EX:=Lib.hid hm2
   have Xv:=Lib.hid hbb
   have HWD:=Lib.hid hwd
   have HW:=Lib.hid hw
   have hat:=YE l k hlt
   generalize hv:l[k]=v at*
   have HV:=Lib.hid hv
   have HAT:=Lib.hid hat
   clear hm1 hm2 hbb hwd hw hv hat hcell
   go_wp2_with fail
   refine(am3 v bb _).mono ?_
   rintro e w' ⟨rfl,rfl⟩
   generalize hsv:v+bb=sv at*
   have HSV:=Lib.hid hsv;clear hsv
   go_wp2_with fail
   go_roundw
   case rel=>
    have hbk:bb=Delta.back (Delta.gu l dn k) dn k:=HWD.out
    have hx:sv=Delta.at_ l k+Delta.back (Delta.gu l dn k) dn k:=by rw[←HSV.out,hbk,HAT.out]
    obtain⟨hs1,hs2⟩:=hst.out (B8 sv)
    have h3:=hput.out
    have h4:=hnext.out
    rw[←hx]at h3 h4
    rw[h3,←h4]at hs1
    refine⟨k+1,fun j=>if j=m2 then sv else f j,by omega,by go_num,?_,?_,?_,?_⟩
    ·refine((hr.setOther (by simp;omega) _).set m2 _).congr fun j _=> ?_
     by_cases e:j=m2<;>simp[e]
    ·have h2:=hwn.out
     rw[hlen,EX.out]at h2
     rw[←hx]at h2;rw[h4];exact h2
    ·exact(World.ownsRow.kept (row:=some w.heap.size) hs1 ⟨rfl,rfl,rfl,by simp,fun j _ hj=>heap_setCell_other _ _ j _ (fun e=>hj (by simp[e]))⟩ (.inr (by simp[Value.ownBlock];omega)))
    ·exact(hb.setCell (by simp;omega) _).setCell (by simp) _
   case measure=>simp[intOf];omega
  ·obtain rfl:k=l.length:=by omega
   go_wp2_with fail
   go_ret2
   refine⟨_,rfl,?_,hb⟩
   rw[Nat.sub_self,List.replicate_zero,List.append_nil]at hown
   have hl:(Delta.dec l dn).length=l.length:=Delta.wH _ _
   unfold Own
   rw[hl]
   exact uO hown (by omega)
theorem wG(A:Option Addr)(l:List UInt8)(c:Nat)(d:Int)(w:World)(hB:Bytes w A l)(hm:l.length≤140737488355328)(hd1:1≤d)(hd2:d≤256):
  Calls Tryz.prog 69 #[.slice A l.length c,.int .i64 d] w (Gives w (Delta.enc l d.toNat) 0):=by
 go_enter Tryz.func69,Tryz.ntmps69
 go_wp2_with fail
 refine(YF A l c d _ hB hm hd1 hd2).mono ?_
 rintro e w' ⟨v,rfl,ho,hb⟩
 go_wp2_with fail
 go_ret2
 exact⟨v,rfl,ho,hb⟩
theorem decode_any(A:Option Addr)(l:List UInt8)(c:Nat)(d:Int)(w:World)(hB:Bytes w A l)(hm:l.length≤140737488355328)(hd1:1≤d)(hd2:d≤256):
  Calls Tryz.prog 153 #[.slice A l.length c,.int .i64 d] w (Gives w (Delta.dec l d.toNat) 0):=by
 go_enter Tryz.func153,Tryz.ntmps153
 go_wp2_with fail
 refine(YG A l c d _ hB hm hd1 hd2).mono ?_
 rintro e w' ⟨v,rfl,ho,hb⟩
 go_wp2_with fail
 go_ret2
 exact⟨v,rfl,ho,hb⟩
end De
end
section
namespace De
open Go.RowKit Go.Proofs.YtgfpocdiojifoaaGreatDoor
def Iu(w:World)(l:List UInt8)(e:Ending)(w':World):Prop:= ∃v,e= .returned v∧Own w.heap.size w' v l∧Below w.heap.size w w'
end De
end
structure bK where
 id:Int
 n:Nat
def bK.ok(f:bK):Prop:= -9223372036854775808≤f.id∧f.id≤9223372036854775807∧f.n<4294967296
abbrev bK.agg(f:bK):Value:= .agg #[.int .i64 f.id,.int .u32 (f.n:Nat)]
structure GX(w:World)(b o:Nat)(f:bK):Prop where
 c0:w.cell? ⟨b,o,none⟩=some (.int .i64 f.id)
 c1:w.cell? ⟨b,o+1,none⟩=some (.int .u32 (f.n:Nat))
 ok:f.ok
def gJ(w:World)(A:Option Addr)(l:List bK):Prop:=
 l=[]∨ ∃b off,A=some ⟨b,off,none⟩∧b<w.heap.size∧ ∀i (h:i<l.length),GX w b (off+i*2) l[i]
theorem GX.below{w w':World}{b o B:Nat}{f:bK}(h:GX w b o f)(hb:Below B w w')(hlt:b<B):GX w' b o f:=
 ⟨(hb.cell (p:=⟨b,o,none⟩) hlt).trans h.c0,(hb.cell (p:=⟨b,o+1,none⟩) hlt).trans h.c1,h.ok⟩
theorem gJ.below{w w':World}{A:Option Addr}{l:List bK}(h:gJ w A l)(hb:Below w.heap.size w w'):gJ w' A l:=by
 rcases h with h | ⟨b,off,rfl,hlt,h⟩
 ·exact .inl h
 ·exact .inr ⟨b,off,rfl,Nat.lt_of_lt_of_le hlt hb.size,fun i hi=>(h i hi).below hb hlt⟩
theorem gJ.addr{w:World}{A:Option Addr}{l:List bK}(h:gJ w A l)(hl:0<l.length): ∃b off,A=some ⟨b,off,none⟩∧b<w.heap.size∧ ∀i (h:i<l.length),GX w b (off+i*2) l[i]:=by
 rcases h with rfl | h
 ·simp at hl
 ·exact h
def eG(f:bK):Bool:=if f.id=3 then decide (1≤f.n)&&decide (f.n≤256)else I5 f.id f.n
def lu(l:List bK):Bool:=decide (l.length≤3)&&l.all eG
def lC(id:Int):Bool:=id==5||id==7||id==9||id==10
theorem dN(w:World)(o:Obj):Below w.heap.size w (w.alloc o):=(Below.refl _ _).alloc (Nat.le_refl _) _
theorem eH(id:Int)(w:World):Calls Tryz.prog 91 #[.int .i64 id] w fun e w'=>e= .returned (.bool (lC id))∧w=w':=by
 have hm:lC id=(id==5||id==7||id==9||id==10):=rfl
 generalize lC id=M at*
 by_cases h5:id=5
 ·subst h5
  simp only[show((5:Int)==5)=true from rfl,Bool.true_or]at hm
  subst hm
  go_enter Tryz.func91,Tryz.ntmps91
  go_wp2_with fail
  go_ret
  exact⟨rfl,rfl⟩
 ·have b5:(id==5)=false:=by simp[h5]
  by_cases h7:id=7
  ·subst h7
   simp only[show((7:Int)==7)=true from rfl,Bool.or_true,Bool.true_or]at hm
   subst hm
   clear h5 b5
   go_enter Tryz.func91,Tryz.ntmps91
   go_wp2_with fail
   go_ret
   exact⟨rfl,rfl⟩
  ·have b7:(id==7)=false:=by simp[h7]
   by_cases h9:id=9
   ·subst h9
    simp only[show((9:Int)==9)=true from rfl,Bool.or_true,Bool.true_or]at hm
    subst hm
    clear h5 b5 h7 b7
    go_enter Tryz.func91,Tryz.ntmps91
    go_wp2_with fail
    go_ret
    exact⟨rfl,rfl⟩
   ·have b9:(id==9)=false:=by simp[h9]
    rw[b5,b7,b9]at hm
    simp only[Bool.false_or]at hm
    clear h5 h7 h9
    generalize hT:(id==10)=T at*
    subst hm
    have HT:=Lib.hid hT
    cases M
    all_goals
     go_enter Tryz.func91,Tryz.ntmps91
     go_wp2_with fail
     go_ret
     exact⟨rfl,rfl⟩
theorem fits_any(f:bK)(hf:f.ok)(w:World):Calls Tryz.prog 50 #[f.agg] w fun e w'=>e= .returned (.bool (eG f))∧Below w.heap.size w w':=by
 obtain⟨id,n⟩:=f
 obtain⟨h1,h2,h3⟩:=hf
 simp only at h1 h2 h3
 have hb:=dN w
 have HM:=Lib.hid (Uc id n)
 by_cases hid:id=3
 ·subst hid
  have hfb:eG ⟨3,n⟩=(decide (1≤n)&&decide (n≤256)):=rfl
  generalize eG ⟨3,n⟩=R at*
  by_cases hn:1≤n
  ·have d1:decide ((1:Int)≤(n:Int))=true:=by simp;omega
   have zB:R=decide (n≤256):=by rw[hfb];simp[hn]
   clear hfb
   by_cases hn2:n≤256
   ·have d2:decide ((n:Int)≤256)=true:=by simp;omega
    rw[decide_eq_true hn2]at zB
    subst zB
    go_enter Tryz.func50,Tryz.ntmps50
    go_wp2_with fail
    go_ret
    exact⟨rfl,hb _⟩
   ·have d2:decide ((n:Int)≤256)=false:=by simp;omega
    rw[decide_eq_false hn2]at zB
    subst zB
    go_enter Tryz.func50,Tryz.ntmps50
    go_wp2_with fail
    go_ret
    exact⟨rfl,hb _⟩
  ·have d1:decide ((1:Int)≤(n:Int))=false:=by simp;omega
   have zB:R=false:=by rw[hfb];simp[hn]
   subst zB
   clear hfb
   go_enter Tryz.func50,Tryz.ntmps50
   go_wp2_with fail
   go_ret
   exact⟨rfl,hb _⟩
 ·have hfb:eG ⟨id,n⟩=I5 id n:=by unfold eG;rw[if_neg hid]
  rw[hfb]
  generalize I5 id n=R at*
  clear hfb
  go_enter Tryz.func50,Tryz.ntmps50
  go_wp2_with fail
  refine(HM.out _).mono ?_
  rintro e w' ⟨rfl,rfl⟩
  go_wp2_with fail
  go_ret
  exact⟨rfl,hb _⟩
theorem pV(f:bK)(hf:f.ok)(w:World):Calls Tryz.prog 53 #[f.agg] w fun e w'=>e= .returned (.bool (eG f))∧Below w.heap.size w w':=by
 obtain⟨id,n⟩:=f
 obtain⟨h1,h2,h3⟩:=hf
 simp only at h1 h2 h3
 have hb:=dN w
 have HM:=Lib.hid (eH id)
 by_cases hid:id=3
 ·subst hid
  have hfb:eG ⟨3,n⟩=(decide (1≤n)&&decide (n≤256)):=rfl
  generalize eG ⟨3,n⟩=R at*
  by_cases hn:1≤n
  ·have d1:decide ((1:Int)≤(n:Int))=true:=by simp;omega
   have zB:R=decide (n≤256):=by rw[hfb];simp[hn]
   clear hfb
   by_cases hn2:n≤256
   ·have d2:decide ((n:Int)≤256)=true:=by simp;omega
    rw[decide_eq_true hn2]at zB
    subst zB
    go_enter Tryz.func53,Tryz.ntmps53
    go_wp2_with fail
    go_ret
    exact⟨rfl,hb _⟩
   ·have d2:decide ((n:Int)≤256)=false:=by simp;omega
    rw[decide_eq_false hn2]at zB
    subst zB
    go_enter Tryz.func53,Tryz.ntmps53
    go_wp2_with fail
    go_ret
    exact⟨rfl,hb _⟩
  ·have d1:decide ((1:Int)≤(n:Int))=false:=by simp;omega
   have zB:R=false:=by rw[hfb];simp[hn]
   subst zB
   clear hfb
   go_enter Tryz.func53,Tryz.ntmps53
   go_wp2_with fail
   go_ret
   exact⟨rfl,hb _⟩
 ·have hfb:eG ⟨id,n⟩=(lC id&&n%4==0):=by unfold eG;rw[if_neg hid];rfl
  rw[hfb]
  generalize lC id=R at*
  clear hfb
  have hT:((n:Int)%4==0)=(n%4==0):=by rw[Bool.eq_iff_iff];simp;omega
  generalize(n%4==0)=T at*
  cases R
  all_goals
   go_enter Tryz.func53,Tryz.ntmps53
   go_wp2_with fail
   refine(HM.out _).mono ?_
   rintro e w' ⟨rfl,rfl⟩
   go_wp2_with fail
   go_ret
   exact⟨rfl,hb _⟩
theorem LD(l:List bK)(k:Nat)(h:k<l.length)(ha:(l.take k).all eG=true):(l.take (k+1)).all eG=eG l[k]:=by
 rw[List.take_succ_eq_append_getElem h,List.all_append,ha];simp
theorem YH(l:List bK)(k:Nat)(h:k<l.length)(hf:eG l[k]=false):l.all eG=false:=by
 rw[List.all_eq_false];exact⟨_,List.getElem_mem h,by simp[hf]⟩
theorem Ue(A:Option Addr)(l:List bK)(c:Nat)(w:World)(hF:gJ w A l)(hl:l.length≤20):
  Calls Tryz.prog 22 #[.slice A l.length c] w fun e w'=>e= .returned (.bool (lu l))∧Below w.heap.size w w':=by
 have hm:lu l=(decide (l.length≤3)&&l.all eG):=rfl
 have HM:=Lib.hid hm
 clear hm
 generalize lu l=M at*
 go_enter Tryz.func22,Tryz.ntmps22
 go_wp2_with fail
 go_loopw [3] (fun i wr=> ∃k:Nat,k≤l.length∧i= .int .i64 k∧(l.take k).all eG=true∧Below w.heap.size w wr) (fun i _=>l.length-(intOf i).toNat)
 case atStart=>exact⟨0,by omega,rfl,by simp,Below.refl _ _⟩
 case round=>
  obtain⟨k,hk,rfl,hall,hb⟩:=hrel
  by_cases hlt:k<l.length
  ·obtain⟨b,off,rfl,hbl,hat⟩:=(hF.below hb).addr (by omega)
   have hk1:=hat k hlt
   have hsn:=Lib.hid (LD l k hlt hall)
   have hno:=Lib.hid (YH l k hlt)
   have Fh:=Lib.hid (fits_any l[k] hk1.ok wr)
   have h0:=hk1.c0
   have h1:=hk1.c1
   have hok:=hk1.ok
   generalize l[k]=f at*
   obtain⟨id,n⟩:=f
   clear hat hall hk1
   simp only[bK.ok]at hok
   simp only at h0 h1
   cases hfb:eG ⟨id,n⟩with
   | true=>
    rw[hfb]at Fh hsn
    clear hfb hno
    go_wp2_with fail
    refine Fh.out.mono ?_
    rintro e w1 ⟨rfl,hb1⟩
    go_wp2_with fail
    go_roundw
    case rel=>exact⟨k+1,by omega,by go_num,hsn.out,hb.trans (hb1.mono hb.size)⟩
    case measure=>simp[intOf];omega
   | false=>
    have hx:=hno.out hfb
    have hm:=HM.out
    rw[hx,Bool.and_false]at hm
    subst hm
    rw[hfb]at Fh
    clear hfb hsn hx
    go_wp2_with fail
    refine Fh.out.mono ?_
    rintro e w1 ⟨rfl,hb1⟩
    go_wp2_with fail
    go_ret
    exact⟨rfl,hb.trans (hb1.mono hb.size)⟩
  ·obtain rfl:k=l.length:=by omega
   have hx:l.all eG=true:=by rw[List.take_length]at hall;exact hall
   have hm:=HM.out
   rw[hx,Bool.and_true]at hm
   have hd:decide ((l.length:Int)≤3)=decide (l.length≤3):=by rw[decide_eq_decide];omega
   generalize decide (l.length≤3)=D at*
   clear hx hall
   subst hm
   go_wp2_with fail
   go_ret
   exact⟨rfl,hb⟩
theorem yc(A:Option Addr)(l:List bK)(c:Nat)(w:World)(hF:gJ w A l)(hl:l.length≤20):
  Calls Tryz.prog 25 #[.slice A l.length c] w fun e w'=>e= .returned (.bool (lu l))∧Below w.heap.size w w':=by
 have hm:lu l=(decide (l.length≤3)&&l.all eG):=rfl
 by_cases h3:l.length≤3
 ·rw[decide_eq_true h3,Bool.true_and]at hm
  have HM:=Lib.hid hm
  clear hm
  generalize lu l=M at*
  have hd:decide ((3:Int)<(l.length:Int))=false:=by simp;omega
  go_enter Tryz.func25,Tryz.ntmps25
  go_wp2_with fail
  clear hd
  go_loopw [10] (fun i wr=> ∃k:Nat,k≤l.length∧i= .int .i64 k∧(l.take k).all eG=true∧Below w.heap.size w wr) (fun i _=>l.length-(intOf i).toNat)
  case atStart=>exact⟨0,by omega,rfl,by simp,Below.refl _ _⟩
  case round=>
   obtain⟨k,hk,rfl,hall,hb⟩:=hrel
   by_cases hlt:k<l.length
   ·obtain⟨b,off,rfl,hbl,hat⟩:=(hF.below hb).addr (by omega)
    have hk1:=hat k hlt
    have hsn:=Lib.hid (LD l k hlt hall)
    have hno:=Lib.hid (YH l k hlt)
    have Fh:=Lib.hid (pV l[k] hk1.ok)
    have h0:=hk1.c0
    have h1:=hk1.c1
    have hok:=hk1.ok
    generalize l[k]=f at*
    obtain⟨id,n⟩:=f
    clear hat hall hk1
    simp only[bK.ok]at hok
    simp only at h0 h1
    have hba:=fun o=>hb.alloc hb.size o
    cases hfb:eG ⟨id,n⟩with
    | true=>
     rw[hfb]at Fh hsn
     clear hfb hno
     go_wp2_with fail
     refine(Fh.out _).mono ?_
     rintro e w1 ⟨rfl,hb1⟩
     go_wp2_with fail
     go_roundw
     case rel=>exact⟨k+1,by omega,by go_num,hsn.out,(hba _).trans (hb1.mono (hba _).size)⟩
     case measure=>simp[intOf];omega
    | false=>
     have hx:=hno.out hfb
     have hm:=HM.out
     rw[hx]at hm
     subst hm
     rw[hfb]at Fh
     clear hfb hsn hx
     go_wp2_with fail
     refine(Fh.out _).mono ?_
     rintro e w1 ⟨rfl,hb1⟩
     go_wp2_with fail
     go_ret
     exact⟨rfl,(hba _).trans (hb1.mono (hba _).size)⟩
   ·obtain rfl:k=l.length:=by omega
    have hx:l.all eG=true:=by rw[List.take_length]at hall;exact hall
    have hm:=HM.out
    rw[hx]at hm
    clear hx hall
    subst hm
    go_wp2_with fail
    go_ret
    exact⟨rfl,hb⟩
 ·rw[decide_eq_false h3,Bool.false_and]at hm
  generalize lu l=M at*
  subst hm
  have hd:decide ((3:Int)<(l.length:Int))=true:=by simp;omega
  go_enter Tryz.func25,Tryz.ntmps25
  go_wp2_with fail
  go_ret
  exact⟨rfl,Below.refl _ _⟩
end Go.Proofs.YtgfpocdiojifoaaGreatDoor
