import Derived.Test.YtgfpocdiojifoaaGreatDoorZ30
import Derived.Deep.RegionHeld3
import Derived.Laws.BitsAllLaws
import Derived.Test.YtgfpocdiojifoaaGreatDoorRows
import Derived.WalkKit
import Derived.WalkSpells
import Derived.WalkLawsBesides
import Derived.Lib.Hide
import Derived.Deep.QuietTactic
import Derived.BigQuiet
import Derived.Deep.OwnRows
import Derived.Deep.WholeRow
import Derived.Deep.MidRow
import Derived.Laws.CopyOwn
namespace Go.Proofs.YtgfpocdiojifoaaGreatDoor
set_option maxRecDepth 100000
set_option maxHeartbeats 8000000
open Go.RowKit
def enc1(f:bK)(b:List UInt8):List UInt8:=if f.id=3 then Delta.enc b f.n else coded (pU f.id) (lg f.id false) f.n b
def D7(f:bK)(b:List UInt8):List UInt8:=if f.id=3 then Delta.dec b f.n else coded (pU f.id) (lg f.id true) f.n b
def dW(l:List bK)(b:List UInt8):List UInt8:=l.foldl (fun b f=>enc1 f b) b
def oz(l:List bK)(b:List UInt8):List UInt8:=l.foldr D7 b
theorem LG(f:bK)(b:List UInt8):(enc1 f b).length=b.length:=by
 unfold enc1;split
 ·exact Delta.qJ _ _
 ·exact qI _ _ _ _
theorem LH(f:bK)(b:List UInt8):(D7 f b).length=b.length:=by
 unfold D7;split
 ·exact Delta.wH _ _
 ·exact qI _ _ _ _
theorem dR(l:List bK)(b:List UInt8):(dW l b).length=b.length:=by
 induction l generalizing b with
 | nil=>rfl
 | cons f l ih=>exact(ih (enc1 f b)).trans (LG f b)
theorem yg(l:List bK)(b:List UInt8):(oz l b).length=b.length:=by
 induction l with
 | nil=>rfl
 | cons f l ih=>exact(LH f _).trans ih
theorem Uf(f:bK)(b:List UInt8)(h:eG f=true):D7 f (enc1 f b)=b:=by
 unfold D7 enc1
 by_cases h3:f.id=3
 ·rw[if_pos h3,if_pos h3]
  unfold eG at h
  rw[if_pos h3]at h
  simp at h
  exact Delta.acp _ _ h.1
 ·rw[if_neg h3,if_neg h3]
  exact aco f.id false f.n b
theorem LJ(l:List bK)(b:List UInt8)(h:l.all eG=true):oz l (dW l b)=b:=by
 induction l generalizing b with
 | nil=>rfl
 | cons f l ih=>
  rw[List.all_cons,Bool.and_eq_true]at h
  show D7 f (oz l (dW l (enc1 f b)))=b
  rw[ih _ h.2,Uf f b h.1]
def sTo(l:List bK)(b:List UInt8)(k:Nat):List UInt8:=dW (l.take k) b
def bTo(l:List bK)(b:List UInt8)(k:Nat):List UInt8:=oz (l.drop (l.length-k)) b
theorem OY(l:List bK)(b:List UInt8)(k:Nat):(sTo l b k).length=b.length:=dR _ _
theorem OZ(l:List bK)(b:List UInt8)(k:Nat):(bTo l b k).length=b.length:=yg _ _
theorem YI(l:List bK)(b:List UInt8):sTo l b 0=b:=by simp[sTo,dW]
theorem YJ(l:List bK)(b:List UInt8):bTo l b 0=b:=by simp[bTo,oz]
theorem acw(l:List bK)(b:List UInt8):sTo l b l.length=dW l b:=by simp[sTo]
theorem acy(l:List bK)(b:List UInt8):bTo l b l.length=oz l b:=by simp[bTo]
theorem YK(l:List bK)(b:List UInt8)(k:Nat)(h:k<l.length):sTo l b (k+1)=enc1 (l[k]'h) (sTo l b k):=by
 unfold sTo dW
 rw[List.take_succ_eq_append_getElem h,List.foldl_append];rfl
theorem YL(l:List bK)(b:List UInt8)(k:Nat)(h:k<l.length):bTo l b (k+1)=D7 (l[l.length-1-k]'(by omega)) (bTo l b k):=by
 unfold bTo oz
 rw[show l.length-(k+1)=l.length-1-k by omega,List.drop_eq_getElem_cons (by omega),show l.length-1-k+1=l.length-k by omega];rfl
theorem D9(f:bK)(h:eG f=true):(f.id=3∧1≤f.n∧f.n≤256)∨(f.id≠3∧isId f.id∧f.n%4=0):=by
 unfold eG at h
 by_cases h3:f.id=3
 ·rw[if_pos h3]at h;simp at h;exact .inl ⟨h3,h⟩
 ·rw[if_neg h3]at h;exact .inr ⟨h3,(YC _ _).1 h⟩
theorem nG{base base':Nat}{w:World}{v:Value}{l:List UInt8}(h:Own base w v l)(hb:base'≤base):Own base' w v l:=De.uO h hb
theorem YM(l:List bK)(i:Nat)(h:i<l.length)(ha:l.all eG=true):eG l[i]=true:=List.all_eq_true.1 ha _ (List.getElem_mem h)
theorem acz(n k:Nat)(h:k<n):(n:Int)-1-(k:Int)=((n-1-k:Nat):Int):=by omega
theorem YN(f:bK)(hok:f.ok)(hfit:eG f=true)(A:Option Addr)(l:List UInt8)(c:Nat)(w:World)(hB:Bytes w A l)(hm:l.length≤140737488355328):
  Calls Tryz.prog 39 #[f.agg,.slice A l.length c] w (Gives w (enc1 f l) 0):=by
 obtain⟨id,n⟩:=f
 have hb:=dN w
 obtain⟨h1,h2,h3⟩:=hok
 simp only at h1 h2 h3
 rcases D9 _ hfit with⟨e,g1,g2⟩ | ⟨e,g1,g2⟩
 ·simp only at e g1 g2
  subst e
  have hx:enc1 ⟨3,n⟩ l=Delta.enc l ((n:Int).toNat):=rfl
  rw[hx]
  have HC:=Lib.hid (fun(w':World) (h:Bytes w' A l)=>De.wG A l c (n:Int) w' h hm (by omega) (by omega))
  generalize Delta.enc l ((n:Int).toNat)=X at*
  clear hx hfit
  go_enter Tryz.func39,Tryz.ntmps39
  go_wp2_with fail
  refine(HC.out _ (hB.below (hb _))).mono ?_
  rintro e w1 ⟨v,rfl,ho,hb1⟩
  go_wp2_with fail
  go_ret2
  exact⟨v,rfl,nG ho (hb _).size,(hb _).trans (hb1.mono (hb _).size)⟩
 ·simp only at e g1 g2
  have hx:enc1 ⟨id,n⟩ l=coded (pU id) (lg id false) n l:=by unfold enc1;rw[if_neg e]
  rw[hx]
  have HC:=Lib.hid (fun(w':World) (h:Bytes w' A l)=>wG id g1 n h3 g2 A l c w' h hm)
  generalize coded (pU id) (lg id false) n l=X at*
  clear hx hfit g1
  go_enter Tryz.func39,Tryz.ntmps39
  go_wp2_with fail
  refine(HC.out _ (hB.below (hb _))).mono ?_
  rintro e w1 ⟨v,rfl,ho,hb1⟩
  go_wp2_with fail
  go_ret2
  exact⟨v,rfl,nG ho (hb _).size,(hb _).trans (hb1.mono (hb _).size)⟩
theorem YO(f:bK)(hok:f.ok)(hfit:eG f=true)(A:Option Addr)(l:List UInt8)(c:Nat)(w:World)(hB:Bytes w A l)(hm:l.length≤140737488355328):
  Calls Tryz.prog 116 #[f.agg,.slice A l.length c] w (Gives w (D7 f l) 0):=by
 obtain⟨id,n⟩:=f
 have hb:=dN w
 obtain⟨h1,h2,h3⟩:=hok
 simp only at h1 h2 h3
 rcases D9 _ hfit with⟨e,g1,g2⟩ | ⟨e,g1,g2⟩
 ·simp only at e g1 g2
  subst e
  have hx:D7 ⟨3,n⟩ l=Delta.dec l ((n:Int).toNat):=rfl
  rw[hx]
  have HC:=Lib.hid (fun(w':World) (h:Bytes w' A l)=>De.decode_any A l c (n:Int) w' h hm (by omega) (by omega))
  generalize Delta.dec l ((n:Int).toNat)=X at*
  clear hx hfit
  go_enter Tryz.func116,Tryz.ntmps116
  go_wp2_with fail
  refine(HC.out _ (hB.below (hb _))).mono ?_
  rintro e w1 ⟨v,rfl,ho,hb1⟩
  go_wp2_with fail
  go_ret2
  exact⟨v,rfl,nG ho (hb _).size,(hb _).trans (hb1.mono (hb _).size)⟩
 ·simp only at e g1 g2
  have hx:D7 ⟨id,n⟩ l=coded (pU id) (lg id true) n l:=by unfold D7;rw[if_neg e]
  rw[hx]
  have HC:=Lib.hid (fun(w':World) (h:Bytes w' A l)=>I4 id g1 n h3 g2 A l c w' h hm)
  generalize coded (pU id) (lg id true) n l=X at*
  clear hx hfit g1
  go_enter Tryz.func116,Tryz.ntmps116
  go_wp2_with fail
  refine(HC.out _ (hB.below (hb _))).mono ?_
  rintro e w1 ⟨v,rfl,ho,hb1⟩
  go_wp2_with fail
  go_ret2
  exact⟨v,rfl,nG ho (hb _).size,(hb _).trans (hb1.mono (hb _).size)⟩
theorem Ug(k:Nat)(l:List bK)(w:World)(_hl:l.length≤20)(_hk:k<l.length):
  Calls Tryz.prog 38 #[.int .i64 (k:Nat)] w fun e w'=>e= .returned (.int .i64 (k:Nat))∧w=w':=by
 go_enter Tryz.func38,Tryz.ntmps38
 go_wp2_with fail
 go_ret
 exact⟨rfl,rfl⟩
theorem YP(w:World)(A0:Option Addr)(l:List bK)(c0:Nat)(hF:gJ w A0 l)(hl:l.length≤20)(hall:l.all eG=true)(hmay:lu l=true)(A:Option Addr)(b:List UInt8)(c:Nat)(hB:Bytes w A b)(hm:b.length≤1000000):
  Calls Tryz.prog 37 #[.slice A0 l.length c0,.slice A b.length c,.func (.func 38) #[] #[],.func (.func 39) #[] #[]] w (Gives w (dW l b) 0):=by
 have HM:=Lib.hid (yc A0 l c0 w hF hl)
 rw[hmay]at HM
 have HE:=Lib.hid (acw l b)
 have HZ:=Lib.hid (YI l b)
 have HL:=Lib.hid (OY l b)
 have HN:=Lib.hid (YK l b)
 have HFA:=Lib.hid (fun i h=>YM l i h hall)
 generalize dW l b=X at*
 generalize hS:sTo l b=S at*
 have hZ:=HZ.out
 clear hS hmay hall
 go_enter Tryz.func37,Tryz.ntmps37
 go_wp2_with fail
 refine HM.out.mono ?_
 rintro e w1 ⟨rfl,hb⟩
 have hon:Own w.heap.size w1 (.slice none 0 0) []:=Own.nil _ _
 have hfit:([]:List UInt8).length+b.length≤140737488355328:=by simp;omega
 have hwb:=hb.size
 go_wp2_with (at_builtin;refine ay rfl (.const (.slice none 0 0)) (.tmp 17) rfl w.heap.size _ (.slice none 0 0) [] rfl hon A b c rfl (hB.below hb) hfit hwb ?_;intro v1 w2 ho1 hg1)
 have hb2:Below w.heap.size w w2:=below_grown hb hg1 hwb (by simp[Value.ownBlock])
 rw[List.nil_append]at ho1
 clear hon hfit hwb hb hg1
 go_loopw [10,21] (fun v i wr=> ∃k:Nat,k≤l.length∧i= .int .i64 k∧Own w.heap.size wr v (S k)∧Below w.heap.size w wr) (fun _ i _=>l.length-(intOf i).toNat)
 case atStart=>exact⟨0,by omega,rfl,by rw[hZ];exact ho1,hb2⟩
 case round=>
  clear ho1 hb2 hZ
  obtain⟨k,hk,rfl,hown,hb⟩:=hrel
  by_cases hlt:k<l.length
  ·obtain⟨g0,off,rfl,hbl,hat⟩:=(hF.below hb).addr (by omega)
   have hsl:k<l.length:=by omega
   have hk1:=hat (k) hsl
   have hfi:=HFA.out (k) hsl
   have hnx:=HN.out k hlt
   have hlen:=HL.out k
   obtain⟨A1,c1,rfl,hc1,hm1,hB1⟩:=hown.read
   have HAP:=Lib.hid (YN (l[k]'hsl) hk1.ok hfi A1 (S k) c1 wr hB1 (by omega))
   have HT:=Lib.hid (Ug k l wr hl hlt)
   have h0:=hk1.c0
   have h1:=hk1.c1
   generalize l[k]'hsl=f at*
   obtain⟨id,n⟩:=f
   rw[←hnx]at HAP
   have hlen2:=HL.out (k+1)
   clear hat hk1 hfi hown hnx
   simp only[bK.agg]at HAP
   simp only at h0 h1
   clear hsl hlen hlen2
   generalize hS1:S (k+1)=S1 at*
   have yM:=Lib.hid hS1
   clear hS1
   generalize hSK:S k=S0 at*
   have XH:=Lib.hid hSK
   clear hSK
   go_wp2_with fail
   refine HT.out.mono ?_
   rintro e w' ⟨rfl,rfl⟩
   go_wp2_with fail
   refine HAP.out.mono ?_
   rintro e w3 ⟨v3,rfl,ho3,hb3⟩
   go_wp2_with fail
   go_roundw
   case rel=>exact⟨k+1,by omega,by go_num,by rw[yM.out];exact nG ho3 hb.size,hb.trans (hb3.mono hb.size)⟩
   case measure=>simp[intOf];omega
  ·obtain rfl:k=l.length:=by omega
   rw[HE.out]at hown
   go_wp2_with fail
   go_ret2
   exact⟨_,rfl,hown,hb⟩
theorem Uh(g c0:Nat)(A0:Option Addr)(k:Nat)(l:List bK)(w:World)(hl:l.length≤20)(hk:k<l.length)(hcap:w.cell? ⟨g,0,none⟩=some (.slice A0 l.length c0))(_hgl:g<w.heap.size):
  Calls Tryz.prog 115 #[.int .i64 (k:Nat),.pointer (some ⟨g,0,none⟩)] w fun e w'=>e= .returned (.int .i64 (l.length-1-k:Nat))∧w=w':=by
 have hba:=acz l.length k hk
 go_enter Tryz.func115,Tryz.ntmps115
 go_wp2_with fail
 go_ret
 exact⟨rfl,rfl⟩
theorem YQ(w:World)(g c0:Nat)(A0:Option Addr)(l:List bK)(hF:gJ w A0 l)(hl:l.length≤20)(hall:l.all eG=true)(hmay:lu l=true)(A:Option Addr)(b:List UInt8)(c:Nat)(hB:Bytes w A b)(hm:b.length≤1000000)(hcap:w.cell? ⟨g,0,none⟩=some (.slice A0 l.length c0))(hgl:g<w.heap.size):
  Calls Tryz.prog 37 #[.slice A0 l.length c0,.slice A b.length c,.func (.func 115) #[] #[.pointer (some ⟨g,0,none⟩)],.func (.func 116) #[] #[]] w (Gives w (oz l b) 0):=by
 have HM:=Lib.hid (yc A0 l c0 w hF hl)
 rw[hmay]at HM
 have HE:=Lib.hid (acy l b)
 have HZ:=Lib.hid (YJ l b)
 have HL:=Lib.hid (OZ l b)
 have HN:=Lib.hid (YL l b)
 have HFA:=Lib.hid (fun i h=>YM l i h hall)
 generalize oz l b=X at*
 generalize hS:bTo l b=S at*
 have hZ:=HZ.out
 clear hS hmay hall
 go_enter Tryz.func37,Tryz.ntmps37
 go_wp2_with fail
 refine HM.out.mono ?_
 rintro e w1 ⟨rfl,hb⟩
 have hon:Own w.heap.size w1 (.slice none 0 0) []:=Own.nil _ _
 have hfit:([]:List UInt8).length+b.length≤140737488355328:=by simp;omega
 have hwb:=hb.size
 go_wp2_with (at_builtin;refine ay rfl (.const (.slice none 0 0)) (.tmp 17) rfl w.heap.size _ (.slice none 0 0) [] rfl hon A b c rfl (hB.below hb) hfit hwb ?_;intro v1 w2 ho1 hg1)
 have hb2:Below w.heap.size w w2:=below_grown hb hg1 hwb (by simp[Value.ownBlock])
 rw[List.nil_append]at ho1
 clear hon hfit hwb hb hg1
 go_loopw [10,21] (fun v i wr=> ∃k:Nat,k≤l.length∧i= .int .i64 k∧Own w.heap.size wr v (S k)∧Below w.heap.size w wr) (fun _ i _=>l.length-(intOf i).toNat)
 case atStart=>exact⟨0,by omega,rfl,by rw[hZ];exact ho1,hb2⟩
 case round=>
  clear ho1 hb2 hZ
  obtain⟨k,hk,rfl,hown,hb⟩:=hrel
  by_cases hlt:k<l.length
  ·have aiW:=(hb.cell (p:=⟨g,0,none⟩) hgl).trans hcap
   have hgr:g<wr.heap.size:=Nat.lt_of_lt_of_le hgl hb.size
   obtain⟨g0,off,rfl,hbl,hat⟩:=(hF.below hb).addr (by omega)
   have hsl:l.length-1-k<l.length:=by omega
   have hk1:=hat (l.length-1-k) hsl
   have hfi:=HFA.out (l.length-1-k) hsl
   have hnx:=HN.out k hlt
   have hlen:=HL.out k
   obtain⟨A1,c1,rfl,hc1,hm1,hB1⟩:=hown.read
   have HAP:=Lib.hid (YO (l[l.length-1-k]'hsl) hk1.ok hfi A1 (S k) c1 wr hB1 (by omega))
   have HT:=Lib.hid (Uh g c0 _ k l wr hl hlt aiW hgr)
   have h0:=hk1.c0
   have h1:=hk1.c1
   generalize l[l.length-1-k]'hsl=f at*
   obtain⟨id,n⟩:=f
   rw[←hnx]at HAP
   have hlen2:=HL.out (k+1)
   clear hat hk1 hfi hown hnx
   simp only[bK.agg]at HAP
   simp only at h0 h1
   have hsi:((l.length-1-k:Nat):Int)<(l.length:Int):=by omega
   generalize hsg:l.length-1-k=sg at*
   have HSG:=Lib.hid hsg
   clear hsg
   clear hsl hlen hlen2
   generalize hS1:S (k+1)=S1 at*
   have yM:=Lib.hid hS1
   clear hS1
   generalize hSK:S k=S0 at*
   have XH:=Lib.hid hSK
   clear hSK
   go_wp2_with fail
   refine HT.out.mono ?_
   rintro e w' ⟨rfl,rfl⟩
   go_wp2_with fail
   refine HAP.out.mono ?_
   rintro e w3 ⟨v3,rfl,ho3,hb3⟩
   go_wp2_with fail
   go_roundw
   case rel=>exact⟨k+1,by omega,by go_num,by rw[yM.out];exact nG ho3 hb.size,hb.trans (hb3.mono hb.size)⟩
   case measure=>simp[intOf];omega
  ·obtain rfl:k=l.length:=by omega
   rw[HE.out]at hown
   go_wp2_with fail
   go_ret2
   exact⟨_,rfl,hown,hb⟩
theorem O1(A0:Option Addr)(l:List bK)(c0:Nat)(w:World)(hF:gJ w A0 l)(hl:l.length≤20)(hall:l.all eG=true)(hmay:lu l=true)(A:Option Addr)(b:List UInt8)(c:Nat)(hB:Bytes w A b)(hm:b.length≤1000000):
  Calls Tryz.prog 13 #[.slice A0 l.length c0,.slice A b.length c] w (Gives w (dW l b) 0):=by
 have HT:=Lib.hid (YP w A0 l c0 hF hl hall hmay A b c hB hm)
 clear hall hmay
 generalize dW l b=X at*
 go_enter Tryz.func13,Tryz.ntmps13
 go_wp2_with fail
 refine HT.out.mono ?_
 rintro e w1 ⟨v,rfl,ho,hb⟩
 go_wp2_with fail
 go_ret2
 exact⟨v,rfl,ho,hb⟩
theorem O4(A0:Option Addr)(l:List bK)(c0:Nat)(w:World)(hF:gJ w A0 l)(hl:l.length≤20)(hall:l.all eG=true)(hmay:lu l=true)(A:Option Addr)(b:List UInt8)(c:Nat)(hB:Bytes w A b)(hm:b.length≤1000000):
  Calls Tryz.prog 67 #[.slice A0 l.length c0,.slice A b.length c] w (Gives w (oz l b) 0):=by
 have hb0:=dN w (.cells #[.slice A0 l.length c0] 23)
 have HT:=Lib.hid (YQ (w.alloc (.cells #[.slice A0 l.length c0] 23)) w.heap.size c0 A0 l (hF.below hb0) hl hall hmay A b c (hB.below hb0) hm (by rw[cell_of_row _ _ _ _ _ _ (heap_alloc_last _ _)];rfl) (by simp))
 clear hall hmay
 generalize oz l b=X at*
 go_enter Tryz.func67,Tryz.ntmps67
 go_wp2_with fail
 refine HT.out.mono ?_
 rintro e w1 ⟨v,rfl,ho,hb⟩
 go_wp2_with fail
 go_ret2
 exact⟨v,rfl,nG ho hb0.size,hb0.trans (hb.mono hb0.size)⟩
def dO(w:World)(L:List UInt8)(e:Ending)(w':World):Prop:= ∃A c,e= .returned (.slice A L.length c)∧L.length≤c∧c≤9223372036854775807∧Bytes w' A L∧Below w.heap.size w w'
def qK(v:Nat):Nat→List UInt8
 | 0=>[]
 | n+1=>UInt8.ofNat (v%256)::qK (v/256) n
theorem oC(n:Nat): ∀v,(qK v n).length=n:=by
 induction n with
 | zero=>intro v;rfl
 | succ n ih=>intro v;simp[qK,ih]
theorem YR(n:Nat): ∀(v i:Nat) (h:i<(qK v n).length),(qK v n)[i]=UInt8.ofNat (v/2^(8*i)%256):=by
 induction n with
 | zero=>intro v i h;simp[qK]at h
 | succ n ih=>
  intro v i h
  cases i with
  | zero=>simp[qK]
  | succ i=>
   simp only[qK,List.getElem_cons_succ]
   rw[ih (v/256) i (by simpa [qK]using h),Nat.div_div_eq_div_mul,show 8*(i+1)=8*i+8 by omega,Nat.pow_add,Nat.mul_comm]
def I8(w:World)(L:List UInt8)(e:Ending)(w':World):Prop:= ∃v,e= .returned v∧Own w.heap.size w' v L∧Below w.heap.size w w'
theorem I8.bytes{w:World}{L:List UInt8}{e:Ending}{w':World}(h:I8 w L e w'):dO w L e w':=by
 obtain⟨v,rfl,ho,hb⟩:=h
 obtain⟨A,c,rfl,h1,h2,h3⟩:=ho.read
 exact⟨A,c,rfl,h1,h2,h3,hb⟩
theorem YS{w:World}{g k n:Nat}{L:List UInt8}(h:w.heap[g]? =some (.cells ((L.take k).map B8++List.replicate (n-k) (Value.int .u8 0)).toArray 5 (0,0)))(hL:L.length=n)(hk:k<n):
  (w.setCell ⟨g,k,none⟩ (B8 (L[k]'(by omega)))).heap[g]? =some (.cells ((L.take (k+1)).map B8++List.replicate (n-(k+1)) (Value.int .u8 0)).toArray 5 (0,0)):=by
 rw[heap_set h k]
 congr 3
 have hl:((L.take k).map B8).length=k:=by rw[List.length_map,List.length_take];omega
 obtain⟨m,hm⟩: ∃m,n-k=m+1:=⟨n-k-1,by omega⟩
 rw[hm,List.replicate_succ,show n-(k+1)=m by omega,List.take_succ_eq_append_getElem (by omega),List.map_append,List.append_assoc]
 have:=abn ((L.take k).map B8) (List.replicate m (Value.int .u8 0)) (.int .u8 0) (B8 (L[k]'(by omega))) k hl
 rw[this];rfl
theorem tX(v n:Nat)(hv:v<18446744073709551616)(hn:n≤8)(w:World):
  Calls Tryz.prog 83 #[.int .u64 (v:Nat),.int .i64 (n:Nat)] w (I8 w (qK v n)):=by
 obtain⟨i,hi,hz0,hz1,hz2⟩:=info_parts wW
 have hmk:i.bytes*n≤281474976710656:=by rw[hz2];omega
 have hml:n≤maxLen:=by unfold maxLen;omega
 have HG:=Lib.hid (YR n v)
 have HL:=Lib.hid (oC n v)
 generalize hLL:qK v n=L at*
 clear hLL
 have hni:(n:Int)≤8:=by omega
 have hv0:(0:Int)≤(v:Int):=by omega
 have hv1:(v:Int)<18446744073709551616:=by omega
 go_enter Tryz.func83,Tryz.ntmps83
 go_wp2_with (refine wpList_make_full _ rfl _ _ 22 rfl w.heap.size 5 i (.int .u8 0) 1 Tryz.underlying22 hi hz0 hz1 _ _ _ _ n rfl rfl (by omega) (by omega) hmk hml (Nat.le_refl _) ?_;intro w1 hown1 hg1;rw[Xl]at hown1;have hh1:=xB hown1)
 have hb1:Below w.heap.size w w1:=below_grown (Below.refl _ _) hg1 (Nat.le_refl _) (by simp)
 go_loopw [11] (fun a wr=> ∃k:Nat,k≤n∧a= .int .i64 k∧wr.heap[w.heap.size]? =some (.cells ((L.take k).map B8++List.replicate (n-k) (Value.int .u8 0)).toArray 5 (0,0))∧Below w.heap.size w wr) (fun a _=>(n-intOf a).toNat)
 case atStart=>exact⟨0,by omega,rfl,by simpa using hh1,hb1⟩
 case round=>
  clear hh1 hown1 hg1 hb1
  obtain⟨k,hk,rfl,hh,hb⟩:=hrel
  by_cases hlt:k<n
  ·have hnx:=YS hh HL.out hlt
   have hget:=HG.out k (by rw[HL.out];exact hlt)
   rw[hget]at hnx
   obtain⟨b,hbv⟩: ∃b,UInt8.ofNat (v/2^(8*k)%256)=b:=⟨_,rfl⟩
   rw[hbv]at hnx
   have hx:(v:Int)/2^(8*k)%256=(b.toNat:Int):=by
    rw[←hbv,UInt8.toNat_ofNat']
    have e:((2:Int)^(8*k))=((2^(8*k):Nat):Int):=by rw[Int.natCast_pow];rfl
    rw[e,←Int.natCast_ediv]
    generalize v/2^(8*k)=q;omega
   have hc:wr.cell? ⟨w.heap.size,k,none⟩=some (.int .u8 0):=by
    rw[cell_of_row _ _ _ _ _ _ hh,List.getElem?_toArray,List.getElem?_append_right (by simp;omega)]
    simp only[List.length_map,List.length_take]
    rw[Nat.min_eq_left (by rw[HL.out];omega),Nat.sub_self,List.getElem?_replicate,if_pos (by omega)]
   have hf:=zQ hh k
   have hb2:=hb.setCell (p:=⟨w.heap.size,k,none⟩) (Nat.le_refl _) (B8 b)
   have qR:=Lib.hid hnx
   have hki:(k:Int)<(n:Int):=by omega
   have ht:(8*(k:Int)).toNat=8*k:=by omega
   have h64:8*(k:Int)≤64:=by omega
   have asM:0≤8*(k:Int):=by omega
   clear hnx hget hbv hh
   go_wp2_with fail
   go_roundw
   case rel=>exact⟨k+1,by omega,by go_num,qR.out,hb2⟩
   case measure=>simp[intOf];omega
  ·obtain rfl:k=n:=by omega
   have hfull:(L.take k).map B8++List.replicate (k-k) (Value.int .u8 0)=L.map B8:=by rw[List.take_of_length_le (by rw[HL.out];exact Nat.le_refl _)];simp
   rw[hfull]at hh
   go_wp2_with fail
   go_ret
   refine⟨_,rfl,⟨?_,.inr ⟨w.heap.size,k,(L.map B8).toArray,?_,Nat.le_refl _,hh,?_,hml,?_,?_⟩⟩,hb⟩
   ·simp
   ·rw[HL.out];rfl
   ·rw[HL.out];exact Nat.le_refl _
   ·simp[HL.out]
   ·rw[List.take_of_length_le (by simp)]

def Ea(a b:Int):Int:=a*b/18446744073709551616
def YT(a b:Int):Int:=a*b%18446744073709551616
def adQ(y:Int):Int:=(YT (Ea y y) y+Ea (YT y y) y)%18446744073709551616
def afA(y:Int):Int:=if adQ y<YT (Ea y y) y then Ea (Ea y y) y+1 else Ea (Ea y y) y
def cb(n:Int):Nat→Int
 | 0=>0
 | k+1=>if afA (cb n k+2^(35-k))=0∧adQ (cb n k+2^(35-k))/4294967296<n then cb n k+2^(35-k)else cb n k
theorem pow_pos(m:Nat):(0:Int)<2^m:=Int.pow_pos (by decide)
def au(m k:Nat):Int:=if k≤m then 2^(m-k)else 0





namespace dw
def s1{n:Nat}(p x:BitVec n):BitVec n:=(x >>> 1) ^^^ (if x.getLsbD 0 then p else 0#n)
def sn{n:Nat}(p:BitVec n):Nat→BitVec n→BitVec n
 | 0,x=>x
 | k+1,x=>sn p k (s1 p x)
theorem Eb{n:Nat}(p:BitVec n)(j k:Nat)(x:BitVec n):sn p (j+k) x=sn p k (sn p j x):=by
 induction j generalizing x with
 | zero=>simp[sn]
 | succ j ih=>rw[Nat.succ_add];simp only[sn];exact ih _
theorem LM{n:Nat}(p:BitVec n)(k:Nat)(x:BitVec n):sn p (k+1) x=s1 p (sn p k x):=by
 rw[Eb];rfl
theorem afB{n:Nat}(p x y:BitVec n):s1 p (x ^^^ y)=s1 p x ^^^ s1 p y:=by
 unfold s1
 apply BitVec.eq_of_getLsbD_eq
 intro i hi
 cases hx:x.getLsbD 0<;>cases hy:y.getLsbD 0<;>simp[hx,hy]<;>(first | done | (cases x.getLsbD (1+i)<;>cases y.getLsbD (1+i)<;>cases p.getLsbD i<;>rfl))
theorem O5{n:Nat}(p:BitVec n)(k:Nat)(x y:BitVec n):sn p k (x ^^^ y)=sn p k x ^^^ sn p k y:=by
 induction k generalizing x y with
 | zero=>rfl
 | succ k ih=>simp only[sn];rw[afB,ih]
theorem acA{n:Nat}(p:BitVec n)(k:Nat):sn p k 0#n=0#n:=by
 induction k with
 | zero=>rfl
 | succ k ih=>
  have h:s1 p 0#n=0#n:=by
   unfold s1;simp
  simp only[sn];rw[h];exact ih
theorem QY{n:Nat}(p:BitVec n)(k:Nat)(x:BitVec n)(h: ∀i,i<k→x.getLsbD i=false):sn p k x=x >>> k:=by
 induction k generalizing x with
 | zero=>simp[sn]
 | succ k ih=>
  have h0:=h 0 (by omega)
  have h1:s1 p x=x >>> 1:=by
   unfold s1;simp[h0]
  simp only[sn]
  rw[h1,ih (x >>> 1) (by intro i hi;simp only[BitVec.getLsbD_ushiftRight];exact h _ (by omega))]
  rw[Nat.add_comm k 1,BitVec.shiftRight_add]
def low{n:Nat}(x:BitVec n):BitVec n:=(x.setWidth 8).setWidth n
theorem QZ{n:Nat}(x:BitVec n)(i:Nat):(low x).getLsbD i=(decide (i<8)&&x.getLsbD i):=by
 unfold low
 rw[BitVec.getLsbD_setWidth,BitVec.getLsbD_setWidth]
 by_cases h:i<n
 ·simp[h]
 ·simp[h,BitVec.getLsbD_of_ge _ _ (Nat.le_of_not_lt h)]
theorem Bg{n:Nat}(p x:BitVec n):sn p 8 x=(x >>> 8) ^^^ sn p 8 (low x):=by
 have e:x=(x ^^^ low x) ^^^ low x:=by
  rw[BitVec.xor_assoc,BitVec.xor_self,BitVec.xor_zero]
 have h:sn p 8 (x ^^^ low x)=(x ^^^ low x) >>> 8:=QY p 8 _ (by
  intro i hi
  rw[BitVec.getLsbD_xor,QZ]
  simp[hi])
 have h2:(x ^^^ low x) >>> 8=x >>> 8:=by
  apply BitVec.eq_of_getLsbD_eq
  intro i hi
  simp only[BitVec.getLsbD_ushiftRight,BitVec.getLsbD_xor,QZ]
  simp[show ¬8+i<8 by omega]
 conv=>lhs;rw[e]
 rw[O5,h,h2]
def ext(n:Nat)(b:UInt8):BitVec n:=b.toBitVec.setWidth n
def eat{n:Nat}(p:BitVec n)(x:BitVec n)(b:UInt8):BitVec n:=sn p 8 (x ^^^ ext n b)
def eats{n:Nat}(p:BitVec n)(x:BitVec n)(l:List UInt8):BitVec n:=l.foldl (eat p) x
theorem Am{n:Nat}(p x:BitVec n)(a b:List UInt8):eats p x (a++b)=eats p (eats p x a) b:=by
 unfold eats;rw[List.foldl_append]
theorem I9(n:Nat)(b:UInt8)(i:Nat)(hi:8≤i):(ext n b).getLsbD i=false:=by
 unfold ext
 rw[BitVec.getLsbD_setWidth,BitVec.getLsbD_of_ge _ _ hi];simp
end dw
namespace C3
def oP:BitVec 32:=3988292384#32
theorem LQ(a b:BitVec 32):bits .xor .u32 (a.toNat:Int) (b.toNat:Int)=((a ^^^ b).toNat:Int):=by
 rw[u32_xor_nat _ _ a.isLt b.isLt,BitVec.toNat_xor]
theorem YU(a:BitVec 32):bits .and .u32 (a.toNat:Int) 1=((a.toNat%2:Nat):Int):=by
 rw[show(1:Int)=((1:Nat):Int)from rfl,u32_and_nat _ _ a.isLt (by omega),nat_mask1]
theorem YV(a:BitVec 32):a.getLsbD 0=decide (a.toNat%2=1):=by
 rw[BitVec.getLsbD,Nat.testBit_zero]
theorem YW(a:BitVec 32):(a.toNat:Int)/(2:Int)=((a >>> 1).toNat:Int):=by
 rw[BitVec.toNat_ushiftRight,Nat.shiftRight_eq_div_pow];simp
theorem O6(x:BitVec 32)(h:(bits .and .u32 (x.toNat:Int) 1==1)=true):bits .xor .u32 ((x.toNat:Int)/2) 3988292384=((dw.s1 oP x).toNat:Int):=by
 have h1:x.getLsbD 0=true:=by
  rw[YU]at h;rw[YV];simp at h ⊢;omega
 rw[YW,show(3988292384:Int)=((oP.toNat:Nat):Int)from rfl,LQ]
 unfold dw.s1;rw[h1];simp
theorem YX(x:BitVec 32)(h:(bits .and .u32 (x.toNat:Int) 1==1)=false):(x.toNat:Int)/2=((dw.s1 oP x).toNat:Int):=by
 have h1:x.getLsbD 0=false:=by
  rw[YU]at h;rw[YV];simp at h ⊢;omega
 rw[YW]
 unfold dw.s1;rw[h1];simp
theorem FT(r:BitVec 32)(w:World):
  Calls Tryz.prog 207 #[.int .u32 r.toNat] w fun e w'=>e= .returned (.int .u32 (dw.sn oP 8 r).toNat)∧w=w':=by
 go_enter Tryz.func207,Tryz.ntmps207
 go_wp2
 go_loop [0,4] (fun a i=> ∃(k:Nat),k≤8∧i= .int .i64 k∧a= .int .u32 (dw.sn oP k r).toNat) (fun _ i=>8-(intOf i).toNat)
 case atStart=>exact⟨0,by omega,rfl,rfl⟩
 case round=>
  obtain⟨k,hk,rfl,rfl⟩:=hrel
  by_cases h:k<8
  ·have hs:=Lib.hid (dw.LM oP k r)
   generalize dw.sn oP k r=x at*
   go_wp2
   ·go_round
    case rel=>exact⟨k+1,by omega,by go_num,by rw[hs.out,←O6 x (by assumption)]⟩
    case measure=>simp[intOf];omega
   ·go_round
    case rel=>exact⟨k+1,by omega,by go_num,by rw[hs.out,←YX x (by assumption)]⟩
    case measure=>simp[intOf];omega
  ·obtain rfl:k=8:=by omega
   go_wp2
   go_ret
   exact⟨rfl,rfl⟩
end C3
namespace C3
def iV:Array Value:=Array.replicate 1024 (.int .u32 0)
theorem YZ:(Tryz.prog.info? 244).map (fun i=>(i.zero,i.size))=some (some (.agg iV),1024):=by kernel_rfl
theorem Cj:(Tryz.prog.info? 242).map (·.size)=some 256:=by kernel_rfl
def T(j:Nat):BitVec 32:=dw.sn oP (8*(j/256+1)) (BitVec.ofNat 32 (j%256))
def tabs:Array Value:=((List.range 1024).map fun i=>Value.int .u32 (T i).toNat).toArray
theorem Bh:(Tryz.prog.info? 244).map (·.size)=some 1024:=by kernel_rfl
def upTo(k j:Nat):Value:=if j<k then .int .u32 (T j).toNat else .int .u32 0
theorem FU(n:Nat)(hn:n<4294967296)(w:World):
  Calls Tryz.prog 207 #[.int .u32 n] w fun e w'=>e= .returned (.int .u32 (dw.sn oP 8 (BitVec.ofNat 32 n)).toNat)∧w=w':=by
 have h:=FT (BitVec.ofNat 32 n) w
 have e:(BitVec.ofNat 32 n).toNat=n:=by simp;omega
 rwa [e]at h
theorem yh(k:Nat): ∀i,(if i=k then Value.int .u32 (T k).toNat else upTo k i)=upTo (k+1) i:=by
 intro i;unfold upTo
 by_cases h:i=k
 ·subst h;simp
 ·by_cases h2:i<k
  ·simp[h,h2,show i<k+1 by omega]
  ·simp[h,h2,show ¬i<k+1 by omega]
theorem Y0(k:Nat)(h:k<256):T k=dw.sn oP 8 (BitVec.ofNat 32 k):=by
 unfold T;rw[Nat.div_eq_of_lt h,Nat.mod_eq_of_lt h]
def seg(k:Nat):List Value:=(List.range 256).map fun i=>upTo (256*k) (256*(k-1)+i)
theorem Ui{w:World}{g k:Nat}(r:w.rowIs g 244 1024 (upTo (256*k)))(h1:1≤k)(h:k<4):w.rangeAt g ((k-1)*256) (seg k):=by
 intro j v hv
 unfold seg at hv
 rw[List.getElem?_map]at hv
 by_cases hj:j<256
 ·rw[List.getElem?_range hj]at hv
  simp at hv;subst hv
  rw[Nat.mul_comm (k-1) 256];exact r.cell (by omega)
 ·rw[List.getElem?_eq_none (by simp;omega)]at hv;simp at hv
theorem tY{k j:Nat}(h:j<k):upTo k j= .int .u32 (T j).toNat:=by unfold upTo;rw[if_pos h]
theorem Uj(k j:Nat)(hj:j<256)(hk:1≤k)(w:World):(Instr.index 242 (.agg (seg k).toArray) (.int .i64 j)).run Tryz.prog w= .ok (.int .u32 (T (256*(k-1)+j)).toNat) w:=by
 have hs:(Tryz.prog.info? 24).map (·.size)=some 1:=by kernel_rfl
 have hg:(seg k)[j]? =some (.int .u32 (T (256*(k-1)+j)).toNat):=by
  unfold seg;rw[List.getElem?_map,List.getElem?_range hj];simp[tY (show 256*(k-1)+j<256*k by omega)]
 cases hq:Tryz.prog.info? 24 with
 | none=>rw[hq]at hs;simp at hs
 | some i=>
  have hsz:i.size=1:=by rw[hq]at hs;simpa using hs
  simp[Instr.index,asIntOf,run_underlying Tryz.underlying242,Sem.run_bind,sizeOf,typeInfo,hq,hsz,part,hg,hj]
theorem byte_of(v:BitVec 32): ∃m:Nat,m<256∧m=v.toNat%256∧IntKind.u8.wrap (v.toNat:Int)=(m:Int):=
 ⟨v.toNat%256,Nat.mod_lt _ (by omega),rfl,by rw[IntKind.wrap_u8'];omega⟩
theorem afC(k j:Nat)(hk:1≤k):T (256*k+j)=(T (256*(k-1)+j) >>> 8) ^^^ T ((T (256*(k-1)+j)).toNat%256):=by
 have e1:T (256*k+j)=dw.sn oP 8 (T (256*(k-1)+j)):=by
  unfold T
  rw[←dw.Eb,show(256*(k-1)+j)%256=(256*k+j)%256 by omega]
  congr 1;omega
 generalize T (256*(k-1)+j)=v at*
 rw[e1,dw.Bg,Y0 _ (Nat.mod_lt _ (by omega))]
 congr 2
 unfold dw.low
 apply BitVec.eq_of_toNat_eq
 simp only[BitVec.toNat_setWidth,BitVec.toNat_ofNat]
theorem yj(w:World):(w.alloc (.cells iV 244)).rowIs w.heap.size 244 1024 (upTo 0):=by
 have h:=World.rowIs_alloc w iV 244 (upTo 0) (fun i hi=>by
  unfold iV at hi ⊢
  rw[Array.getElem?_replicate,if_pos (by simpa using hi)];simp[upTo])
 have e:iV.size=1024:=by simp[iV]
 rwa [e]at h
theorem tabs_eq{cs:Array Value}(hn:cs.size=1024)(hv: ∀i,i<1024→cs[i]? =some (upTo (256*4) i)):cs=tabs:=by
 apply Array.ext_getElem?
 intro i
 by_cases hi:i<1024
 ·rw[hv i hi,tY (by omega)]
  unfold tabs
  rw[List.getElem?_toArray,List.getElem?_map,List.getElem?_range hi];rfl
 ·rw[Array.getElem?_eq_none (by omega),Array.getElem?_eq_none (by simp[tabs];omega)]
theorem Y4{cs:Array Value}(hn:cs.size=1024)(hv: ∀i,i<1024→cs[i]? =some (upTo (256*4) i)):cs.all (·.oneCell')=true:=by
 rw[tabs_eq hn hv]
 unfold tabs
 rw[List.all_toArray,List.all_map,List.all_eq_true]
 intro x _;rfl
theorem mk_any(w:World):
  Calls Tryz.prog 165 #[] w fun e w'=>e= .returned (.agg tabs)∧Below w.heap.size w w':=by
 have hz:=(zero_of_info YZ).1
 go_enter Tryz.func165,Tryz.ntmps165
 go_wp2_with fail
 have h0:((w.alloc (.cells iV 244)).alloc (.cells iV 244)).rowIs w.heap.size 244 1024 (upTo 0):=(yj w).alloc _
 have h1:((w.alloc (.cells iV 244)).alloc (.cells iV 244)).rowIs (w.heap.size+1) 244 1024 (upTo 0):=by have:=yj (w.alloc (.cells iV 244));simpa using this
 have hb:Below w.heap.size w ((w.alloc (.cells iV 244)).alloc (.cells iV 244)):=((Below.refl _ _).alloc (Nat.le_refl _) _).alloc (by simp) _
 generalize(w.alloc (.cells iV 244)).alloc (.cells iV 244)=w1 at*
 generalize hg:w.heap.size+1=g at*
 have hg1:w.heap.size<g:=by omega
 have HG:=Lib.hid hg;clear hg
 go_loopw [6] (fun i wr=> ∃k:Nat,k≤256∧i= .int .i64 k∧wr.rowIs w.heap.size 244 1024 (upTo 0)∧wr.rowIs g 244 1024 (upTo k)∧Below w.heap.size w wr) (fun i _=>256-(intOf i).toNat)
 case atStart=>exact⟨0,by omega,rfl,h0,h1,hb⟩
 case round=>
  obtain⟨k,hk,rfl,r0,r1,rb⟩:=hrel
  by_cases h:k<256
  ·have hc:=r1.cell (i:=k) (by omega)
   have hf:=r1.frozen k
   go_wp2_with fail
   refine(FU k (by omega) _).mono ?_
   rintro e w' ⟨rfl,rfl⟩
   go_wp2_with fail
   go_roundw
   case rel=>
    refine⟨k+1,by omega,by go_num,r0.setOther (by simp;omega) _,?_,rb.setCell (by simp;omega) _⟩
    refine(r1.set k _).congr fun i _=> ?_
    rw[←Y0 k h];exact yh k i
   case measure=>simp[intOf];omega
  ·obtain rfl:k=256:=by omega
   go_wp2_with fail
   clear h0 h1 hb hk h
   go_loopw [3] (fun i wr=> ∃k:Nat,1≤k∧k≤4∧i= .int .i64 k∧wr.rowIs w.heap.size 244 1024 (upTo 0)∧wr.rowIs g 244 1024 (upTo (256*k))∧Below w.heap.size w wr) (fun i _=>4-(intOf i).toNat)
   case atStart=>exact⟨1,by omega,by omega,rfl,r0,r1,rb⟩
   case round=>
    obtain⟨k,hk1,hk,rfl,r0,r1,rb⟩:=hrel
    by_cases h:k<4
    ·have hseg:=Ui r1 hk1 h
     go_wp2_with (refine wpList_load_mid rfl 242 _ rfl g ((k-1)*256) rfl (seg k) _ hseg Tryz.underlying242 rfl ?c0 ?_)
     case c0=>rw[Cj];simp[seg]
     clear hseg
     obtain⟨wo,rfl⟩: ∃wo:World,wo=wr:=⟨_,rfl⟩
     go_loopw [24] (fun i wr=> ∃j:Nat,j≤256∧i= .int .i64 j∧wr.rowIs w.heap.size 244 1024 (upTo 0)∧wr.rowIs g 244 1024 (upTo (256*k+j))∧Below w.heap.size w wr) (fun i _=>256-(intOf i).toNat)
     case atStart=>exact⟨0,by omega,rfl,r0,r1,rb⟩
     case round=>
      clear r0 r1 rb
      obtain⟨j,hj,rfl,r0,r1,rb⟩:=hrel
      by_cases hlt:j<256
      ·have hix:=Uj k j hlt hk1
       have hm:=byte_of (T (256*(k-1)+j))
       have hT:=Lib.hid (afC k j hk1)
       generalize T (256*(k-1)+j)=v at*
       obtain⟨m,Gi,hmv,hmw⟩:=hm
       have hc1:=r1.cell (i:=m) (by omega)
       have hc2:=r1.cell (i:=k*256+j) (by omega)
       have hf:=r1.frozen (k*256+j)
       rw[tY (by omega)]at hc1
       have Hmv:=Lib.hid hmv;clear hmv
       go_wp2_with fail
       go_region
       all_goals
        go_wp2_with fail
        go_roundw
        case rel=>
         refine⟨j+1,by omega,by go_num,r0.drew.setOther (by simp;omega) _,?_,rb.drew.setCell (by simp;omega) _⟩
         refine(r1.drew.set _ _).congr fun i _=> ?_
         have e:(v.toNat:Int)/(256:Int)=((v >>> 8).toNat:Int):=by
          rw[BitVec.toNat_ushiftRight,Nat.shiftRight_eq_div_pow];simp
         rw[←Nat.add_assoc,←yh,hT.out,←Hmv.out,e,LQ,Nat.mul_comm k 256]
        case measure=>simp[intOf];omega
      ·obtain rfl:j=256:=by omega
       go_wp2_with fail
       go_roundw
       case rel=>
        (repeat apply Exists.intro)
        exact⟨⟨k+1,by omega,by omega,by go_num,r0,by rw[Nat.mul_add];exact r1,rb⟩,rfl⟩
       case measure=>simp[intOf];omega
    ·obtain rfl:k=4:=by omega
     obtain⟨cs,hcs,hn,hv⟩:=r1
     obtain⟨os,hos,hno,hvo⟩:=r0
     go_wp2_with (first | (refine wpList_load_row rfl 244 _ rfl g rfl 244 cs _ _ hcs Tryz.underlying244 rfl ?c1 ?_) | (refine wpList_store_row rfl 244 _ _ rfl w.heap.size cs rfl rfl 244 os hos ?c2 ?c3 ?c4 ?_))
     case c1=>rw[Bh,hn]
     case c2=>rw[Bh,hn]
     case c3=>rw[hno,hn]
     case c4=>exact Y4 hn hv
     refine bodyPost_ret (results_cell_row rfl _ _ w.heap.size 244 cs _ _ rfl (setRow_heap _ _ _ _ _ _ hos) Tryz.underlying244 rfl (by rw[Bh,hn])) rfl ?_
     refine⟨?_,?_⟩
     ·rw[tabs_eq hn hv]
     ·have hlt:w.heap.size≤w.heap.size:=Nat.le_refl _
      exact below_setRow rb hlt _
end C3
end Go.Proofs.YtgfpocdiojifoaaGreatDoor
