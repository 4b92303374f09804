import Derived.Test.YtgfpocdiojifoaaGreatDoorZ23
import Derived.Deep.RegionHeld3
import Derived.RowKit3
import Derived.Deep.DeepCutAuto
namespace Go.Proofs.YtgfpocdiojifoaaGreatDoor
set_option maxRecDepth 100000
set_option maxHeartbeats 8000000
open Go.RowKit Go.Proofs.Tryz
variable{a:Act}{K:Act→World→Prop}{ops:Array Oper}{Q:Exit→Act→World→Prop}{r:List UInt8}{base bo c fO g n:Nat}{o:Oper}{A:Option Addr}{x:UInt8}{u v:Value}{w w' w1 wx:World}
def eE(f:bA):Option (List UInt8):=
 if f.id=33 then(if aJ (a7 f.n)=f.n then some [UInt8.ofNat (a7 f.n)]else none)
 else if cW f=true then(if f.id=3 then some [UInt8.ofNat (f.n-1)]else if f.n=0 then some []else some (bytesOf true f.n))else none
def lr(w:World)(l:List UInt8)(tag:Value)(e:Ending)(w':World):Prop:= ∃v,e= .returned (.tuple #[v,tag])∧Own w.heap.size w' v l∧Below w.heap.size w w'
def KD(w:World)(tag:Value)(e:Ending)(w':World):Prop:=e= .returned (.tuple #[.slice none 0 0,tag])∧Below w.heap.size w w'
def aab(w:World)(yes no:Value)(r:Option (List UInt8)):Ending→World→Prop:=
 match r with
 | some l=>lr w l yes
 | none=>KD w no
theorem dD(w:World)(a b:Value)(T:TypeId):(w.alloc (.cells #[a,b] T)).drew.cell? ⟨w.heap.size,0,none⟩=some a∧(w.alloc (.cells #[a,b] T)).drew.cell? ⟨w.heap.size,1,none⟩=some b:=by
 constructor;·show(w.alloc (.cells #[a,b] T)).cell? ⟨w.heap.size,0,none⟩=some a;rw[cell_of_row _ _ _ _ _ _ (heap_alloc_last _ _)];rfl
 ·show(w.alloc (.cells #[a,b] T)).cell? ⟨w.heap.size,1,none⟩=some b;rw[cell_of_row _ _ _ _ _ _ (heap_alloc_last _ _)];rfl
theorem Wl(w:World)(k base:Nat)(hk:k<256)(hb:base≤w.heap.size):Own base (w.alloc (.cells #[.int .u8 (k:Nat)] 5)) (.slice (some ⟨w.heap.size,0,none⟩) 1 1) [UInt8.ofNat k]:=by have h:=Own.lit w [UInt8.ofNat k] hb ae;have e:((UInt8.ofNat k).toNat:Nat)=k:=av;simp only[List.map,B8,e]at h;exact h
theorem Sw(n:Nat):cW ⟨33,n⟩=false:=by simp[cW,Cn]
theorem M8(n:Nat)(hn:n<4294967296)(h:aJ (a7 n)=n)(w:World):
  Calls prog 46 #[.agg #[.int .i64 33,.int .u32 (n:Nat)]] w (lr w [UInt8.ofNat (a7 n)] (.int .i64 0)):=by
 have hb:=bv w;have Om:=hdd (sC n hn);have hle:=lW n;have LX:=hdd (iT (a7 n) hle);rw[h]at LX;generalize a7 n=C at*;clear h;go_enter func46,ntmps46;go_wp2_with fail;refine wp_region_held_drew (S:=fun w'=>w'.cell? ⟨w.heap.size,0,none⟩=some (.int .i64 33)∧w'.cell? ⟨w.heap.size,1,none⟩=some (.int .u32 (n:Nat))) ak (dD w _ _ _) (fun hS=> ?_);refine af 0 hS (h:=aZ 1 hS (h:=af 2 hS (h:=af 3 hS (h:=af 4 hS (h:=aZ 5 hS (h:=af 8 hS (h:=aZ 9 hS (h:= ?_))))))));refine aG 6 (fun K hK=> ?_);go_simp;refine(Om.out _).mono ?_;rintro e w' ⟨rfl,rfl⟩;go_wp2_with fail;refine hK.out _ _ hS (fun _=> ?_);clear hK K;refine aG 7 (fun K hK=> ?_);go_simp;refine(LX.out _).mono ?_;rintro e w' ⟨rfl,rfl⟩;go_wp2_with fail;refine hK.out _ _ hS (fun _=> ?_);clear hK K;refine af 10 hS (h:=af 11 hS (h:=af 12 hS (h:= ?_)));refine wpAnyH_done ak ?_ _;go_wp2_with fail;refine(Om.out _).mono ?_;rintro e w' ⟨rfl,rfl⟩;go_wp2_with fail;go_ret2;have g:=hb (.cells #[.int .i64 33,.int .u32 (n:Nat)] 84);have e:(w.alloc (.cells #[.int .i64 33,.int .u32 (n:Nat)] 84)).heap.size=w.heap.size+1:=ae;have h:=Wl (w.alloc (.cells #[.int .i64 33,.int .u32 (n:Nat)] 84)) C w.heap.size aa g.size;rw[e]at h;exact⟨_,rfl,h.drew,(g.alloc g.size _).drew⟩
theorem Fo(n:Nat)(hn:n<4294967296)(h:aJ (a7 n)≠n)(w:World):
  Calls prog 46 #[.agg #[.int .i64 33,.int .u32 (n:Nat)]] w (KD w (.int .i64 1)):=by
 have hb:=bv w;have Om:=hdd (sC n hn);have hle:=lW n;have LX:=hdd (iT (a7 n) hle);have HF:=hdd (lR ⟨33,n⟩ ⟨ae,ae,hn⟩);rw[Sw]at HF;simp only[bA.agg]at HF;generalize a7 n=C at*;have TM:=kj C;have dr:((aJ C:Int)==(n:Int))=false:=av;generalize aJ C=D at*;clear h;go_enter func46,ntmps46;go_wp2_with fail;refine wp_region_held_drew (S:=fun w'=>w'.cell? ⟨w.heap.size,0,none⟩=some (.int .i64 33)∧w'.cell? ⟨w.heap.size,1,none⟩=some (.int .u32 (n:Nat))) ak (dD w _ _ _) (fun hS=> ?_);refine af 0 hS (h:=aZ 1 hS (h:=af 2 hS (h:=af 3 hS (h:=af 4 hS (h:=aZ 5 hS (h:=af 8 hS (h:=aZ 9 hS (h:= ?_))))))));refine aG 6 (fun K hK=> ?_);go_simp;refine(Om.out _).mono ?_;rintro e w' ⟨rfl,rfl⟩;go_wp2_with fail;refine hK.out _ _ hS (fun _=> ?_);clear hK K;refine aG 7 (fun K hK=> ?_);go_simp;refine(LX.out _).mono ?_;rintro e w' ⟨rfl,rfl⟩;go_wp2_with fail;refine hK.out _ _ hS (fun _=> ?_);clear hK K;refine af 10 hS (h:=af 11 hS (h:=af 12 hS (h:= ?_)));refine wpAnyH_done ak ?_ _;go_wp2_with fail;refine(HF.out _).mono ?_;rintro e w' ⟨rfl,aE⟩;go_wp2_with fail;go_ret2;exact⟨rfl,(hb _).drew.trans (aE.mono ae)⟩
theorem M9(id:Int)(n:Nat)(aR:(⟨id,n⟩:bA).ok)(ie:id≠33)(hf:cW ⟨id,n⟩=false)(w:World):
  Calls prog 46 #[.agg #[.int .i64 id,.int .u32 (n:Nat)]] w (KD w (.int .i64 1)):=by
 have hb:=bv w;have HF:=hdd (lR ⟨id,n⟩ aR);rw[hf]at HF;simp only[bA.agg]at HF;obtain⟨o1,o2,o3⟩:=aR;simp only at o1 o2 o3;have hd:(id==33)=false:=ic;clear ie hf;go_enter func46,ntmps46;go_wp2_with fail;refine wp_region_held_drew (S:=fun w'=>w'.cell? ⟨w.heap.size,0,none⟩=some (.int .i64 id)∧w'.cell? ⟨w.heap.size,1,none⟩=some (.int .u32 (n:Nat))) ak (dD w _ _ _) (fun hS=> ?_);refine af 0 hS (h:=aZ 1 hS (h:=af 2 hS (h:=af 3 hS (h:=cJ 4 hS (h:=cJ 5 hS (h:=cJ 6 hS (h:=cJ 7 hS (h:=cJ 8 hS (h:=cJ 9 hS (h:=cJ 10 hS (h:=af 11 hS (h:= ?_))))))))))));refine af 12 hS (h:= ?_);refine wpAnyH_done ak ?_ _;go_wp2_with fail;refine(HF.out _).mono ?_;rintro e w' ⟨rfl,aE⟩;go_wp2_with fail;go_ret2;exact⟨rfl,(hb _).drew.trans (aE.mono ae)⟩
theorem Sx(n:Nat)(h1:1≤n)(h2:n≤256)(w:World):
  Calls prog 46 #[.agg #[.int .i64 3,.int .u32 (n:Nat)]] w (lr w [UInt8.ofNat (n-1)] (.int .i64 0)):=by
 have hb:=bv w;have HF:=hdd (lR ⟨3,n⟩ ⟨ae,ae,av⟩);have bt:cW ⟨3,n⟩=true:=by unfold cW;simp;omega
 rw[bt]at HF;simp only[bA.agg]at HF;clear bt;go_enter func46,ntmps46;go_wp2_with fail;refine wp_region_held_drew (S:=fun w'=>w'.cell? ⟨w.heap.size,0,none⟩=some (.int .i64 3)∧w'.cell? ⟨w.heap.size,1,none⟩=some (.int .u32 (n:Nat))) ak (dD w _ _ _) (fun hS=> ?_);refine af 0 hS (h:=aZ 1 hS (h:=af 2 hS (h:=af 3 hS (h:=cJ 4 hS (h:=cJ 5 hS (h:=cJ 6 hS (h:=cJ 7 hS (h:=cJ 8 hS (h:=cJ 9 hS (h:=cJ 10 hS (h:=af 11 hS (h:= ?_))))))))))));refine af 12 hS (h:= ?_);refine wpAnyH_done ak ?_ _;go_wp2_with fail;refine(HF.out _).mono ?_;rintro e w1 ⟨rfl,aE⟩;have k0:=(aE.cell (p:=⟨w.heap.size,0,none⟩) ae).trans hS.1;have k1:=(aE.cell (p:=⟨w.heap.size,1,none⟩) ae).trans hS.2;have g2:=(hb (.cells #[.int .i64 3,.int .u32 (n:Nat)] 84)).drew.trans (aE.mono ae);clear aE;have e:(n:Int)-1=((n-1:Nat):Int):=aa;have alX:n-1<256:=aa;generalize n-1=m at*;go_wp2_with fail;go_ret2;exact⟨_,rfl,Wl _ _ _ aa g2.size,g2.alloc g2.size _⟩
theorem Sz(id:Int)(aR:(⟨id,0⟩:bA).ok)(ie:id≠33)(h3:id≠3)(hf:cW ⟨id,0⟩=true)(w:World):
  Calls prog 46 #[.agg #[.int .i64 id,.int .u32 0]] w (lr w [] (.int .i64 0)):=by
 have hb:=bv w;have HF:=hdd (lR ⟨id,0⟩ aR);rw[hf]at HF;simp only[bA.agg]at HF;obtain⟨o1,o2,o3⟩:=aR;simp only at o1 o2 o3;have hd:(id==33)=false:=ic;have Ss:(id==3)=false:=jK;clear ie hf h3;go_enter func46,ntmps46;go_wp2_with fail;refine wp_region_held_drew (S:=fun w'=>w'.cell? ⟨w.heap.size,0,none⟩=some (.int .i64 id)∧w'.cell? ⟨w.heap.size,1,none⟩=some (.int .u32 0)) ak (dD w _ _ _) (fun hS=> ?_);refine af 0 hS (h:=aZ 1 hS (h:=af 2 hS (h:=af 3 hS (h:=cJ 4 hS (h:=cJ 5 hS (h:=cJ 6 hS (h:=cJ 7 hS (h:=cJ 8 hS (h:=cJ 9 hS (h:=cJ 10 hS (h:=af 11 hS (h:= ?_))))))))))));refine af 12 hS (h:= ?_);refine wpAnyH_done ak ?_ _;go_wp2_with fail;refine(HF.out _).mono ?_;rintro e w1 ⟨rfl,aE⟩;have k0:=(aE.cell (p:=⟨w.heap.size,0,none⟩) ae).trans hS.1;have k1:=(aE.cell (p:=⟨w.heap.size,1,none⟩) ae).trans hS.2;have g2:=(hb (.cells #[.int .i64 id,.int .u32 0] 84)).drew.trans (aE.mono ae);clear aE;go_wp2_with fail;go_ret2;exact⟨_,rfl,Own.nil _ _,g2⟩
theorem SA(id:Int)(n:Nat)(aR:(⟨id,n⟩:bA).ok)(ie:id≠33)(h3:id≠3)(hf:cW ⟨id,n⟩=true)(h0:n≠0)(w:World):
  Calls prog 46 #[.agg #[.int .i64 id,.int .u32 (n:Nat)]] w (lr w (bytesOf true n) (.int .i64 0)):=by
 have hb:=bv w;have HF:=hdd (lR ⟨id,n⟩ aR);rw[hf]at HF;simp only[bA.agg]at HF;obtain⟨o1,o2,o3⟩:=aR;simp only at o1 o2 o3;have hd:(id==33)=false:=ic;have Ss:(id==3)=false:=jK;have FY:((n:Int)==0)=false:=by simp[h0]
 clear ie hf h3;have e0:(n:Int)%256=((UInt8.ofNat (n%256)).toNat:Int):=by rw[jr n];omega
 have e1:(n:Int)/256%256=((UInt8.ofNat (n/256%256)).toNat:Int):=by rw[jr (n/256)];omega
 have e2:(n:Int)/65536%256=((UInt8.ofNat (n/65536%256)).toNat:Int):=by rw[jr (n/65536)];omega
 have e3:(n:Int)/16777216%256=((UInt8.ofNat (n/16777216%256)).toNat:Int):=u6;have e3':(n:Int)/16777216=((UInt8.ofNat (n/16777216%256)).toNat:Int):=u6;have jB:bytesOf true n=[UInt8.ofNat (n%256),UInt8.ofNat (n/256%256),UInt8.ofNat (n/65536%256),UInt8.ofNat (n/16777216%256)]:=rfl;rw[jB];generalize UInt8.ofNat (n%256)=y0 at*;generalize UInt8.ofNat (n/256%256)=y1 at*;generalize UInt8.ofNat (n/65536%256)=y2 at*;generalize UInt8.ofNat (n/16777216%256)=y3 at*;clear jB;go_enter func46,ntmps46;go_wp2_with fail;refine wp_region_held_drew (S:=fun w'=>w'.cell? ⟨w.heap.size,0,none⟩=some (.int .i64 id)∧w'.cell? ⟨w.heap.size,1,none⟩=some (.int .u32 (n:Nat))) ak (dD w _ _ _) (fun hS=> ?_);refine af 0 hS (h:=aZ 1 hS (h:=af 2 hS (h:=af 3 hS (h:=cJ 4 hS (h:=cJ 5 hS (h:=cJ 6 hS (h:=cJ 7 hS (h:=cJ 8 hS (h:=cJ 9 hS (h:=cJ 10 hS (h:=af 11 hS (h:= ?_))))))))))));refine af 12 hS (h:= ?_);refine wpAnyH_done ak ?_ _;go_wp2_with fail;refine(HF.out _).mono ?_;rintro e w1 ⟨rfl,aE⟩;have k0:=(aE.cell (p:=⟨w.heap.size,0,none⟩) ae).trans hS.1;have k1:=(aE.cell (p:=⟨w.heap.size,1,none⟩) ae).trans hS.2;have g2:=(hb (.cells #[.int .i64 id,.int .u32 (n:Nat)] 84)).drew.trans (aE.mono ae);clear aE;go_wp2_with fail;go_ret2;exact⟨_,rfl,Cl _ _ _ _ _ _ g2.size,g2.alloc g2.size _⟩
theorem I3(f:bA)(aR:f.ok)(w:World):Calls prog 46 #[f.agg] w (aab w (.int .i64 0) (.int .i64 1) (eE f)):=by
 obtain⟨id,n⟩:=f;have hn:=aR.2.2;simp only at hn;unfold eE;simp only;by_cases ie:id=33
 ·subst ie;rw[if_pos rfl];by_cases hd:aJ (a7 n)=n;·rw[if_pos hd];exact M8 n hn hd w
  ·rw[if_neg hd];exact Fo n hn hd w
 ·rw[if_neg ie];by_cases hf:cW ⟨id,n⟩=true
  ·rw[if_pos hf];by_cases h3:id=3
   ·subst h3;rw[if_pos rfl];rcases qw _ hf with⟨_,g1,g2⟩ | ⟨e,_,_⟩
    ·exact Sx n g1 g2 w
    ·exact absurd rfl e
   ·rw[if_neg h3];by_cases h0:n=0;·subst h0;rw[if_pos rfl];exact Sz id aR ie h3 hf w
    ·rw[if_neg h0];exact SA id n aR ie h3 hf h0 w
  ·rw[if_neg hf];exact M9 id n aR ie (by simpa using hf) w
def sD(w:World)(id:Int)(n:Nat)(tag:Value)(e:Ending)(w':World):Prop:=e= .returned (.tuple #[.agg #[.int .i64 id,.int .u32 (n:Nat)],tag])∧Below w.heap.size w w'
theorem I4(id:Int)(ie:id≠33)(h3:id≠3)(hi:jh id=false)(A:Option Addr)(n c:Nat)(w:World):
  Calls prog 184 #[.int .i64 id,.slice A n c] w (sD w 0 0 (.int .i64 5)):=by
 have HI:=hdd (dA id);rw[hi]at HI;have d33:(id==33)=false:=ic;have d3:(id==3)=false:=jK;clear ie h3 hi;go_enter func184,ntmps184;go_wp2_with fail;refine(HI.out _).mono ?_;rintro e w' ⟨rfl,rfl⟩;go_wp2_with fail;refine(HI.out _).mono ?_;rintro e w' ⟨rfl,rfl⟩;go_wp2_with fail;exact bodyPost_ret (v:= .tuple #[.agg #[.int .i64 0,.int .u32 0],.int .i64 5]) jL rfl ⟨rfl,(ap).alloc ae _⟩
def ek(id:Int)(l:List UInt8):Option bA:=
 if id=33 then(match l with | [x]=>if x.toNat≤40 then some ⟨33,aJ x.toNat⟩else none | _=>none)
 else if id=3 then(match l with | [x]=>some ⟨3,x.toNat+1⟩ | _=>none)
 else if jh id=true then(match l with | []=>some ⟨id,0⟩ | [a,b,c,d]=>if a.toNat%4=0 then some ⟨id,word true a b c d⟩else none | _=>none)
 else none
def alY(w:World)(yes no:Value)(r:Option bA):Ending→World→Prop:=
 match r with
 | some f=>sD w f.id f.n yes
 | none=>sD w 0 0 no
theorem I5(A:Option Addr)(n c:Nat)(h:n≠1)(w:World):
  Calls prog 184 #[.int .i64 33,.slice A n c] w (sD w 0 0 (.int .i64 5)):=by
 have HI:=hdd (dA 33);rw[show jh 33=false by decide]at HI;have d1:((n:Int)==1)=false:=av;clear h;go_enter func184,ntmps184;go_wp2_with fail;refine(HI.out _).mono ?_;rintro e w' ⟨rfl,rfl⟩;go_wp2_with fail;refine(HI.out _).mono ?_;rintro e w' ⟨rfl,rfl⟩;go_wp2_with fail;exact bodyPost_ret (v:= .tuple #[.agg #[.int .i64 0,.int .u32 0],.int .i64 5]) jL rfl ⟨rfl,(ap).alloc ae _⟩
theorem Fq(b off c:Nat)(x:UInt8)(h:40<x.toNat)(w:World)(hx:w.cell? ⟨b,off,none⟩=some (B8 x))(hb:b<w.heap.size):
  Calls prog 184 #[.int .i64 33,.slice (some ⟨b,off,none⟩) 1 c] w (sD w 0 0 (.int .i64 5)):=by
 have HI:=hdd (dA 33);rw[show jh 33=false by decide]at HI;have d1:decide ((x.toNat:Int)≤40)=false:=av;clear h;have JS:b≠w.heap.size:=aa;have Wm:b≠w.heap.size+1:=aa;go_enter func184,ntmps184;go_wp2_with fail;refine(HI.out _).mono ?_;rintro e w' ⟨rfl,rfl⟩;go_wp2_with fail;refine(HI.out _).mono ?_;rintro e w' ⟨rfl,rfl⟩;go_wp2_with fail;exact bodyPost_ret (v:= .tuple #[.agg #[.int .i64 0,.int .u32 0],.int .i64 5]) jL rfl ⟨rfl,(ap).alloc ae _⟩
theorem SB(b off c:Nat)(x:UInt8)(h:x.toNat≤40)(w:World)(hx:w.cell? ⟨b,off,none⟩=some (B8 x))(hb:b<w.heap.size):
  Calls prog 184 #[.int .i64 33,.slice (some ⟨b,off,none⟩) 1 c] w (sD w 33 (aJ x.toNat) (.int .i64 0)):=by
 have HD:=hdd (iT x.toNat h);have TM:=kj x.toNat;have d1:decide ((x.toNat:Int)≤40)=true:=av;generalize aJ x.toNat=D at*;have JS:b≠w.heap.size:=aa;have Wm:b≠w.heap.size+1:=aa;go_enter func184,ntmps184;go_wp2_with fail;refine(HD.out _).mono ?_;rintro e w' ⟨rfl,rfl⟩;go_wp2_with fail;exact bodyPost_ret (v:= .tuple #[.agg #[.int .i64 33,.int .u32 (D:Nat)],.int .i64 0]) jL rfl ⟨rfl,(ap).alloc ae _⟩
theorem Wn(b off c:Nat)(x:UInt8)(w:World)(hx:w.cell? ⟨b,off,none⟩=some (B8 x))(hb:b<w.heap.size):
  Calls prog 184 #[.int .i64 3,.slice (some ⟨b,off,none⟩) 1 c] w (sD w 3 (x.toNat+1) (.int .i64 0)):=by
 have hl:=x.toNat_lt;have JS:b≠w.heap.size:=aa;have Wm:b≠w.heap.size+1:=aa;go_enter func184,ntmps184;go_wp2_with fail;exact bodyPost_ret (v:= .tuple #[.agg #[.int .i64 3,.int .u32 ((x.toNat:Int)+1)],.int .i64 0]) jL rfl ⟨congrArg (fun n:Int=>Ending.returned (.tuple #[.agg #[.int .i64 3,.int .u32 n],.int .i64 0])) aa,(ap).alloc ae _⟩
theorem Na(A:Option Addr)(n c:Nat)(h:n≠1)(w:World):
  Calls prog 184 #[.int .i64 3,.slice A n c] w (sD w 0 0 (.int .i64 5)):=by
 have HI:=hdd (dA 3);rw[show jh 3=false by decide]at HI;have d1:((n:Int)==1)=false:=av;clear h;go_enter func184,ntmps184;go_wp2_with fail;refine(HI.out _).mono ?_;rintro e w' ⟨rfl,rfl⟩;go_wp2_with fail;refine(HI.out _).mono ?_;rintro e w' ⟨rfl,rfl⟩;go_wp2_with fail;exact bodyPost_ret (v:= .tuple #[.agg #[.int .i64 0,.int .u32 0],.int .i64 5]) jL rfl ⟨rfl,(ap).alloc ae _⟩
theorem Wo(id:Int)(ie:id≠33)(h3:id≠3)(hi:jh id=true)(A:Option Addr)(c:Nat)(w:World):
  Calls prog 184 #[.int .i64 id,.slice A 0 c] w (sD w id 0 (.int .i64 0)):=by
 have HI:=hdd (dA id);rw[hi]at HI;have d33:(id==33)=false:=ic;have d3:(id==3)=false:=jK;clear ie h3 hi;go_enter func184,ntmps184;go_wp2_with fail;refine(HI.out _).mono ?_;rintro e w' ⟨rfl,rfl⟩;go_wp2_with fail;exact bodyPost_ret (v:= .tuple #[.agg #[.int .i64 id,.int .u32 0],.int .i64 0]) jL rfl ⟨rfl,(ap).alloc ae _⟩
theorem Fr(id:Int)(ie:id≠33)(h3:id≠3)(hi:jh id=true)(A:Option Addr)(n c:Nat)(FY:n≠0)(ZD:n≠4)(w:World):
  Calls prog 184 #[.int .i64 id,.slice A n c] w (sD w 0 0 (.int .i64 5)):=by
 have HI:=hdd (dA id);rw[hi]at HI;have d33:(id==33)=false:=ic;have d3:(id==3)=false:=jK;have e0:((n:Int)==0)=false:=av;have e4:((n:Int)==4)=false:=av;clear ie h3 hi FY ZD;go_enter func184,ntmps184;go_wp2_with fail;refine(HI.out _).mono ?_;rintro e w' ⟨rfl,rfl⟩;go_wp2_with fail;refine(HI.out _).mono ?_;rintro e w' ⟨rfl,rfl⟩;go_wp2_with fail;exact bodyPost_ret (v:= .tuple #[.agg #[.int .i64 0,.int .u32 0],.int .i64 5]) jL rfl ⟨rfl,(ap).alloc ae _⟩
theorem Nb(id:Int)(ie:id≠33)(h3:id≠3)(hi:jh id=true)(b off c:Nat)(x:UInt8)(h:x.toNat%4≠0)(w:World)(hx:w.cell? ⟨b,off,none⟩=some (B8 x))(hb:b<w.heap.size):
  Calls prog 184 #[.int .i64 id,.slice (some ⟨b,off,none⟩) 4 c] w (sD w 0 0 (.int .i64 5)):=by
 have HI:=hdd (dA id);rw[hi]at HI;have d33:(id==33)=false:=ic;have d3:(id==3)=false:=jK;have e4:((x.toNat:Int)%4==0)=false:=av;have JS:b≠w.heap.size:=aa;have Wm:b≠w.heap.size+1:=aa;clear ie h3 hi h;go_enter func184,ntmps184;go_wp2_with fail;refine(HI.out _).mono ?_;rintro e w' ⟨rfl,rfl⟩;go_wp2_with fail;refine(HI.out _).mono ?_;rintro e w' ⟨rfl,rfl⟩;go_wp2_with fail;exact bodyPost_ret (v:= .tuple #[.agg #[.int .i64 0,.int .u32 0],.int .i64 5]) jL rfl ⟨rfl,(ap).alloc ae _⟩
theorem Nc(w:World)(a0 a1 b0 b1:Value)(T:TypeId):((w.alloc (.cells #[a0,a1] T)).alloc (.cells #[b0,b1] T)).drew.cell? ⟨w.heap.size,0,none⟩=some a0∧((w.alloc (.cells #[a0,a1] T)).alloc (.cells #[b0,b1] T)).drew.cell? ⟨w.heap.size,1,none⟩=some a1∧
  ((w.alloc (.cells #[a0,a1] T)).alloc (.cells #[b0,b1] T)).drew.cell? ⟨w.heap.size+1,0,none⟩=some b0∧((w.alloc (.cells #[a0,a1] T)).alloc (.cells #[b0,b1] T)).drew.cell? ⟨w.heap.size+1,1,none⟩=some b1∧
  ((w.alloc (.cells #[a0,a1] T)).alloc (.cells #[b0,b1] T)).drew.frozen? ⟨w.heap.size,0,none⟩=false∧((w.alloc (.cells #[a0,a1] T)).alloc (.cells #[b0,b1] T)).drew.frozen? ⟨w.heap.size,1,none⟩=false∧
  Below w.heap.size w ((w.alloc (.cells #[a0,a1] T)).alloc (.cells #[b0,b1] T)).drew:=by
 have e:(w.alloc (.cells #[a0,a1] T)).heap.size=w.heap.size+1:=ae;have hb:=bv (w.alloc (.cells #[a0,a1] T)) (.cells #[b0,b1] T);refine⟨(hb.cell (p:=⟨w.heap.size,0,none⟩) ae).trans ?_,(hb.cell (p:=⟨w.heap.size,1,none⟩) ae).trans ?_,?_,?_,(hb.frozen (p:=⟨w.heap.size,0,none⟩) ae).trans ?_,(hb.frozen (p:=⟨w.heap.size,1,none⟩) ae).trans ?_,((bv w _).trans (hb.mono ae)).drew⟩;·rw[cell_of_row _ _ _ _ _ _ (heap_alloc_last _ _)];rfl
 ·rw[cell_of_row _ _ _ _ _ _ (heap_alloc_last _ _)];rfl
 ·rw[←e];show((w.alloc _).alloc _).cell? _=_;rw[cell_of_row _ _ _ _ _ _ (heap_alloc_last _ _)];rfl
 ·rw[←e];show((w.alloc _).alloc _).cell? _=_;rw[cell_of_row _ _ _ _ _ _ (heap_alloc_last _ _)];rfl
 ·rw[frozen?_alloc_cells];simp[World.frozen?]
 ·rw[frozen?_alloc_cells];simp[World.frozen?]
theorem sE(w:World)(o p:Obj)(b k:Nat)(hb:b<w.heap.size):((w.alloc o).alloc p).drew.cell? ⟨b,k,none⟩=w.cell? ⟨b,k,none⟩:=
 (((bv w o).alloc (bv w o).size p).drew).cell (p:=⟨b,k,none⟩) hb
theorem Wp(id:Int)(ie:id≠33)(h3:id≠3)(hi:jh id=true)(b off c:Nat)(x0 x1 x2 x3:UInt8)(h:x0.toNat%4=0)(w:World)(hb:b<w.heap.size)(h0:w.cell? ⟨b,off,none⟩=some (B8 x0))(h1:w.cell? ⟨b,off+1,none⟩=some (B8 x1))(h2:w.cell? ⟨b,off+2,none⟩=some (B8 x2))(h3':w.cell? ⟨b,off+3,none⟩=some (B8 x3)):
  Calls prog 184 #[.int .i64 id,.slice (some ⟨b,off,none⟩) 4 c] w (sD w id (word true x0 x1 x2 x3) (.int .i64 0)):=by
 have HI:=hdd (dA id);rw[hi]at HI;have HW:=hdd (Ch _ _ _ _ x0.toNat_lt x1.toNat_lt x2.toNat_lt x3.toNat_lt);have Cm:word true x0 x1 x2 x3=x0.toNat+x1.toNat*256+x2.toNat*65536+x3.toNat*16777216:=rfl;rw[←Cm]at HW;generalize word true x0 x1 x2 x3=R at*;have d33:(id==33)=false:=ic;have d3:(id==3)=false:=jK;have e4:((x0.toNat:Int)%4==0)=true:=av;have JS:b≠w.heap.size:=aa;have Wm:b≠w.heap.size+1:=aa;clear ie h3 hi h Cm;go_enter func184,ntmps184;go_wp2_with fail;refine(HI.out _).mono ?_;rintro e w' ⟨rfl,rfl⟩;go_wp2_with fail;refine(HI.out _).mono ?_;rintro e w' ⟨rfl,rfl⟩;go_wp2_with fail;have k0:=fun o p=>(sE w o p b off hb).trans h0;have k1:=fun o p=>(sE w o p b (off+1) hb).trans h1;have k2:=fun o p=>(sE w o p b (off+2) hb).trans h2;have k3:=fun o p=>(sE w o p b (off+3) hb).trans h3';refine wp_region_held_drew (S:=fun w'=>w'.cell? ⟨b,off,none⟩=some (B8 x0)∧w'.cell? ⟨b,off+1,none⟩=some (B8 x1)∧w'.cell? ⟨b,off+2,none⟩=some (B8 x2)∧w'.cell? ⟨b,off+3,none⟩=some (B8 x3)) ak ⟨k0 _ _,k1 _ _,k2 _ _,k3 _ _⟩ (fun hS=> ?_);refine af 0 hS (h:=af 1 hS (h:=aZ 2 hS (h:=af 3 hS (h:=af 4 hS (h:=af 5 hS (h:=aZ 6 hS (h:=af 7 hS (h:=af 8 hS (h:=af 9 hS (h:=af 10 hS (h:=af 11 hS (h:= ?_))))))))))));refine aZ 12 hS (h:=af 13 hS (h:=af 14 hS (h:=af 15 hS (h:=af 16 hS (h:=af 17 hS (h:=aZ 18 hS (h:=af 19 hS (h:=af 20 hS (h:=af 21 hS (h:=af 22 hS (h:= ?_)))))))))));rw[HW.out];refine aG 23 (fun K hK=> ?_);go_simp;refine hK.out _ _ ⟨k0 _ _,k1 _ _,k2 _ _,k3 _ _⟩ (fun _=> ?_);clear hK K;refine wpAnyH_done ak ?_ _;clear k0 k1 k2 k3 h0 h1 h2 h3' HW;have q:=Nc w (.int .i64 0) (.int .u32 0) (.int .i64 id) (.int .u32 (R:Nat)) 84;generalize((w.alloc (.cells #[.int .i64 0,.int .u32 0] 84)).alloc (.cells #[.int .i64 id,.int .u32 (R:Nat)] 84)).drew=W at*;obtain⟨q1,q2,q3,q4,q5,q6,q7⟩:=q;have r1:=World.cell?_setCell_same' W ⟨w.heap.size,0,none⟩ (.int .i64 id) (by rw[q1];rfl);have r2:=World.cell?_setCell_same' (W.setCell ⟨w.heap.size,0,none⟩ (.int .i64 id)) ⟨w.heap.size,1,none⟩ (.int .u32 (R:Nat)) (by rw[World.cell?_setCell_other _ _ _ _ ae,q2];rfl);go_wp2_with fail;exact bodyPost_ret (v:= .tuple #[.agg #[.int .i64 id,.int .u32 (R:Nat)],.int .i64 0]) (by simp[results,results184,go_sem,r1,r2]) rfl ⟨rfl,(q7.setCell (Nat.le_refl _) _).setCell (Nat.le_refl _) _⟩
def CA(n k:Nat):Prop:= ∀j,j<k→aJ j≠n
theorem Nd(n k:Nat)(hk:k≤40)(_hno:CA n k)(h:aJ k=n):eE ⟨33,n⟩=some [UInt8.ofNat k]:=by have e:a7 n=k:=ov n k hk aa (fun j hj=>by rw[←h];exact qH j k hj hk);unfold eE;simp only[if_true];rw[e,if_pos h]
theorem I6(n:Nat)(pM:CA n 41):eE ⟨33,n⟩=none:=by unfold eE;simp only[if_true];rw[if_neg (pM _ (ar (lW n)))]
theorem Ne(n:Nat)(hn:n<4294967296)(w:World):
  Calls prog 100 #[.agg #[.int .i64 33,.int .u32 (n:Nat)]] w (aab w (.bool true) (.bool false) (eE ⟨33,n⟩)):=by
 have HH:=hdd (Nd n);have HM:=hdd (I6 n);have eH:=bv w (.cells #[.int .i64 33,.int .u32 (n:Nat)] 84);have zG:=dD w (.int .i64 33) (.int .u32 (n:Nat)) 84;generalize eE ⟨33,n⟩=X at*;go_enter func100,ntmps100;go_wp2_with fail;go_loopw [4] (fun i wr=> ∃k:Nat,k≤41∧i= .int .i64 k∧CA n k∧wr.cell? ⟨w.heap.size,0,none⟩=some (.int .i64 33)∧wr.cell? ⟨w.heap.size,1,none⟩=some (.int .u32 (n:Nat))∧Below w.heap.size w wr) (fun i _=>41-(intOf i).toNat);case atStart=>exact⟨0,aa,rfl,fun j hj=>aa,zG.1,zG.2,eH⟩
 case round=>
  clear eH zG;obtain⟨k,hk,rfl,pM,k0,k1,hb⟩:=hrel;by_cases aF:k<41
  ·have HD:=hdd (tL k);have hl:=kj k;by_cases hd:aJ k=n;·have hX:=HH.out k aa pM hd;subst hX;rw[hd]at HD hl;have N4:=hdd pM;clear pM hd;go_wp2_with fail;refine wp_region_held_drew (S:=fun w'=>w'.cell? ⟨w.heap.size,0,none⟩=some (.int .i64 33)∧w'.cell? ⟨w.heap.size,1,none⟩=some (.int .u32 (n:Nat))) ak ⟨k0,k1⟩ (fun hS=> ?_);refine af 0 hS (h:=af 2 hS (h:=aZ 3 hS (h:=bT 4 rfl (fun w hSw=>by have q2:IntKind.u64.wrap (n:Int)=(n:Int):=IntWalk.u64_in _ aa;go_simp;all_goals(with_reducible rfl)) hS (h:= ?_))));refine aG 1 (fun K hK=> ?_);go_simp;refine(HD.out _).mono ?_;rintro e w' ⟨rfl,rfl⟩;go_wp2_with fail;refine hK.out _ _ hS (fun _=> ?_);clear hK K;refine af 5 hS (h:= ?_);refine wpAnyH_done ak ?_ _;go_wp2_with fail;go_ret2;exact⟨_,rfl,(Wl wr k _ aa hb.size).drew,(hb.alloc hb.size _).drew⟩
   ·have dr:((aJ k:Int)==(n:Int))=false:=(by simp;omega);have aft:CA n (k+1):=by
     intro j hj;by_cases e:j=k;·subst e;exact hd
     ·exact pM j aa
    generalize aJ k=D at*;have N4:=hdd aft;clear pM hd aft;go_wp2_with fail;refine wp_region_held_drew (S:=fun w'=>w'.cell? ⟨w.heap.size,0,none⟩=some (.int .i64 33)∧w'.cell? ⟨w.heap.size,1,none⟩=some (.int .u32 (n:Nat))) ak ⟨k0,k1⟩ (fun hS=> ?_);refine af 0 hS (h:=af 2 hS (h:=aZ 3 hS (h:=bT 4 rfl (fun w hSw=>by have q2:IntKind.u64.wrap (n:Int)=(n:Int):=IntWalk.u64_in _ aa;go_simp;all_goals(with_reducible rfl)) hS (h:= ?_))));refine aG 1 (fun K hK=> ?_);go_simp;refine(HD.out _).mono ?_;rintro e w' ⟨rfl,rfl⟩;go_wp2_with fail;refine hK.out _ _ hS (fun _=> ?_);clear hK K;refine af 5 hS (h:= ?_);refine wpAnyH_done ak ?_ _;go_wp2_with fail;go_roundw;case rel=>exact⟨k+1,aa,aq,N4.out,k0,k1,hb.drew⟩
    case measure=>simp[intOf];omega
  ·obtain rfl:k=41:=(by omega);have hX:=HM.out pM;subst hX;go_wp2_with fail;go_ret2;exact⟨rfl,hb⟩
theorem Nf(id:Int)(n:Nat)(aR:(⟨id,n⟩:bA).ok)(ie:id≠33)(hf:cW ⟨id,n⟩=false)(w:World):
  Calls prog 100 #[.agg #[.int .i64 id,.int .u32 (n:Nat)]] w (KD w (.bool false)):=by
 have hb:=bv w;have HF:=hdd (oo ⟨id,n⟩ aR);rw[hf]at HF;simp only[bA.agg]at HF;have hd:(id==33)=false:=ic;clear ie hf;go_enter func100,ntmps100;go_wp2_with fail;refine(HF.out _).mono ?_;rintro e w' ⟨rfl,aE⟩;go_wp2_with fail;go_ret2;exact⟨rfl,(hb _).trans (aE.mono ae)⟩
theorem SC(n:Nat)(h1:1≤n)(h2:n≤256)(w:World):
  Calls prog 100 #[.agg #[.int .i64 3,.int .u32 (n:Nat)]] w (lr w [UInt8.ofNat (n-1)] (.bool true)):=by
 have hb:=bv w;have HF:=hdd (oo ⟨3,n⟩ ⟨ae,ae,av⟩);have bt:cW ⟨3,n⟩=true:=by unfold cW;simp;omega
 rw[bt]at HF;simp only[bA.agg]at HF;clear bt;go_enter func100,ntmps100;go_wp2_with fail;refine(HF.out _).mono ?_;rintro e w1 ⟨rfl,aE⟩;have k0:=(aE.cell (p:=⟨w.heap.size,0,none⟩) ae).trans (dD w (.int .i64 3) (.int .u32 (n:Nat)) 84).1;have k1:=(aE.cell (p:=⟨w.heap.size,1,none⟩) ae).trans (dD w (.int .i64 3) (.int .u32 (n:Nat)) 84).2;have g2:=(hb (.cells #[.int .i64 3,.int .u32 (n:Nat)] 84)).trans (aE.mono ae);clear aE;have e:(n:Int)-1=((n-1:Nat):Int):=aa;have alX:n-1<256:=aa;generalize n-1=m at*;go_wp2_with fail;go_ret2;exact⟨_,rfl,Wl _ _ _ aa g2.size,g2.alloc g2.size _⟩
theorem SD(id:Int)(aR:(⟨id,0⟩:bA).ok)(ie:id≠33)(h3:id≠3)(hf:cW ⟨id,0⟩=true)(w:World):
  Calls prog 100 #[.agg #[.int .i64 id,.int .u32 0]] w (lr w [] (.bool true)):=by
 have hb:=bv w;have HF:=hdd (oo ⟨id,0⟩ aR);rw[hf]at HF;simp only[bA.agg]at HF;have hd:(id==33)=false:=ic;have Ss:(id==3)=false:=jK;clear ie hf h3;go_enter func100,ntmps100;go_wp2_with fail;refine(HF.out _).mono ?_;rintro e w1 ⟨rfl,aE⟩;have k0:=(aE.cell (p:=⟨w.heap.size,0,none⟩) ae).trans (dD w (.int .i64 id) (.int .u32 0) 84).1;have k1:=(aE.cell (p:=⟨w.heap.size,1,none⟩) ae).trans (dD w (.int .i64 id) (.int .u32 0) 84).2;have g2:=(hb (.cells #[.int .i64 id,.int .u32 0] 84)).trans (aE.mono ae);clear aE;go_wp2_with fail;go_ret2;exact⟨_,rfl,Own.nil _ _,g2⟩
theorem SE(id:Int)(n:Nat)(aR:(⟨id,n⟩:bA).ok)(ie:id≠33)(h3:id≠3)(hf:cW ⟨id,n⟩=true)(h0:n≠0)(w:World):
  Calls prog 100 #[.agg #[.int .i64 id,.int .u32 (n:Nat)]] w (lr w (bytesOf true n) (.bool true)):=by
 have hb:=bv w;have HF:=hdd (oo ⟨id,n⟩ aR);rw[hf]at HF;simp only[bA.agg]at HF;obtain⟨o1,o2,o3⟩:=aR;simp only at o1 o2 o3;have hd:(id==33)=false:=ic;have Ss:(id==3)=false:=jK;have FY:((n:Int)==0)=false:=by simp[h0]
 clear ie hf h3;have e0:(n:Int)%256=((UInt8.ofNat (n%256)).toNat:Int):=by rw[jr n];omega
 have e1:(n:Int)/256%256=((UInt8.ofNat (n/256%256)).toNat:Int):=by rw[jr (n/256)];omega
 have e2:(n:Int)/65536%256=((UInt8.ofNat (n/65536%256)).toNat:Int):=by rw[jr (n/65536)];omega
 have e3:(n:Int)/16777216%256=((UInt8.ofNat (n/16777216%256)).toNat:Int):=u6;have e3':(n:Int)/16777216=((UInt8.ofNat (n/16777216%256)).toNat:Int):=u6;have jB:bytesOf true n=[UInt8.ofNat (n%256),UInt8.ofNat (n/256%256),UInt8.ofNat (n/65536%256),UInt8.ofNat (n/16777216%256)]:=rfl;rw[jB];generalize UInt8.ofNat (n%256)=y0 at*;generalize UInt8.ofNat (n/256%256)=y1 at*;generalize UInt8.ofNat (n/65536%256)=y2 at*;generalize UInt8.ofNat (n/16777216%256)=y3 at*;clear jB;go_enter func100,ntmps100;go_wp2_with fail;refine(HF.out _).mono ?_;rintro e w1 ⟨rfl,aE⟩;have k0:=(aE.cell (p:=⟨w.heap.size,0,none⟩) ae).trans (dD w (.int .i64 id) (.int .u32 (n:Nat)) 84).1;have k1:=(aE.cell (p:=⟨w.heap.size,1,none⟩) ae).trans (dD w (.int .i64 id) (.int .u32 (n:Nat)) 84).2;have g2:=(hb (.cells #[.int .i64 id,.int .u32 (n:Nat)] 84)).trans (aE.mono ae);clear aE;go_wp2_with fail;go_ret2;exact⟨_,rfl,Cl _ _ _ _ _ _ g2.size,g2.alloc g2.size _⟩
theorem CB(f:bA)(aR:f.ok)(w:World):Calls prog 100 #[f.agg] w (aab w (.bool true) (.bool false) (eE f)):=by
 obtain⟨id,n⟩:=f;have hn:=aR.2.2;simp only at hn;by_cases ie:id=33;·subst ie;exact Ne n hn w
 ·unfold eE;simp only;rw[if_neg ie];by_cases hf:cW ⟨id,n⟩=true
  ·rw[if_pos hf];by_cases h3:id=3
   ·subst h3;rw[if_pos rfl];rcases qw _ hf with⟨_,g1,g2⟩ | ⟨e,_,_⟩
    ·exact SC n g1 g2 w
    ·exact absurd rfl e
   ·rw[if_neg h3];by_cases h0:n=0;·subst h0;rw[if_pos rfl];exact SD id aR ie h3 hf w
    ·rw[if_neg h0];exact SE id n aR ie h3 hf h0 w
  ·rw[if_neg hf];exact Nf id n aR ie (by simpa using hf) w

theorem Bytes.aac{x0 x1 x2 x3:UInt8}(h:Bytes w A [x0,x1,x2,x3]): ∃b off,A=some ⟨b,off,none⟩∧b<w.heap.size∧w.cell? ⟨b,off,none⟩=some (B8 x0)∧w.cell? ⟨b,off+1,none⟩=some (B8 x1)∧w.cell? ⟨b,off+2,none⟩=some (B8 x2)∧w.cell? ⟨b,off+3,none⟩=some (B8 x3):=by obtain⟨b,off,rfl,hb,hc⟩:=h.addr ae;exact⟨b,off,rfl,hb,hc 0 ae,hc 1 ae,hc 2 ae,hc 3 ae⟩
theorem Bytes.SF(h:Bytes w A [x]): ∃b off,A=some ⟨b,off,none⟩∧b<w.heap.size∧w.cell? ⟨b,off,none⟩=some (B8 x):=by obtain⟨b,off,rfl,hb,hc⟩:=h.addr ae;exact⟨b,off,rfl,hb,hc 0 ae⟩
theorem Ng(l:List UInt8):l=[]∨(∃x,l=[x])∨(∃a b c d,l=[a,b,c,d])∨(l.length≠0∧l.length≠1∧l.length≠4):=by
 match l with
 | []=>exact .inl rfl
 | [x]=>exact .inr (.inl ⟨x,rfl⟩)
 | [_,_]=>exact .inr (.inr (.inr ⟨ae,ae,ae⟩))
 | [_,_,_]=>exact .inr (.inr (.inr ⟨ae,ae,ae⟩))
 | [a,b,c,d]=>exact .inr (.inr (.inl ⟨a,b,c,d,rfl⟩))
 | _::_::_::_::_::_=>exact .inr (.inr (.inr ⟨ae,ae,ae⟩))
theorem Nh(l:List UInt8)(h:l.length≠1):ek 33 l=none:=by
 unfold ek;rw[if_pos rfl];match l with
 | []=>rfl
 | [x]=>simp at h
 | _::_::_=>rfl
theorem SG(l:List UInt8)(h:l.length≠1):ek 3 l=none:=by
 unfold ek;rw[if_neg aa,if_pos rfl];match l with
 | []=>rfl
 | [x]=>simp at h
 | _::_::_=>rfl
theorem KE(id:Int)(ie:id≠33)(h3:id≠3)(l:List UInt8)(h0:l.length≠0)(h4:l.length≠4):ek id l=none:=by
 unfold ek;rw[if_neg ie,if_neg h3];split
 ·match l with
  | []=>simp at h0
  | [_]=>rfl
  | [_,_]=>rfl
  | [_,_,_]=>rfl
  | [_,_,_,_]=>simp at h4
  | _::_::_::_::_::_=>rfl
 ·rfl
theorem SH(a b c d:UInt8):word true a b c d%4=a.toNat%4:=by simp only[word,if_true];omega
theorem Ni(id:Int)(A:Option Addr)(l:List UInt8)(c:Nat)(w:World)(hB:Bytes w A l):
  Calls prog 184 #[.int .i64 id,.slice A l.length c] w (alY w (.int .i64 0) (.int .i64 5) (ek id l)):=by
 by_cases ie:id=33
 ·subst ie;by_cases h1:l.length=1
  ·obtain⟨x,rfl⟩: ∃x,l=[x]:=by
    match l,h1 with
    | [x],_=>exact⟨x,rfl⟩
   obtain⟨b,off,rfl,hb,hx⟩:=hB.SF;have e:ek 33 [x]=if x.toNat≤40 then some ⟨33,aJ x.toNat⟩else none:=rfl;rw[e];by_cases h:x.toNat≤40;·rw[if_pos h];exact SB b off c x h w hx hb
   ·rw[if_neg h];exact Fq b off c x aa w hx hb
  ·rw[Nh l h1];exact I5 A _ c h1 w
 by_cases h3:id=3
 ·subst h3;by_cases h1:l.length=1
  ·obtain⟨x,rfl⟩: ∃x,l=[x]:=by
    match l,h1 with
    | [x],_=>exact⟨x,rfl⟩
   obtain⟨b,off,rfl,hb,hx⟩:=hB.SF;exact Wn b off c x w hx hb
  ·rw[SG l h1];exact Na A _ c h1 w
 cases hi:jh id with
 | false=>
  have e:ek id l=none:=by unfold ek;rw[if_neg ie,if_neg h3,if_neg (by simp[hi])]
  rw[e];exact I4 id ie h3 hi A _ c w
 | true=>
  rcases Ng l with rfl | ⟨x,rfl⟩ | ⟨x0,x1,x2,x3,rfl⟩ | ⟨h0,_,h4⟩
  ·have e:ek id []=some ⟨id,0⟩:=(by unfold ek;rw[if_neg ie,if_neg h3,if_pos hi]);rw[e];exact Wo id ie h3 hi A c w
  ·rw[KE id ie h3 [x] ae ae];exact Fr id ie h3 hi A _ c ae ae w
  ·obtain⟨b,off,rfl,hb,k0,k1,k2,k3⟩:=hB.aac;have e:ek id [x0,x1,x2,x3]=if x0.toNat%4=0 then some ⟨id,word true x0 x1 x2 x3⟩else none:=(by unfold ek;rw[if_neg ie,if_neg h3,if_pos hi]);rw[e];by_cases h:x0.toNat%4=0;·rw[if_pos h];exact Wp id ie h3 hi b off c x0 x1 x2 x3 h w hb k0 k1 k2 k3
   ·rw[if_neg h];exact Nb id ie h3 hi b off c x0 h w k0 hb
  ·rw[KE id ie h3 l h0 h4];exact Fr id ie h3 hi A _ c h0 h4 w
theorem kU(k:Nat)(h:k<256):(UInt8.ofNat k).toNat=k:=av
theorem I7(f:bA)(aR:f.ok)(l:List UInt8)(h:eE f=some l):ek f.id l=some f:=by
 obtain⟨id,n⟩:=f;obtain⟨_,_,hn⟩:=aR;simp only at hn;unfold eE at h;simp only at h ⊢;by_cases ie:id=33
 ·subst ie;rw[if_pos rfl]at h;by_cases hd:aJ (a7 n)=n;·rw[if_pos hd]at h;injection h with h;subst h;have hle:=lW n;show(if(UInt8.ofNat (a7 n)).toNat≤40 then some (⟨33,aJ (UInt8.ofNat (a7 n)).toNat⟩:bA)else none)=_;rw[kU _ aa,if_pos hle,hd]
  ·rw[if_neg hd]at h;cases h
 ·rw[if_neg ie]at h;by_cases hf:cW ⟨id,n⟩=true
  ·rw[if_pos hf]at h;rcases qw _ hf with⟨e,g1,g2⟩ | ⟨e,g1,g2⟩
   ·simp only at e g1 g2;subst e;rw[if_pos rfl]at h;injection h with h;subst h;show some (⟨3,(UInt8.ofNat (n-1)).toNat+1⟩:bA)=_;rw[kU _ aa,show n-1+1=n by omega]
   ·simp only at e g1 g2;have hi:jh id=true:=(by unfold Cj at g1;unfold jh;simp;omega);rw[if_neg e]at h;by_cases h0:n=0;·subst h0;rw[if_pos rfl]at h;injection h with h;subst h;unfold ek;rw[if_neg ie,if_neg e,if_pos hi]
    ·rw[if_neg h0]at h;injection h with h;subst h;obtain⟨a,b,c,d,h1,h2⟩:=si true n hn;rw[h1];have hm:=SH a b c d;rw[h2]at hm;unfold ek;rw[if_neg ie,if_neg e,if_pos hi];simp only;rw[if_pos aa,h2]
  ·rw[if_neg hf]at h;cases h
theorem SI(id:Int)(l:List UInt8)(g:bA)(h:ek id l=some g):g.n<4294967296:=by
 unfold ek at h;split at h
 ·split at h
  ·split at h;·injection h with h;subst h;exact kj _
   ·cases h
  ·cases h
 ·split at h
  ·split at h;·rename_i x;injection h with h;subst h;have:=x.toNat_lt;simp only;omega
   ·cases h
  ·split at h
   ·split at h;·injection h with h;subst h;simp
    ·split at h;·injection h with h;subst h;exact word_lt true _ _ _ _
     ·cases h
    ·cases h
   ·cases h
def dG(l:List bA):List Value:=l.flatMap fun f=>[Value.int .i64 f.id,Value.int .u32 (f.n:Nat)]
theorem nb(l:List bA):(dG l).length=l.length*2:=by
 induction l with
 | nil=>rfl
 | cons a l ih=>simp only[dG,List.flatMap_cons,List.length_append,List.length_cons,List.length_nil]at ih ⊢;omega
theorem uT(l m:List bA):dG (l++m)=dG l++dG m:=by simp[dG]
theorem sF(l:List bA): ∀i (h:i<l.length),(dG l)[i*2]? =some (.int .i64 l[i].id)∧(dG l)[i*2+1]? =some (.int .u32 (l[i].n:Nat)):=by
 induction l with
 | nil=>intro i h;simp at h
 | cons a l ih=>
  intro i h;cases i with
  | zero=>exact⟨rfl,rfl⟩
  | succ i=>
   have:=ih i l7;rw[show(i+1)*2=i*2+1+1 by omega];exact this
theorem CC(l:List bA): ∀u∈dG l,u.oneCell'=true:=by intro u hu;simp only[dG,List.mem_flatMap]at hu;obtain⟨f,_,hu⟩:=hu;simp at hu;rcases hu with rfl | rfl<;>rfl
def eo(base:Nat)(w:World)(v:Value)(l:List bA):Prop:=w.ownsRow base 84 2 v l.length (dG l)
theorem Wq:(prog.info? 84).map (fun i=>(i.zero,i.size,i.bytes))=some (some (.agg #[.int .i64 0,.int .u32 0]),2,16):=ak
theorem eo.nil(base:Nat)(w:World):eo base w (.slice none 0 0) []:=World.ownsRow_nil w base _ 2
theorem eo.aI{l:List bA}(h:eo base w v l)(hb: ∀g,v.ownBlock=some g→w'.heap[g]? =w.heap[g]?):eo base w' v l:=by
 rcases h with⟨h1,h2 | ⟨g,cap,cur,h2,h3,h4,h5⟩⟩
 ·exact⟨h1,.inl h2⟩
 ·exact⟨h1,.inr ⟨g,cap,cur,h2,h3,(hb g (by rw[h2];rfl)).trans h4,h5⟩⟩
theorem eo.lt{l:List bA}(h:eo base w v l)(g:Nat)(hg:v.ownBlock=some g):base≤g∧g<w.heap.size:=World.ownsRow.lt h g hg
theorem eo.below{l:List bA}(h:eo base w v l)(hb:Below w.heap.size w w'):eo base w' v l:=h.aI fun g hg=>hb.block g (h.lt g hg).2
theorem eo.alloc{l:List bA}(h:eo base w v l)(o:Obj):eo base (w.alloc o) v l:=h.below (ap)
theorem eo.weaken{l:List bA}(h:eo base w v l)(hb:fO≤base):eo fO w v l:=by
 rcases h with⟨h1,h2 | ⟨g,cap,cur,h2,h3,h4⟩⟩
 ·exact⟨h1,.inl h2⟩
 ·exact⟨h1,.inr ⟨g,cap,cur,h2,Nat.le_trans hb h3,h4⟩⟩
theorem eo.read{l:List bA}(h:eo base w v l)(aR: ∀f∈l,f.ok): ∃A c,v= .slice A l.length c∧l.length≤c∧c≤9223372036854775807∧dX w A l:=by
 rcases h with⟨h1,⟨h2,h3⟩ | ⟨g,cap,cur,h2,h3,h4,h5,h6,h7⟩⟩
 ·have e:l=[]:=List.eq_nil_of_length_eq_zero h3;subst e;exact⟨none,0,h2,ae,aa,.inl rfl⟩
 ·refine⟨_,cap,h2,h5,AQ,.inr ⟨g,0,rfl,?_,fun k hk=> ?_⟩⟩
  ·rcases Nat.lt_or_ge g w.heap.size with h | h;·exact h
   ·rw[Array.getElem?_eq_none h]at h4;cases h4
  ·have e1: ∀j,j<l.length*2→cur[j]? =(dG l)[j]? :=fun j hj=>(by have h9:=congrArg (fun x:List Value=>x[j]?) h7.2;simpa only[List.getElem?_take,hj,if_true,Array.getElem?_toList]using h9);have hg:=sF l k hk;rw[Nat.zero_add];exact⟨by rw[cell_of_row w g _ cur _ _ h4];exact(e1 (k*2) aa).trans hg.1,by rw[cell_of_row w g _ cur _ _ h4];exact(e1 (k*2+1) aa).trans hg.2,aR _ (List.getElem_mem hk)⟩
theorem eo.CD{l:List bA}(h:eo base w (.slice A n c) l)(aR: ∀f∈l,f.ok):dX w A l:=by obtain⟨A',c',e,_,_,hf⟩:=h.read aR;injection e with e1 e2 e3;rw[e1];exact hf
theorem eo.ne{l:List bA}{m:List UInt8}(h:eo base w v l)(ho:Own fO w u m)(g:Nat)(hg:v.ownBlock=some g):u.ownBlock≠some g:=by
 intro e;rcases h with⟨_,⟨rfl,_⟩ | ⟨g1,cap,cur,rfl,_,h4,_⟩⟩
 ·cases hg
 ·injection hg with hg;subst hg;rcases ho with⟨_,⟨rfl,_⟩ | ⟨g2,ld,auD,rfl,_,k4,_⟩⟩
  ·cases e
  ·injection e with e;subst e;rw[show w.heap[g2]? =_ from k4]at h4;injection h4 with h4;injection h4 with _ ht;exact absurd ht an
theorem eo.I8{l:List bA}(h:eo base w v l)(hx:l6 bo w u)(g:Nat)(hg:v.ownBlock=some g):g≠bo:=by
 intro e;subst e;rcases h with⟨_,⟨rfl,_⟩ | ⟨g1,cap,cur,rfl,_,h4,_⟩⟩
 ·cases hg
 ·injection hg with hg;subst hg;rw[show w.heap[g1]? =_ from hx]at h4;injection h4 with h4;injection h4 with _ ht;exact absurd ht an
theorem nc(base:Nat)(ty:TypeId)(w:World)(v:Value)(xs:List bA)(aD:eo base w v xs)(A:Option Addr)(l:List bA)(c:Nat)(hF:dX w A l)
  (dJ:xs.length+l.length≤1000000) (aT:base≤w.heap.size):
  ∃v' w',(Builtin.append_ #[23,23] ty #[v,.slice A l.length c]).run prog w= .ok v' w'∧eo base w' v' (xs++l)∧w.grownBy w' v.ownBlock:=by
 obtain⟨i,hi,hz⟩:=Option.map_eq_some_iff.1 Wq;injection hz with nE hz;injection hz with gU qR;cases A with
 | none=>
  have hl:l=[]:=by
   rcases hF with h | ⟨_,_,h,_⟩
   ·exact h
   ·cases h
  subst hl;refine⟨v,w,?_,by simpa using aD,World.grownBy.refl w _⟩;rcases aD.2 with⟨rfl,h0⟩ | ⟨g,cap,cur,rfl,_,_,NS,_⟩
  ·simp[Builtin.append_,run_underlying underlying23,sizeOf,typeInfo,hi,Builtin.lenOf,Builtin.firstCells]
  ·simp[Builtin.append_,run_underlying underlying23,sizeOf,typeInfo,hi,Builtin.lenOf,Builtin.firstCells,NS,storeCells]
 | some ad=>
  have tR: ∀j u,(dG l)[j]? =some u→w.cell? (ad.add j)=some u:=by
   intro j u hu;by_cases hj:j<l.length*2
   ·obtain⟨b,off,e,_,bx⟩:=hF.addr aa;injection e with e;subst e;rw[show(⟨b,off,none⟩:Addr).add j=⟨b,off+j,none⟩from pD];have h2:=bx (j/2) aa;have hg:=sF l (j/2) aa;rcases Nat.mod_two_eq_zero_or_one j with hm | hm;·have e2:j/2*2=j:=(by omega);rw[e2]at hg;rw[hg.1]at hu;have:=h2.c0;rw[e2]at this;rw[this];exact hu
    ·have e2:j/2*2+1=j:=(by omega);rw[e2]at hg;rw[hg.2]at hu;have:=h2.c1;rw[show off+j/2*2+1=off+j by omega]at this;rw[this];exact hu
   ·rw[List.getElem?_eq_none (by rw[nb];omega)]at hu;simp at hu
  obtain⟨v',w',hr,h2,h3,_⟩:=run_append_own (P:=prog) w base 23 ty 84 i (.agg #[.int .i64 0,.int .u32 0]) 2 16 underlying23 hi nE gU qR rfl an
   v xs.length (dG xs) aD ad l.length c (dG l) (nb l) tR (CC l) gD aa aT
  exact⟨v',w',hr,by unfold eo;rw[uT,List.length_append];exact h2,h3⟩
theorem fN(qQ:o.guard=none)(s x:Operand)
  (ho:o.op= .call {callee:= .builtin .append,args:= #[s,x],argTypes:= #[23,23]})
  (base:Nat) (w:World) (v:Value) (xs:List bA) (hs:a.eval s=v) (aD:eo base w v xs) (A:Option Addr) (l:List bA) (c:Nat) (hx:a.eval x= .slice A l.length c) (hF:dX w A l)
  (dJ:xs.length+l.length≤1000000) (aT:base≤w.heap.size)
  (h: ∀v' w',eo base w' v' (xs++l)→w.grownBy w' v.ownBlock→K (a.put o.dst v') w'):if Region.wanted o (yielded ops a.tmps)=true then Oper.wp prog o a w K Q else K (a.put o.dst undef) w:=by
 rw[if_pos sU];obtain⟨v',w',hr,h2,h3⟩:=nc base o.type w v xs aD A l c hF dJ aT;unfold Oper.wp execOp;simp only[ho,resolve,invoke,builtin,Sem.run_bind,Sem.run_pure,Result.andThen_ok,List.map_toArray,List.map_cons,List.map_nil,hs,hx,hr];exact h v' w' h2 h3
theorem qI{rest:List Oper}(qQ:o.guard=none)(s x:Operand)
  (ho:o.op= .call {callee:= .builtin .append,args:= #[s,x],argTypes:= #[23,23]})
  (base:Nat) (w:World) (v:Value) (xs:List bA) (hs:a.eval s=v) (aD:eo base w v xs) (A:Option Addr) (l:List bA) (c:Nat) (hx:a.eval x= .slice A l.length c) (hF:dX w A l)
  (dJ:xs.length+l.length≤1000000) (aT:base≤w.heap.size)
  (h: ∀v' w',eo base w' v' (xs++l)→w.grownBy w' v.ownBlock→wpList prog ops Q rest (a.put o.dst v') w'):wpList prog ops Q (o::rest) a w:=by
 refine wpList_plain qQ fun K hK=> ?_;obtain⟨v',w',hr,h2,h3⟩:=nc base o.type w v xs aD A l c hF dJ aT;unfold Oper.wp execOp;simp only[ho,resolve,invoke,builtin,Sem.run_bind,Sem.run_pure,Result.andThen_ok,List.map_toArray,List.map_cons,List.map_nil,hs,hx,hr];exact hK _ _ (h v' w' h2 h3)
theorem yl(w:World)(f:bA)(aR:f.ok):dX (w.alloc (.cells #[.int .i64 f.id,.int .u32 (f.n:Nat)] 84)) (some ⟨w.heap.size,0,none⟩) [f]:=by refine .inr ⟨w.heap.size,0,rfl,ae,fun i hi=> ?_⟩;obtain rfl:i=0:=jp;exact⟨ae,ae,aR⟩
theorem Own.store{l:List UInt8}(h:Own base w (.slice (some ⟨g,0,none⟩) n c) l)(i:Nat)(_hi:i<l.length)(x:UInt8):Own base (w.setCell ⟨g,i,none⟩ (.int .u8 (x.toNat:Nat))) (.slice (some ⟨g,0,none⟩) n c) (l.set i x):=by
 rcases h with⟨h1,⟨h2,_⟩ | ⟨g1,cap,cur,h2,h3,h4,h5,h6,h7,h8⟩⟩
 ·cases h2
 ·injection h2 with e1 e2 e3;injection e1 with e1;injection e1 with e1;subst e1;subst e3;obtain⟨L,hL⟩: ∃L:List Value,L.toArray=cur:=⟨cur.toList,Array.toArray_toList⟩
  subst hL;refine⟨ae,.inr ⟨g,c,(L.set i (.int .u8 (x.toNat:Nat))).toArray,by rw[e2];simp,h3,heap_set h4 i _,by simpa using h5,h6,by simpa using h7,?_⟩⟩;simp only[Nat.mul_one,List.length_set]at h8 ⊢;rw[List.map_set,←h8,List.take_set]
def qJ(p q:Int):Bool:=(decide (p= -1)||decide (1≤p))&&(decide (q= -1)||decide (0≤q))
def sG(d:Nat):Bool:=decide (aJ (a7 d)=d)
structure el where
 p:Int
 q:Int
 l:List bA
 d:Nat
def el.ok(h:el):Prop:= -9223372036854775808≤h.p∧h.p≤9223372036854775807∧ -9223372036854775808≤h.q∧h.q≤9223372036854775807∧h.d<4294967296
def gB(h:el):Bool:=qJ h.p h.q&&jg h.l&&sG h.d
abbrev ym(h:el)(A:Option Addr)(c:Nat):Value:= .agg #[.int .i64 h.p,.int .i64 h.q,.slice A h.l.length c,.int .u32 (h.d:Nat)]
abbrev ja(h:el)(A:Option Addr)(c:Nat):Obj:= .cells #[.int .i64 h.p,.int .i64 h.q,.slice A h.l.length c,.int .u32 (h.d:Nat)] 51
theorem p7(w:World)(h:el)(A:Option Addr)(c:Nat):(w.alloc (ja h A c)).cell? ⟨w.heap.size,0,none⟩=some (.int .i64 h.p)∧(w.alloc (ja h A c)).cell? ⟨w.heap.size,1,none⟩=some (.int .i64 h.q)∧
  (w.alloc (ja h A c)).cell? ⟨w.heap.size,2,none⟩=some (.slice A h.l.length c)∧(w.alloc (ja h A c)).cell? ⟨w.heap.size,3,none⟩=some (.int .u32 (h.d:Nat)):=by
 refine⟨ae,ae,ae,ae⟩
theorem I9(h:el)(aR:h.ok)(A:Option Addr)(c:Nat)(w:World)(hF0:dX w A h.l)(hl:h.l.length≤20):
  Calls prog 43 #[ym h A c] w fun e w'=>e= .returned (.bool (gB h))∧Below w.heap.size w w':=by
 have HV:=hdd (show gB h=(qJ h.p h.q&&jg h.l&&sG h.d)from rfl);have Kr:Below w.heap.size w (w.alloc (ja h A c)):=ap;have hcs:=p7 w h A c;have hF:=hF0.below Kr;have HM:=hdd (fun w' (hf:dX w' A h.l)=>sj A h.l c w' hf hl);obtain⟨p,q,l,d⟩:=h;obtain⟨o1,o2,o3,o4,o5⟩: -9223372036854775808≤p∧p≤9223372036854775807∧ -9223372036854775808≤q∧q≤9223372036854775807∧d<4294967296:=aR;have Om:=hdd (fun w'=>sC d o5 w');have LX:=hdd (fun w'=>iT (a7 d) (lW d) w');have Lv:=kj (a7 d);have HDB:=hdd (show sG d=decide (aJ (a7 d)=d)from rfl);simp only[ja]at hcs Kr hF;simp only at HV HM;generalize gB ⟨p,q,l,d⟩=R at*;generalize hBX:Obj.cells #[Value.int .i64 p,.int .i64 q,.slice A l.length c,.int .u32 (d:Nat)] 51=BX at*;have A_:=hdd (show qJ p q=((decide (p= -1)||decide (1≤p))&&(decide (q= -1)||decide (0≤q)))from rfl);have IJ:=hdd Kr;clear Kr;generalize qJ p q=sz at*;have dJ:w.heap.size<(w.alloc BX).heap.size:=ae;have P5:=hdd (fun(w':World) (hb:Below (w.alloc BX).heap.size (w.alloc BX) w')=>(hb.cell (p:=⟨w.heap.size,2,none⟩) dJ).trans hcs.2.2.1);have F1:=hdd (fun(w':World) (hb:Below (w.alloc BX).heap.size (w.alloc BX) w')=>(hb.cell (p:=⟨w.heap.size,3,none⟩) dJ).trans hcs.2.2.2);obtain⟨k0,k1,_,_⟩:=hcs;subst hBX;go_enter func43,ntmps43;go_upto_region 1 with fail;go_cut [3]from 4 (fun s3 wx=>s3= .bool (decide (p= -1)||decide (1≤p))∧wx=w.alloc (.cells #[.int .i64 p,.int .i64 q,.slice A l.length c,.int .u32 (d:Nat)] 51));case first=>
  by_cases hp:p= -1;·subst hp;go_wp2_with fail;go_meet;exact⟨rfl,rfl⟩
  ·by_cases FT:1≤p;·have e:(decide (p= -1)||decide (1≤p))=true:=(by simp[FT]);have Ja:=hdd e;clear e;go_wp2_with fail;go_meet;exact⟨by rw[Ja.out],rfl⟩
   ·have e:(decide (p= -1)||decide (1≤p))=false:=(by simp[hp,FT]);have Ja:=hdd e;clear e;go_wp2_with fail;go_meet;exact⟨by rw[Ja.out,show(p== -1)=false by simp[hp]],rfl⟩
 case rest=>
 obtain⟨rfl,rfl⟩:=hcut;generalize(decide (p= -1)||decide (1≤p))=b1 at*;go_upto_region 2 with fail;go_cut [3]from 4 (fun s3 wx=>s3= .bool sz∧wx=w.alloc (.cells #[.int .i64 p,.int .i64 q,.slice A l.length c,.int .u32 (d:Nat)] 51));case first=>
  cases b1 with
  | false=>
   have e:sz=false:=(by rw[A_.out,Bool.false_and]);have Ja:=hdd e;clear e;go_wp2_with fail;go_meet;exact⟨by rw[Ja.out],rfl⟩
  | true=>
   have HE:Hid (sz=(decide (q= -1)||decide (0≤q))):=hdd (by rw[A_.out,Bool.true_and]);by_cases hq:q= -1;·subst hq;have e:sz=true:=oG;have Ja:=hdd e;clear e;go_wp2_with fail;go_meet;exact⟨by rw[Ja.out],rfl⟩
   ·by_cases FS:0≤q;·have e:sz=true:=(by rw[HE.out];simp[FS]);have Ja:=hdd e;clear e;go_wp2_with fail;go_meet;exact⟨by rw[Ja.out],rfl⟩
    ·have e:sz=false:=(by rw[HE.out];simp[hq,FS]);have Ja:=hdd e;clear e;go_wp2_with fail;go_meet;exact⟨by rw[Ja.out,show(q== -1)=false by simp[hq]],rfl⟩
 case rest=>
 obtain⟨rfl,rfl⟩:=hcut;clear A_ k0 k1 hF0;have⟨BX,hBX⟩:=ex (Obj.cells #[Value.int .i64 p,.int .i64 q,.slice A l.length c,.int .u32 (d:Nat)] 51);rw[hBX]at IJ hF P5 F1 ⊢;have bE:Below (w.alloc BX).heap.size (w.alloc BX) (w.alloc BX).drew:=iS _;have hdw:=bE;clear hBX dJ o1 o2 o3 o4;cases sz with
 | false=>
  have HF:Hid (R=false):=hdd (by rw[HV.out];rfl);go_upto_region 3 with fail;refine wp_region_held_drew (S:=fun w'=>Below (w.alloc BX).heap.size (w.alloc BX) w') ak bE (fun hS=> ?_);refine af 0 hS (h:=af 1 hS (h:=cJ 2 hS (h:=cJ 3 hS (h:=cJ 4 hS (h:=af 5 hS (h:=af 6 hS (h:=cJ 7 hS (h:=cJ 8 hS (h:=cJ 9 hS (h:=cJ 10 hS (h:=cJ 11 hS (h:= ?_))))))))))));refine cJ 12 hS (h:=cJ 13 hS (h:=af 14 hS (h:=af 15 hS (h:= ?_))));refine wpAnyH_done ak ?_ _;go_wp2_with fail;go_ret;exact⟨by rw[HF.out];rfl,aO IJ.out bE⟩
 | true=>
  rw[Bool.true_and]at HV;generalize jg l=m at*;cases m with
  | false=>
   have HF:Hid (R=false):=hdd (by rw[HV.out];rfl);go_upto_region 3 with fail;refine wp_region_held_drew (S:=fun w'=>Below (w.alloc BX).heap.size (w.alloc BX) w') ak bE (fun hS=> ?_);refine af 0 hS (h:=af 1 hS (h:=af 2 hS (h:=bq 3 P5.out hS (h:= ?_))));refine aG 4 (fun K hK=> ?_);go_simp;refine(HM.out (w.alloc BX).drew (hF.below hdw)).mono ?_;rintro e w1 ⟨rfl,aC⟩;have g1:Below (w.alloc BX).heap.size (w.alloc BX) w1:=aO bE aC;go_wp2_with fail;refine hK.out _ _ g1 (fun _=> ?_);clear hK K;refine af 5 g1 (h:=af 6 g1 (h:=cJ 7 g1 (h:=cJ 8 g1 (h:=cJ 9 g1 (h:=cJ 10 g1 (h:=cJ 11 g1 (h:=cJ 12 g1 (h:=cJ 13 g1 (h:=af 14 g1 (h:=af 15 g1 (h:= ?_)))))))))));refine wpAnyH_done ak ?_ _;go_wp2_with fail;go_ret;exact⟨by rw[HF.out];rfl,aO IJ.out g1⟩
  | true=>
   have HF:Hid (R=sG d):=hdd (by rw[HV.out,Bool.true_and]);have afu:sG d=((aJ (a7 d):Int)==(d:Int)):=(by rw[HDB.out,Bool.eq_iff_iff];simp;omega);rw[afu]at HF;clear afu HDB;generalize aJ (a7 d)=D at*;go_upto_region 3 with fail;refine wp_region_held_drew (S:=fun w'=>Below (w.alloc BX).heap.size (w.alloc BX) w') ak bE (fun hS=> ?_);refine af 0 hS (h:=af 1 hS (h:=af 2 hS (h:=bq 3 P5.out hS (h:= ?_))));refine aG 4 (fun K hK=> ?_);go_simp;refine(HM.out (w.alloc BX).drew (hF.below hdw)).mono ?_;rintro e w1 ⟨rfl,aC⟩;have g1:Below (w.alloc BX).heap.size (w.alloc BX) w1:=aO bE aC;go_wp2_with fail;refine hK.out _ _ g1 (fun _=> ?_);clear hK K;refine af 5 g1 (h:=af 6 g1 (h:=af 7 g1 (h:=bq 8 F1.out g1 (h:=af 11 g1 (h:=bq 12 F1.out g1 (h:= ?_))))));refine aG 9 (fun K hK=> ?_);go_simp;refine(Om.out w1).mono ?_;rintro e w2 ⟨rfl,rfl⟩;go_wp2_with fail;refine hK.out _ _ g1 (fun _=> ?_);clear hK K;refine aG 10 (fun K hK=> ?_);go_simp;refine(LX.out w1).mono ?_;rintro e w2 ⟨rfl,rfl⟩;go_wp2_with fail;refine hK.out _ _ g1 (fun _=> ?_);clear hK K;refine af 13 g1 (h:=af 14 g1 (h:=af 15 g1 (h:= ?_)));refine wpAnyH_done ak ?_ _;go_wp2_with fail;go_ret;exact⟨by rw[HF.out];rfl,aO IJ.out g1⟩
def bg(n:Nat):Nat:=(4-n%4)%4
def km(b:List UInt8):List UInt8:=b++List.replicate (bg b.length) 0
def em(x:Int):List UInt8:=if x= -1 then []else Vl.put 9 x.toNat
def dk(f:bA):List UInt8:=(eE f).getD []
def lX(f:bA):List UInt8:=Vl.put 9 f.id.toNat++(Vl.put 9 (dk f).length++dk f)
def dc(l:List bA):List UInt8:=l.flatMap lX
def bm(d:Nat):bA:=⟨33,d⟩
def dp(h:el):Nat:=h.l.length+(if h.p= -1 then 0 else 64)+(if h.q= -1 then 0 else 128)
def fA(h:el):List UInt8:=em h.p++em h.q++dc (h.l++[bm h.d])
def bQ(h:el):List UInt8:=0::UInt8.ofNat (dp h)::fA h
def dB(h:el):List UInt8:=(km (bQ h)).set 0 (UInt8.ofNat ((km (bQ h)).length/4))
def eF(h:el):List UInt8:=dB h++lV (dB h)
theorem mP(l:List bA)(f:bA):dc (l++[f])=dc l++lX f:=by simp[dc]
def sH(f:bA):Prop:=f.ok∧0≤f.id∧f.id≤33∧eE f=some (dk f)∧(dk f).length≤4
theorem SJ(f:bA)(aR:f.ok)(h:cW f=true):sH f:=by
 have hid:f.id≠33:=by intro e;obtain⟨id,n⟩:=f;obtain rfl:id=33:=e;rw[Sw]at h;cases h
 have hb:eE f=if f.id=3 then some [UInt8.ofNat (f.n-1)]else if f.n=0 then some []else some (bytesOf true f.n):=by unfold eE;rw[if_neg hid,if_pos h]
 have hr:0≤f.id∧f.id≤33:=by
  rcases qw f h with⟨e,_⟩ | ⟨_,e,_⟩
  ·omega
  ·rcases e with e | e | e | e<;>omega
 refine⟨aR,hr.1,hr.2,?_,?_⟩
 ·unfold dk;rw[hb];split;·rfl
  ·split<;>rfl
 ·unfold dk;rw[hb];split;·simp
  ·split;·simp
   ·simp[bytesOf]
theorem Nj(d:Nat)(hd:d<4294967296)(h:sG d=true):sH (bm d):=by
 have h':aJ (a7 d)=d:=by simpa [sG]using h
 have hb:eE (bm d)=some [UInt8.ofNat (a7 d)]:=by unfold eE bm;rw[if_pos rfl,if_pos h']
 refine⟨⟨by show(-9223372036854775808:Int)≤33;omega,by show(33:Int)≤9223372036854775807;omega,hd⟩,by show(0:Int)≤33;omega,by show(33:Int)≤33;omega,?_,?_⟩;·unfold dk;rw[hb];rfl
 ·unfold dk;rw[hb];simp
theorem ox(h:el)(aR:h.ok)(hf: ∀f∈h.l,f.ok)(hv:gB h=true):(∀f∈h.l++[bm h.d],sH f)∧h.l.length≤3∧(h.p= -1∨1≤h.p)∧(h.q= -1∨0≤h.q):=by
 simp only[gB,qJ,jg,Bool.and_eq_true,Bool.or_eq_true,decide_eq_true_eq,List.all_eq_true]at hv;obtain⟨⟨⟨h1,h2⟩,h3,h4⟩,h5⟩:=hv;refine⟨fun f hm=> ?_,h3,h1,h2⟩;rcases List.mem_append.1 hm with hm | hm;·exact SJ f (hf f hm) (h4 f hm)
 ·obtain rfl:f=bm h.d:=by simpa using hm
  exact Nj _ aR.2.2.2.2 h5
theorem oy(f:bA)(h:sH f):(lX f).length≤24:=by have h1:=(Vl.cQ 9 f.id.toNat).2;have h2:=(Vl.cQ 9 (dk f).length).2;have h3:=h.2.2.2.2;simp only[lX,List.length_append];omega
theorem ix(l:List bA)(h: ∀f∈l,sH f):(dc l).length≤24*l.length:=by
 induction l with
 | nil=>simp[dc]
 | cons f l ih=>
  have h1:=oy f (h f ae);have h2:=ih (fun g hg=>h g (by simp[hg]));simp only[dc,List.flatMap_cons,List.length_append,List.length_cons]at h2 ⊢;omega
theorem fB(x:Int):(em x).length≤10:=by
 unfold em;split;·simp
 ·exact(Vl.cQ 9 _).2
theorem alZ(n:Nat)(h:n≤3):bits .or .u8 (n:Int) 64=((n+64:Nat):Int):=by
 match n,h with
 | 0,_=>rfl
 | 1,_=>rfl
 | 2,_=>rfl
 | 3,_=>rfl
theorem Kz(n:Nat)(h:n≤3):bits .or .u8 (n:Int) 128=((n+128:Nat):Int)∧bits .or .u8 ((n+64:Nat):Int) 128=((n+64+128:Nat):Int):=by
 match n,h with
 | 0,_=>exact⟨rfl,rfl⟩
 | 1,_=>exact⟨rfl,rfl⟩
 | 2,_=>exact⟨rfl,rfl⟩
 | 3,_=>exact⟨rfl,rfl⟩
def CE(bo base:Nat)(w1:World)(L:List UInt8)(wx:World):Prop:= ∃v,l6 bo wx v∧Own base wx v L∧Below base w1 wx
theorem CE.opened{a:UInt8}(h:CE bo base w1 (a::x::r) wx): ∃g c,l6 bo wx (.slice (some ⟨g,0,none⟩) (r.length+2) c)∧Own base wx (.slice (some ⟨g,0,none⟩) (r.length+2) c) (a::x::r)∧Below base w1 wx∧base≤g∧g≠bo∧
  wx.cell? ⟨g,1,none⟩=some (.int .u8 (x.toNat:Nat))∧wx.frozen? ⟨g,1,none⟩=false∧wx.frozen? ⟨g,0,none⟩=false∧r.length+2≤c∧c≤9223372036854775807∧wx.cell? ⟨g,0,none⟩=some (.int .u8 (a.toNat:Nat)):=by
 obtain⟨v,hx,ho,hb⟩:=h;obtain⟨g,c,rfl,h1,h2,h3,h4,h5,h6⟩:=ho.opened ae;refine⟨g,c,hx,ho,hb,h1,?_,h5 1 ae,h6 1,h6 0,by simpa using h3,h4,h5 0 ae⟩;intro e;exact hx.ne ho (by rw[e];rfl)
theorem l6.store{i:Nat}(h:l6 bo w v)(hg:g≠bo):l6 bo (w.setCell ⟨g,i,none⟩ u) v:=(ag _ _ _ _ (fun e=>hg e.symm)).trans h
theorem yn{a:UInt8}(hx:l6 bo wx (.slice (some ⟨g,0,none⟩) (r.length+2) c))(ho:Own base wx (.slice (some ⟨g,0,none⟩) (r.length+2) c) (a::x::r))(hb:Below base w1 wx)(hg:base≤g)(dr:g≠bo)(s:Nat)(hs:s<256):
  l6 bo (wx.setCell ⟨g,1,none⟩ (.int .u8 (s:Nat))) (.slice (some ⟨g,0,none⟩) (r.length+2) c)∧Own base (wx.setCell ⟨g,1,none⟩ (.int .u8 (s:Nat))) (.slice (some ⟨g,0,none⟩) (r.length+2) c) (a::UInt8.ofNat s::r)∧Below base w1 (wx.setCell ⟨g,1,none⟩ (.int .u8 (s:Nat))):=by
 have h:=ho.store 1 ae (UInt8.ofNat s);have e:((UInt8.ofNat s).toNat:Nat)=s:=k9;rw[e]at h;exact⟨hx.store dr,h,Below.setCell hb hg _⟩
def CF(bo:Nat)(w:World):Nat:=match w.cell? ⟨bo,0,none⟩with
 | some (.slice _ n _)=>n
 | _=>0
theorem l6.len(h:l6 bo w (.slice A n c)):CF bo w=n:=by unfold CF;rw[h.cell]
theorem Nk{a:UInt8}(hx:l6 bo wx (.slice (some ⟨g,0,none⟩) n c))(ho:Own base wx (.slice (some ⟨g,0,none⟩) n c) (a::r))(hb:Below base w1 wx)(hg:base≤g)(dr:g≠bo)(s:Nat)(hs:s<256):
  l6 bo (wx.setCell ⟨g,0,none⟩ (.int .u8 (s:Nat))) (.slice (some ⟨g,0,none⟩) n c)∧Own base (wx.setCell ⟨g,0,none⟩ (.int .u8 (s:Nat))) (.slice (some ⟨g,0,none⟩) n c) (UInt8.ofNat s::r)∧Below base w1 (wx.setCell ⟨g,0,none⟩ (.int .u8 (s:Nat))):=by
 have h:=ho.store 0 ae (UInt8.ofNat s);have e:((UInt8.ofNat s).toNat:Nat)=s:=k9;rw[e]at h;exact⟨hx.store dr,h,Below.setCell hb hg _⟩
theorem qK(qQ:o.guard=none)(s x:Operand)
  (ho:o.op= .call {callee:= .builtin .append,args:= #[s,x],argTypes:= #[22,22]})
  (base:Nat) (w:World) (v:Value) (xs:List UInt8) (hs:a.eval s=v) (aD:Own base w v xs) (A:Option Addr) (l:List UInt8) (c:Nat) (hx:a.eval x= .slice A l.length c) (hB:Bytes w A l)
  (dJ:xs.length+l.length≤140737488355328) (aT:base≤w.heap.size)
  (h: ∀v' w',Own base w' v' (xs++l)→w.grownBy w' v.ownBlock→K (a.put o.dst v') w'):if Region.wanted o (yielded ops a.tmps)=true then Oper.wp prog o a w K Q else K (a.put o.dst undef) w:=by
 rw[if_pos sU];obtain⟨v',w',hr,h2,h3⟩:=fI base o.type w v xs aD A l c hB dJ aT;unfold Oper.wp execOp;simp only[ho,resolve,invoke,builtin,Sem.run_bind,Sem.run_pure,Result.andThen_ok,List.map_toArray,List.map_cons,List.map_nil,hs,hx,hr];exact h v' w' h2 h3

end Go.Proofs.YtgfpocdiojifoaaGreatDoor
