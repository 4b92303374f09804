import Derived.Test.YtfcaoggfnkhfiaaGreatDoorZ16
import Derived.Deep.RegionHeld3
import Derived.OwnWalk
namespace Go.Proofs.YtfcaoggfnkhfiaaGreatDoor
set_option maxRecDepth 100000
set_option maxHeartbeats 8000000
open Go.RowKit Go.Proofs.Tryz
def gt(x y:UInt8):Int×Int:=if x=0/\cQ (y.toNat:Nat)=true then((y.toNat:Int),0)else(0,5)
theorem Bytes.part{w:Lo}{b off:Nat}{l:An}(h:Bytes w (some ⟨b,off,none⟩) l)(a n:Nat):Bytes w (some ⟨b,off+a,none⟩) (part l a n):=(Bytes.drop a h).take n
def dh(l:An):Int×Int:=
 if l.length<12 then(0,2)else if(part l 0 6==jB)=false then(0,3)else if(part l 8 4==eN 1 (part l 6 2))=false then(0,4)else gt (l.getD 6 0) (l.getD 7 0)
def di(l:An):Int×Int×Int:=
 if l.length<12 then(0,0,2)else if(part l 10 2==[89,90])=false then(0,0,3)else if(part l 0 4==eN 1 (part l 4 6))=false then(0,0,4)
 else if(gt (l.getD 8 0) (l.getD 9 0)).2≠0 then(0,0,(gt (l.getD 8 0) (l.getD 9 0)).2)else((gt (l.getD 8 0) (l.getD 9 0)).1,4*(GO (part l 4 4):Int)+4,0)
theorem KN(l:An)(a n i:Nat)(h:i<(part l a n).length):(part l a n)[i]=l.getD (a+i) 0:=by
 unfold part at h ⊢;have h2:a+i<l.length:=by rw[eZ,fZ]at h;omega
 rw[List.getElem_take,List.getElem_drop];simp[List.getD,h2]
theorem KO(l:An)(a:Nat)(h:a+2<=l.length):part l a 2=[l.getD a 0,l.getD (a+1) 0]:=by
 have hl:=fC l a 2 h;refine List.ext_getElem (by rw[hl];rfl) λi h1 h2=> ?_;rw[KN];match i,h2 with
 | 0,_|1,_=>rfl
theorem Td(l:An)(a:Nat)(h:a+4<=l.length):part l a 4=[l.getD a 0,l.getD (a+1) 0,l.getD (a+2) 0,l.getD (a+3) 0]:=by
 have hl:=fC l a 4 h;refine List.ext_getElem (by rw[hl];rfl) λi h1 h2=> ?_;rw[KN];match i,h2 with
 | 0,_|1,_|2,_|3,_=>rfl
theorem tV(A:As)(x y:UInt8)(c:Nat)(w:Lo)(hB:Bytes w A [x,y]):Calls prog 93 #[.slice A 2 c] w λe w'=>e= .returned (.tuple #[.int .i64 (gt x y).1,.int .i64 (gt x y).2])/\Below w.heap.size w w':=by
 obtain⟨b,off,rfl,aV,hcell⟩:=hB.addr ah;have k0:w.cell? ⟨b,off+0,none⟩=some (B8 x):=hcell 0 ah;have k1:w.cell? ⟨b,off+1,none⟩=some (B8 y):=hcell 1 ah;rw[Nat.add_zero]at k0;have hy:=y.toNat_lt;have C_:(y.toNat:Int)<256:=aa;have hy0:0<=(y.toNat:Int):=aa;have HF:=ae (mM (y.toNat:Nat) w);have xj:gt x y=if x=0/\cQ (y.toNat:Nat)=true then((y.toNat:Int),0)else(0,5):=rfl;clear hcell hB;by_cases hx:x=0
 ·subst hx;cases hf:cQ (y.toNat:Nat)with
  | true=>
   have hr:gt 0 y=((y.toNat:Int),0):=(by rw[xj,ax ⟨rfl,hf⟩]);rw[hf]at HF;rw[hr];clear hr xj hf;have k0':w.cell? ⟨b,off,none⟩=some (.int .u8 0):=k0;clear k0;go_enter func93,ntmps93;go_wp2_with fail;refine HF.mono ?_;rintro e w1 ⟨rfl,aI⟩;go_wp2;go_ret2;exact⟨rfl,aI⟩
  | false=>
   have hr:gt 0 y=(0,5):=(by rw[xj,au (by rw[hf];simp)]);rw[hf]at HF;rw[hr];clear hr xj hf;have k0':w.cell? ⟨b,off,none⟩=some (.int .u8 0):=k0;clear k0;go_enter func93,ntmps93;go_wp2_with fail;refine HF.mono ?_;rintro e w1 ⟨rfl,aI⟩;go_wp2;go_ret2;exact⟨rfl,aI⟩
 ·have hr:gt x y=(0,5):=by rw[xj,au (λh=>hx h.1)]
  rw[hr];have uX:(x.toNat:Int)≠0:=λh=>hx (UInt8.toNat_inj.1 qH);have hxb:((x.toNat:Int)==0)=false:=by simpa using uX
  clear hr xj hx;go_enter func93,ntmps93;go_wp2;go_ret2;exact⟨rfl,aP _ _⟩
def mask(i:Nat):UInt8:=UInt8.ofNat (2^(i%8))
def turn(L:An)(i:Nat):List UInt8:=L.set (i/8) (L.getD (i/8) 0 ^^^ mask i)
theorem Yw(b:UInt8)(h:cQ (b.toNat:Nat)=true):b∈([0,1,4,10]:An):=by
 have e: ∀k:UInt8,(b.toNat:Int)=(k.toNat:Nat)->b=k:=λk h=>UInt8.toNat_inj.1 aa;simp only[cQ,Bool.or_eq_true,beq_iff_eq]at h;simp only[dc,fM,or_false];rcases h with((h|h)|h)|h;·exact .inl (e 0 h)
 ·exact .inr (.inl (e 1 h))
 ·exact .inr (.inr (.inl (e 4 h)))
 ·exact .inr (.inr (.inr (e 10 h)))
theorem D6: ∀b∈([0,1,4,10]:An),dh (jh b)=(((b.toNat:Nat):Int),0)/\ ∀i<96,(dh (turn (jh b) i)).2≠0:=m9
theorem Te(b:UInt8)(h:cQ (b.toNat:Nat)=true):dh (jh b)=((b.toNat:Int),0):=(D6 b (Yw b h)).1
theorem Tf(n:Nat): ∀v,GO (gG v n)=v%256^n:=by
 induction n with
 | zero=>intro v;simp[gG,GO];omega
 | succ n ih=>
  intro v;simp only[gG,GO,ih,fN];rw[show 256^(n+1)=256*256^n from by rw[cS,dR],Nat.mod_mul];omega
theorem Ot(S B M:An)(n:Nat)(h:S.length=n):part (S++B++M) 0 n=S:=by unfold part;rw[List.drop_zero,eY,List.take_append_of_le_length aa,<-h,List.take_length]
theorem KP(S B M:An)(a n:Nat)(hS:S.length=a)(hB:B.length=n):part (S++B++M) a n=B:=by unfold part;subst hS;subst hB;rw[eY,List.drop_left,List.take_left]
theorem Tg(S B M:An)(a n:Nat)(hS:S.length+B.length=a)(hM:M.length=n):part (S++B++M) a n=M:=by unfold part;subst hM;rw[<-hS,<-aG,List.drop_left,List.take_length]
theorem Th(b:UInt8)(n:Nat)(hn:n<4294967296)(h:cQ (b.toNat:Nat)=true):di (iw b n)=((b.toNat:Int),4*(n:Int)+4,0):=by
 have hB:=l9 b n;have hS:=fH (ke b n);have hl:=fw 4 n;have e8:(iw b n).getD 8 0=0:=by simp[iw,ke,List.getD,fH,hl]
 have e9:(iw b n).getD 9 0=b:=by simp[iw,ke,List.getD,fH,hl]
 have e44:part (iw b n) 4 4=gG n 4:=by
  have:iw b n=eN 1 (ke b n)++gG n 4++([0,b]++[89,90]):=by simp[iw,ke]
  rw[this,KP _ _ _ 4 4 hS hl]
 have hf:gt 0 b=((b.toNat:Int),0):=by unfold gt;rw[ax ⟨rfl,h⟩]
 unfold di;rw[au (by rw[eO];omega),e8,e9,e44,hf,Tf];unfold iw;rw[Tg _ _ _ 10 2 aa rfl,Ot _ _ _ 4 hS,KP _ _ _ 4 6 hS hB];rw[au ah,au ah,au ah];have:(n:Nat)%256^4=n:=mY aa;rw[this]

theorem amx(a b c d:UInt8):
  bits .or .u32 (bits .or .u32 (bits .or .u32 (IntKind.u32.wrap (a.toNat:Int)) (IntKind.u32.wrap (IntKind.u32.wrap (b.toNat:Int)*256))) (IntKind.u32.wrap (IntKind.u32.wrap (c.toNat:Int)*65536))) (IntKind.u32.wrap (IntKind.u32.wrap (d.toNat:Int)*16777216))=((a.toNat+256*(b.toNat+256*(c.toNat+256*d.toNat)):Nat):Int):=by
 have h1:=a.toNat_lt;have h2:=b.toNat_lt;have h3:=c.toNat_lt;have h4:=d.toNat_lt;generalize a.toNat=a at*;generalize b.toNat=b at*;generalize c.toNat=c at*;generalize d.toNat=d at*;have w0: ∀x:Nat,x<256->IntKind.u32.wrap (x:Int)=(x:Int):=λx hx=>kA;rw[w0 a aa,w0 b aa,w0 c aa,w0 d aa];have e1:IntKind.u32.wrap ((b:Int)*256)=((b*2^8:Nat):Int):=kA;have e2:IntKind.u32.wrap ((c:Int)*65536)=((c*2^16:Nat):Int):=kA;have e3:IntKind.u32.wrap ((d:Int)*16777216)=((d*2^24:Nat):Int):=kA;have o1:a ||| b*2^8=b*2^8+a:=by rw[Nat.or_comm];exact mv _ _ 8 aa
 have o2:(b*2^8+a) ||| c*2^16=c*2^16+(b*2^8+a):=by rw[Nat.or_comm];exact mv _ _ 16 aa
 have o3:(c*2^16+(b*2^8+a)) ||| d*2^24=d*2^24+(c*2^16+(b*2^8+a)):=by rw[Nat.or_comm];exact mv _ _ 24 aa
 rw[e1,e2,e3,u32_or_nat _ _ aa aa,o1,u32_or_nat _ _ aa aa,o2,u32_or_nat _ _ aa aa,o3];omega
theorem YS{k k1 k2:IntKind}{a b c b':Int}(h:b=b'):Ending.returned (.tuple #[.int k a,.int k1 b,.int k2 c])= .returned (.tuple #[.int k a,.int k1 b',.int k2 c]):=by rw[h]
end Go.Proofs.YtfcaoggfnkhfiaaGreatDoor
