import Derived.Test.YtgfpocdiojifoaaGreatDoorZ42
namespace Go.Proofs.YtgfpocdiojifoaaGreatDoor
set_option maxRecDepth 100000
set_option maxHeartbeats 8000000
open Go.RowKit
theorem P9{B:List UInt8}{pos p:Nat}{s t:jy}(h:iP B pos s= .go p t):pos≤p:=by
 unfold iP at h
 split at h
 ·cases h
 ·split at h
  ·cases h
  ·injection h with h1 _;omega
theorem MI{L:List UInt8}{size:Nat}{dict:Int}{pos p:Nat}{s t:jy}(h:fC L size dict pos s= .go p t):p=pos:=by
 unfold fC at h
 split at h
 ·cases h
 ·split at h
  ·cases h
  ·unfold qO at h
   split at h
   ·cases h
   ·split at h
    ·injection h with h1 _;exact h1.symm
    ·cases h
theorem Ho{x:yN}{f:Nat→jy→yN}{p:Nat}{t:jy}(h:x.then f= .go p t): ∃q s,x= .go q s∧f q s= .go p t:=by
 cases x with
 | bad n=>cases h
 | go q s=>exact⟨q,s,rfl,h⟩
theorem EH{x:yN}{f:Nat→jy→yN}{n:Nat}(h:x.then f= .bad n):x= .bad n∨ ∃q s,x= .go q s∧f q s= .bad n:=by
 cases x with
 | bad m=>exact .inl h
 | go q s=>exact .inr ⟨q,s,rfl,h⟩
theorem Qa{c:Nat}{B:List UInt8}{pos p:Nat}{s t:jy}(h:fG c B pos s= .go p t):pos≤p:=by
 unfold fG at h
 split at h
 ·injection h with h1 _;omega
 ·split at h
  ·cases h
  ·injection h with h1 _;omega
theorem ZV{c pos p:Nat}{s t:jy}(h:gV c pos s= .go p t):pos≤p:=by
 unfold gV at h
 split at h
 ·injection h with h1 _;omega
 ·split at h
  ·cases h
  ·injection h with h1 _;omega
theorem Qb{B:List UInt8}{many size:Nat}{dict:Int}{pos p:Nat}{s t:jy}(h:dA B many size dict pos s= .go p t):pos≤p:=by
 unfold dA at h
 split at h
 ·cases h
 ·have:=MI h;omega
theorem Qc{B:List UInt8}{dict:Int}{c pos p:Nat}{s t:jy}(h:bI B dict c pos s= .go p t):pos≤p:=by
 unfold bI aW at h
 split at h
 ·cases h
 ·split at h
  ·exact P9 h
  ·split at h
   ·cases h
   ·unfold jE at h
    split at h
    ·cases h
    ·obtain⟨q,x,h1,h2⟩:=Ho h
     obtain⟨q',x',h3,h4⟩:=Ho h1
     have a1:=Qa h3
     have a2:=ZV h4
     have a3:=Qb h2
     omega
theorem MJ{B:List UInt8}{dict:Int}{c pos n:Nat}{s:jy}(h:bI B dict c pos s= .bad n):n=2∨n=6:=by
 have AV: ∀{m:Nat},yN.bad m= .bad n→m=2∨m=6→n=2∨n=6:=fun h hm=>by injection h with h;omega
 unfold bI aW at h
 split at h
 ·exact AV h (.inr rfl)
 ·split at h
  ·unfold iP at h
   split at h
   ·exact AV h (.inl rfl)
   ·split at h
    ·exact AV h (.inl rfl)
    ·cases h
  ·split at h
   ·exact AV h (.inr rfl)
   ·unfold jE at h
    split at h
    ·exact AV h (.inl rfl)
    ·rcases EH h with h | ⟨q,x,_,h⟩
     ·rcases EH h with h | ⟨q,x,_,h⟩
      ·unfold fG at h
       split at h
       ·cases h
       ·split at h
        ·exact AV h (.inl rfl)
        ·cases h
      ·unfold gV at h
       split at h
       ·cases h
       ·split at h
        ·exact AV h (.inr rfl)
        ·cases h
     ·unfold dA at h
      split at h
      ·exact AV h (.inl rfl)
      ·unfold fC at h
       split at h
       ·exact AV h (.inr rfl)
       ·split at h
        ·exact AV h (.inr rfl)
        ·unfold qO at h
         split at h
         ·exact AV h (.inr rfl)
         ·split at h
          ·cases h
          ·exact AV h (.inr rfl)
def lK(w:World)(res:List UInt8×Nat×Nat)(e:Ending)(w':World):Prop:=
 ∃A c,e= .returned (.tuple #[.slice A res.1.length c,.int .i64 (res.2.1:Nat),.int .i64 (res.2.2:Nat)])∧(res.1.length≤c∧c≤9223372036854775807)∧Bytes w' A res.1∧Below w.heap.size w w'
theorem lK.bad{w w':World}{n:Nat}(h:Below w.heap.size w w'):lK w ([],0,n) (.returned (.tuple #[.slice none 0 0,.int .i64 0,.int .i64 (n:Nat)])) w':=
 ⟨none,0,rfl,⟨Nat.le_refl _,by decide⟩,.nil,h⟩
theorem Qd(A:Option Addr)(B:List UInt8)(c:Nat)(dict:Int)(w:World)(hB:Bytes w A B)(hA: ∀a,A=some a→a.block<w.heap.size)(hc:B.length≤c)(hm:c≤9223372036854775807)(hl:B.length≤1000000000)(hd1:1≤dict)(hd2:dict≤9223372036854775807){fuel:Nat}(hf:B.length<fuel)(hsh:jl B dict fuel 0 Rj):
  Calls Tryz.prog 66 #[.slice A B.length c,.int .i64 dict] w (lK w (bF B dict fuel 0 Rj)):=by
 obtain⟨RES,sU⟩: ∃R,bF B dict fuel 0 Rj=R:=⟨_,rfl⟩
 rw[sU]
 obtain⟨W,hW⟩: ∃W,((w.alloc (.cells #[.slice A B.length c] 22)).alloc (.cells #[.int .i64 0] 3)).alloc (.cells #[.int .i64 dict,.slice none 0 0,.int .i64 0,.bool false,.bool false,.int .i64 0,.int .i64 0,.int .i64 0,.pointer none] 183)=W:=⟨_,rfl⟩
 obtain⟨bb,hbb⟩: ∃n,w.heap.size=n:=⟨_,rfl⟩
 obtain⟨ab,hab⟩: ∃n,w.heap.size+1=n:=⟨_,rfl⟩
 obtain⟨R,hR⟩: ∃n,w.heap.size+1+1=n:=⟨_,rfl⟩
 have hk0:Uk ⟨w.heap.size,w,bb,ab,R,A,B,c,dict⟩ W 0 Rj:=by
  subst hbb;subst hab;subst hR
  have hb1:Below w.heap.size w (w.alloc (.cells #[.slice A B.length c] 22)):=(Below.refl _ _).alloc (Nat.le_refl _) _
  have hb2:=hb1.alloc hb1.size (.cells #[.int .i64 0] 3)
  have hb3:=hb2.alloc hb2.size (.cells #[.int .i64 dict,.slice none 0 0,.int .i64 0,.bool false,.bool false,.int .i64 0,.int .i64 0,.int .i64 0,.pointer none] 183)
  rw[hW]at hb3
  refine⟨.pointer none,⟨?_,?_,⟨.slice none 0 0,?_,Own.nil _ _⟩,⟨Nat.le_refl _,by show w.heap.size≤w.heap.size+1;omega,by show w.heap.size≤w.heap.size+1+1;omega⟩,⟨hB.below hb3,hA⟩,⟨hc,hm,by show B.length≤_;omega,Nat.zero_le _,Nat.le_refl _⟩,hb3,Nat.le_refl _⟩,fun h _=>by cases h⟩
  ·rw[←hW]
   refine(Below.heap_alloc _ _ _ (by simp;omega)).trans ((Below.heap_alloc _ _ _ (by simp)).trans (heap_alloc_last _ _))
  ·rw[←hW]
   have e:(w.alloc (.cells #[.slice A B.length c] 22)).heap.size=w.heap.size+1:=by simp
   refine(Below.heap_alloc _ _ _ (by simp)).trans ?_
   show((w.alloc (.cells #[.slice A B.length c] 22)).alloc (.cells #[.int .i64 0] 3)).heap[w.heap.size+1]? =_
   rw[←e];exact heap_alloc_last _ _
  ·rw[←hW]
   have e:((w.alloc (.cells #[.slice A B.length c] 22)).alloc (.cells #[.int .i64 0] 3)).heap.size=w.heap.size+1+1:=by simp
   show(((w.alloc (.cells #[.slice A B.length c] 22)).alloc (.cells #[.int .i64 0] 3)).alloc _).heap[w.heap.size+1+1]? =_
   rw[←e];exact heap_alloc_last _ _
 have HK0:=Lib.hid hk0
 have HW:=Lib.hid hW
 have ZW:=Lib.hid (And.intro hbb (And.intro hab hR))
 have HD:=Lib.hid (And.intro hd1 hd2)
 have HF:=Lib.hid (And.intro hf (And.intro hsh sU))
 have hdb:decide (dict<1)=false:=decide_eq_false (by omega)
 clear hbb hab hR hk0 hW hd1 hd2 hf hsh sU hB hA hc hm hl
 go_enter Tryz.func66,Tryz.ntmps66
 go_wp2_with fail
 rw[HW.out,ZW.out.2.2,ZW.out.2.1,ZW.out.1]
 go_loopg [] fuel (fun gk wr=> ∃(pos:Nat) (s:jy),Hid (Uk ⟨w.heap.size,w,bb,ab,R,A,B,c,dict⟩ wr pos s)∧Hid (B.length<pos+gk∧jl B dict gk pos s∧bF B dict gk pos s=RES))
 case atStart=>exact⟨0,Rj,HK0,Lib.hid ⟨by have:=HF.out.1;omega,HF.out.2⟩⟩
 case round=>
  obtain⟨pos,s,HK,HT⟩:=hrel
  cases gk with
  | zero=>
   obtain⟨cv,hU,_⟩:=HK.out
   have h1:=HT.out.1
   have h2:pos≤B.length:=hU.nums.2.2.2.1
   omega
  | succ gk=>
   by_cases h1:B.length<pos+1
   ·have hres:([],0,2)=RES:=by have h:=HT.out.2.2;unfold bF at h;rw[if_pos h1]at h;exact h
    have HR:=Lib.hid hres
    have HN:Hid (Calls Tryz.prog 113 #[.int .i64 1,PF bb,PF ab] wr (zK wr)):=Lib.hid (kW (n:=1) HK.out (by decide) h1)
    clear hres h1
    go_wp2_with fail
    refine HN.out.mono ?_
    rintro e w1 ⟨rfl,rfl⟩
    go_wp2_with fail
    go_ret3
    rw[←HR.out]
    exact lK.bad HK.out.below
   ·have HN:Hid (Calls Tryz.prog 113 #[.int .i64 1,PF bb,PF ab] wr _):=Lib.hid (mF (n:=1) HK.out (by decide) (by show pos+1≤B.length;omega))
    obtain⟨x,hx⟩: ∃x,B.getD pos 0=x:=⟨_,rfl⟩
    have hxl:x.toNat<256:=x.toNat_lt
    have hxi:(x.toNat:Int)<256:=by omega
    have HX:=Lib.hid (And.intro h1 (And.intro hx hxl))
    clear hx hxl
    go_wp2_with fail
    refine HN.out.mono ?_
    rintro e w1 ⟨A1,c1,rfl,hc1,⟨hB1,_⟩,hK1⟩
    have hl1:((B.drop pos).take 1).length=1:=by simp;omega
    obtain⟨b,off,rfl,hb,hcs⟩:=hB1.addr (show 0<((B.drop pos).take 1).length by omega)
    have k0:=hcs 0 (show 0<((B.drop pos).take 1).length by omega)
    have e0:((B.drop pos).take 1)[0]=x:=by
     rw[←HX.out.2.1]
     simp[List.getElem_take,List.getD_eq_getElem?_getD,List.getElem?_eq_getElem (show pos<B.length by omega)]
    have k1:w1.cell? ⟨b,off,none⟩=some (.int .u8 (x.toNat:Nat)):=by rw[Nat.add_zero]at k0;rw[k0];exact congrArg (fun z:UInt8=>some (B8 z)) e0
    have Jz:=Lib.hid hK1
    clear hc1 hB1 hK1 hl1 hcs k0 e0 hb h1
    by_cases hx0:x.toNat=0
    ·have hres:(s.out,pos+1,0)=RES:=by have h:=HT.out.2.2;unfold bF at h;rw[if_neg HX.out.1,HX.out.2.1,if_pos hx0]at h;exact h
     have HR:=Lib.hid hres
     have anV:((x.toNat:Int)==0)=true:=by rw[hx0];rfl
     have anW:(x.toNat:Int)=0:=by omega
     obtain⟨cv,hU,_⟩:=Jz.out
     obtain⟨v,⟨_,r1,_,_,_,_,_,_,_⟩,hov,_⟩:=hU.cells
     obtain⟨AO,cO,rfl,hcO,hmO,hBO⟩:=hov.read
     obtain⟨_,q1,_,_⟩:=hU.boxes
     have HU:=Lib.hid (And.intro hU.below (And.intro hBO (And.intro hcO hmO)))
     clear hres hU hov hcO hmO hBO hx0
     go_wp2_with fail
     go_quiet (fail)
     go_wp2_with fail
     go_ret3
     rw[←HR.out]
     exact⟨AO,cO,rfl,HU.out.2.2,HU.out.2.1,below_drewN HU.out.1 _⟩
    ·have anV:((x.toNat:Int)==0)=false:=beq_eq_false_iff_ne.2 (by omega)
     have anW: ¬(x.toNat:Int)=0:=by omega
     have hsh:=HT.out.2.1
     have hun:=HT.out.2.2
     unfold jl at hsh
     unfold bF at hun
     rw[if_neg HX.out.1,HX.out.2.1,if_neg hx0]at hun
     have hsh2:=hsh.2 (by have:=HX.out.1;omega) (by rw[HX.out.2.1];exact hx0)
     rw[HX.out.2.1]at hsh2
     have hch:Calls Tryz.prog 114 #[PF R,.int .u8 (x.toNat:Nat),.func (.func 113) #[] #[PF bb,PF ab]] w1 (um ⟨w.heap.size,w,bb,ab,R,A,B,c,dict⟩ (bI B dict x.toNat (pos+1) s)):=MH Jz.out x.toNat (by omega) HX.out.2.2 hsh.1 HD.out.1 HD.out.2
     cases hck:bI B dict x.toNat (pos+1) s with
     | bad n=>
      rw[hck]at hun hch
      have hn:=MJ hck
      have hni: ¬(n:Int)=0:=by omega
      have hnb:((n:Int)==0)=false:=beq_eq_false_iff_ne.2 hni
      have atO:((n:Int) !=0)=true:=by rw[bne_iff_ne];exact hni
      have HR:Hid (([],0,n)=RES):=Lib.hid hun
      have Kr:=Lib.hid hch
      clear hun hch hsh hsh2 hck hn hx0
      go_wp2_with fail
      refine Kr.out.mono ?_
      rintro e w2 ⟨rfl,hb2⟩
      have HB2:=Lib.hid hb2
      clear hb2
      go_wp2_with fail
      go_ret3
      rw[←HR.out]
      exact lK.bad HB2.out
     | go p t=>
      rw[hck]at hun hch hsh2
      have hp:=Qc hck
      have Kr:=Lib.hid hch
      have HT2:Hid (B.length<p+gk∧jl B dict gk p t∧bF B dict gk p t=RES):=Lib.hid ⟨by have:=HT.out.1;omega,hsh2,hun⟩
      clear hun hch hsh hsh2 hck hp hx0
      go_wp2_with fail
      refine Kr.out.mono ?_
      rintro e w2 ⟨rfl,hk2⟩
      have HK2:=Lib.hid hk2
      clear hk2
      go_wp2_with fail
      go_roundg gk
      case measure=>omega
      case rel=>exact⟨p,t,HK2,HT2⟩
theorem uw(pre X rest:List UInt8){i:Nat}(h:i<X.length):(pre++(X++rest)).getD (pre.length+i) 0=X.getD i 0:=by
 simp only[List.getD_eq_getElem?_getD]
 rw[List.getElem?_append_right (by omega),show pre.length+i-pre.length=i by omega,List.getElem?_append_left h]
theorem Rn(pre X rest:List UInt8){i n:Nat}(h:i+n≤X.length):((pre++(X++rest)).drop (pre.length+i)).take n=(X.drop i).take n:=by
 rw[←List.drop_drop,List.drop_append_of_le_length (Nat.le_refl _),List.drop_length,List.nil_append,List.drop_append_of_le_length (by omega),List.take_append_of_le_length (by rw[List.length_drop];omega)]
theorem Jp(pre X rest:List UInt8){i:Nat}(h:i+1<X.length):dI (pre++(X++rest)) (pre.length+i)=dI X i:=by
 unfold dI
 rw[uw pre X rest (by omega),show pre.length+i+1=pre.length+(i+1) by omega,uw pre X rest h]
theorem EI{n:Nat}(h:n<65536)(x y:UInt8)(hx:x=UInt8.ofNat (n/256))(hy:y=UInt8.ofNat n):256*x.toNat+y.toNat=n:=by
 subst hx hy
 simp only[UInt8.toNat_ofNat']
 omega
structure yJ(k:jv)(a:Nat)(z:iq×Bool)(s:jy):Prop where
 out:s.out=k.D.take a
 start:s.start=0
 first:a=0→z=(none,false)
 later:a≠0→s.clear=true∧s.asked= !z.2
 props:z.2=true→s.lc=k.lc∧s.lp=k.lp∧s.pb=k.pb
 VB: ∀c,z.1=some c→z.2=true∧MB c∧s.st=c.1∧s.r=c.2.1∧s.P=c.2.2
structure Hq(k:jv):Prop where
 perm:k.lc≤4∧k.lp≤4∧k.pb≤4∧k.lc+k.lp≤4
 nice:k.nice≤273
 dict:1≤k.dict
 len:k.D.length≤100000
theorem acU(D:List UInt8){a b:Nat}(h:a≤b):D.take a++(D.drop a).take (b-a)=D.take b:=by
 rw[←List.take_add,show a+(b-a)=b by omega]
theorem U2:MB wB:=⟨by decide,⟨⟨by decide,by decide,by decide,by decide⟩,by decide,by decide,by decide,by decide⟩,fun _=>⟨show 1≤1024 by decide,show 1024≤2047 by decide⟩⟩
theorem Qe{k:jv}{a b:Nat}{z:iq×Bool}{s:jy}{dict:Int}(hab:a<b)(hb:b≤k.D.length)(h16:b-a≤65536)(hr:yJ k a z s)(pre rest:List UInt8):
  ∃c s',(pre++(fF k.D a b++rest)).getD pre.length 0=c∧c.toNat≠0∧bI (pre++(fF k.D a b++rest)) dict c.toNat (pre.length+1) s= .go (pre.length+(fF k.D a b).length) s'∧yJ k b (none,z.2) s':=by
 obtain⟨X,hX⟩: ∃X,fF k.D a b=X:=⟨_,rfl⟩
 have hlen:X.length=b-a+3:=by rw[←hX];exact sW hab hb
 obtain⟨c,hc⟩: ∃c:UInt8,(if a=0 then 1 else 2)=c:=⟨_,rfl⟩
 have hX':X=c::UInt8.ofNat ((b-a-1)/256)::UInt8.ofNat (b-a-1)::(k.D.drop a).take (b-a):=by rw[←hX,←hc];rfl
 rw[hX]
 have hB:(pre++(X++rest)).length=pre.length+(X.length+rest.length):=by simp
 have g0:(pre++(X++rest)).getD pre.length 0=c:=by
  have:=uw pre X rest (i:=0) (by omega)
  rw[Nat.add_zero]at this
  rw[this,hX'];rfl
 have g1:dI (pre++(X++rest)) (pre.length+1)=b-a-1:=by
  rw[Jp pre X rest (by omega),hX']
  exact EI (by omega) _ _ rfl rfl
 have g2:((pre++(X++rest)).drop (pre.length+3)).take (b-a)=(k.D.drop a).take (b-a):=by
  rw[Rn pre X rest (by omega),hX']
  show((k.D.drop a).take (b-a)).take (b-a)=_
  rw[List.take_take,Nat.min_self]
 generalize pre++(X++rest)=B at*
 have hst: ∀s1:jy,s1.clear=true→s1.out=k.D.take a→aW B dict c.toNat (pre.length+1) s1= .go (pre.length+X.length) {s1 with out:=k.D.take b}:=by
  intro s1 h1 h2
  have hc2:c.toNat=1∨c.toNat=2:=by
   rw[←hc]
   by_cases h0:a=0
   ·rw[if_pos h0];exact .inl rfl
   ·rw[if_neg h0];exact .inr rfl
  unfold aW
  rw[if_neg (Ar h1 (by omega)),if_pos (by omega)]
  unfold iP
  rw[if_neg (by omega),g1,if_neg (by omega),show pre.length+1+2=pre.length+3 by omega,show b-a-1+1=b-a by omega,g2,h2,acU k.D (by omega)]
  rw[show pre.length+3+(b-a)=pre.length+X.length by omega]
 by_cases h0:a=0
 ·have hc1:c.toNat=1:=by rw[←hc,if_pos h0];rfl
  refine⟨c,{s with start:=s.out.length,clear:=true,asked:=true,out:=k.D.take b},g0,by omega,?_,?_⟩
  ·unfold bI unclear
   rw[if_pos (.inl hc1)]
   exact hst _ rfl hr.out
  ·have hz:=hr.first h0
   refine⟨rfl,?_,fun h=>by omega,fun _=>⟨rfl,?_⟩,fun h=> ?_,fun c h=>by cases h⟩
   ·show s.out.length=0
    rw[hr.out,h0];rfl
   ·show true= !z.2
    rw[hz];rfl
   ·rw[hz]at h;cases h
 ·have hc1:c.toNat=2:=by rw[←hc,if_neg h0];rfl
  refine⟨c,{s with out:=k.D.take b},g0,by omega,?_,?_⟩
  ·unfold bI unclear
   rw[if_neg (by omega)]
   exact hst s (hr.later h0).1 hr.out
  ·exact⟨rfl,hr.start,fun h=>by omega,fun _=>hr.later h0,hr.props,fun c h=>by cases h⟩
theorem MK{k:jv}{a b:Nat}{z:iq×Bool}{s:jy}{dict:Int}(hk:Hq k)(hd:(k.dict:Int)≤dict)(hab:a<b)(hb:b≤k.D.length)(h16:b-a≤65536)(ajE:(codeOf k a b (dV z.1)).1.length≤65536)(hr:yJ k a z s)(pre rest:List UInt8):
  ∃c s',(pre++(cZ k a b z.1 z.2 (codeOf k a b (dV z.1)).1++rest)).getD pre.length 0=c∧c.toNat≠0∧bI (pre++(cZ k a b z.1 z.2 (codeOf k a b (dV z.1)).1++rest)) dict c.toNat (pre.length+1) s= .go (pre.length+(cZ k a b z.1 z.2 (codeOf k a b (dV z.1)).1).length) s'∧yJ k b (some (codeOf k a b (dV z.1)).2,true) s':=by
 have anX:MB (dV z.1):=by
  cases hz:z.1 with
  | none=>exact U2
  | some c=>exact(hr.VB c hz).2.1
 obtain⟨h5,hz0,hok2,y,hy1,hy2,hread⟩:=UU (k:=k) (dict:=dict) hab hb hk.len hk.dict hk.nice hd anX
 obtain⟨⟨L,c2⟩,hcode⟩: ∃r,codeOf k a b (dV z.1)=r:=⟨_,rfl⟩
 rw[hcode]at h5 hz0 hok2 hy1 hy2 hread ajE ⊢
 simp only at h5 hz0 hok2 hy1 hy2 hread ajE ⊢
 obtain⟨c,hc⟩: ∃c,uV a z.2 z.1=c:=⟨_,rfl⟩
 obtain⟨pp,hpp⟩: ∃p,(if 192≤c then [sS k]else [])=p:=⟨_,rfl⟩
 obtain⟨X,hX⟩: ∃X,cZ k a b z.1 z.2 L=X:=⟨_,rfl⟩
 have hX':X=c::UInt8.ofNat ((b-a-1)/256)::UInt8.ofNat (b-a-1)::UInt8.ofNat ((L.length-1)/256)::UInt8.ofNat (L.length-1)::(pp++L):=by
  rw[←hX,←hpp,←hc]
  unfold cZ
  simp only[yZ,List.cons_append,List.nil_append]
 have hlen:X.length=5+(pp.length+L.length):=by rw[hX'];simp;omega
 rw[hX]
 have hB:(pre++(X++rest)).length=pre.length+(X.length+rest.length):=by simp
 have g0:(pre++(X++rest)).getD pre.length 0=c:=by
  have:=uw pre X rest (i:=0) (by omega)
  rw[Nat.add_zero]at this
  rw[this,hX'];rfl
 have g1:dI (pre++(X++rest)) (pre.length+1)=b-a-1:=by
  rw[Jp pre X rest (by omega),hX']
  exact EI (by omega) _ _ rfl rfl
 have g3:dI (pre++(X++rest)) (pre.length+3)=L.length-1:=by
  rw[Jp pre X rest (by omega),hX']
  exact EI (by omega) _ _ rfl rfl
 have g5:pp=[sS k]→(pre++(X++rest)).getD (pre.length+5) 0=sS k:=by
  intro h
  rw[uw pre X rest (by rw[hlen];omega),hX',h];rfl
 have g6:((pre++(X++rest)).drop (pre.length+(5+pp.length))).take L.length=L:=by
  rw[Rn pre X rest (by omega),hX']
  have e:(c::UInt8.ofNat ((b-a-1)/256)::UInt8.ofNat (b-a-1)::UInt8.ofNat ((L.length-1)/256)::UInt8.ofNat (L.length-1)::(pp++L)).drop (5+pp.length)=L:=by
   rw[Nat.add_comm]
   show(pp++L).drop pp.length=L
   rw[List.drop_append_of_le_length (Nat.le_refl _),List.drop_length,List.nil_append]
  rw[e,List.take_of_length_le (Nat.le_refl _)]
 generalize pre++(X++rest)=B at*
 have hdec: ∀s2:jy,s2.out=k.D.take a→s2.start=0→s2.lc=k.lc→s2.lp=k.lp→s2.pb=k.pb→s2.st=(dV z.1).1→s2.r=(dV z.1).2.1→s2.P=(dV z.1).2.2→
   dA B (L.length-1+1) (b-a-1+1) dict (pre.length+(5+pp.length)) s2= .go (pre.length+X.length) {s2 with out:=k.D.take b,st:=c2.1,r:=c2.2.1,P:=c2.2.2}:=by
  intro s2 e1 e2 e3 e4 e5 e6 e7 e8
  unfold dA
  rw[show L.length-1+1=L.length by omega,show b-a-1+1=b-a by omega,if_neg (by omega),g6]
  unfold fC
  have hlen2:(s2.out.drop s2.start).length=(k.D.take a).length:=by rw[e1,e2,List.drop_zero]
  have af4:bW 0 0 0 L s2.lc s2.lp s2.pb dict ((s2.out.drop s2.start).length+(b-a)) (b-a) (s2.out.drop s2.start) s2.st s2.r (s2.P,Rd.start L)=some (k.D.take b,c2.1,c2.2.1,y):=by
   rw[e3,e4,e5,e6,e7,e8,e1,e2,List.drop_zero]
   exact hread
  rw[if_neg (by omega),if_neg (fun h=>h hz0),af4]
  unfold qO
  simp only
  rw[if_pos hy2,hy1,hlen2,e1]
  have e9:k.D.take a++(k.D.take b).drop (k.D.take a).length=k.D.take b:=by
   rw[List.length_take,show min a k.D.length=a by omega]
   conv=>rhs;rw[←List.take_append_drop a (k.D.take b)]
   rw[List.take_take,show min a b=a by omega]
  rw[e9,show pre.length+(5+pp.length)+L.length=pre.length+X.length by omega]
 have hrel: ∀s2:jy,s2.start=0→s2.clear=true→s2.asked=false→s2.lc=k.lc→s2.lp=k.lp→s2.pb=k.pb→yJ k b (some c2,true) {s2 with out:=k.D.take b,st:=c2.1,r:=c2.2.1,P:=c2.2.2}:=
  fun s2 e1 e2 e3 e4 e5 e6=>⟨rfl,e1,fun h=>by omega,fun _=>⟨e2,e3⟩,fun _=>⟨e4,e5,e6⟩,fun c h=>by injection h with h;subst h;exact⟨rfl,hok2,rfl,rfl,rfl⟩⟩
 have hperm:lS (k.lc:Nat) (k.lp:Nat) (k.pb:Nat)=true:=decide_eq_true (by have:=hk.perm;omega)
 have ad2: ∀s1:jy,192≤c.toNat→pp=[sS k]→fG c.toNat B (pre.length+5) s1= .go (pre.length+(5+pp.length)) {s1 with lc:=k.lc,lp:=k.lp,pb:=k.pb,asked:=false}:=by
  intro s1 h1 h2
  have hpl:pp.length=1:=by rw[h2];rfl
  unfold fG
  rw[if_neg (by omega),if_neg (by omega),g5 h2]
  have hp:(sS k).toNat=k.lc+9*(k.lp+5*k.pb):=by
   unfold sS
   have:=hk.perm
   rw[UInt8.toNat_ofNat'];omega
  have:=hk.perm
  rw[hp,show(k.lc+9*(k.lp+5*k.pb))%9=k.lc by omega,show(k.lc+9*(k.lp+5*k.pb))/9%5=k.lp by omega,show(k.lc+9*(k.lp+5*k.pb))/45=k.pb by omega,show pre.length+5+1=pre.length+(5+pp.length) by omega]
 have hnew: ∀s1:jy,160≤c.toNat→s1.lc=k.lc→s1.lp=k.lp→s1.pb=k.pb→gV c.toNat (pre.length+(5+pp.length)) s1= .go (pre.length+(5+pp.length)) (aP s1):=by
  intro s1 h1 e1 e2 e3
  unfold gV
  rw[if_neg (by omega),e1,e2,e3,if_neg (by rw[hperm];decide)]
 have Ro: ∀(s1 s2:jy),c.toNat%32=0→(fG c.toNat B (pre.length+5) s1).then (gV c.toNat)= .go (pre.length+(5+pp.length)) s2→jE B dict c.toNat (pre.length+1) s1=dA B (L.length-1+1) (b-a-1+1) dict (pre.length+(5+pp.length)) s2:=by
  intro s1 s2 h32 h1
  unfold jE
  rw[if_neg (by omega),show pre.length+1+4=pre.length+5 by omega,h1,show pre.length+1+2=pre.length+3 by omega,g3,g1,h32,Nat.mul_zero,Nat.zero_add]
  rfl
 by_cases h0:a=0
 ·have hz:=hr.first h0
  have hcv:c=224:=by rw[←hc];unfold uV;rw[if_pos h0]
  have hct:c.toNat=224:=by rw[hcv];rfl
  have Qg:pp=[sS k]:=by rw[←hpp,hcv,if_pos (by decide)]
  have nS:dV z.1=wB:=by rw[hz];rfl
  obtain⟨s1,hs1⟩: ∃s1:jy,{s with start:=s.out.length,clear:=true,asked:=true}=s1:=⟨_,rfl⟩
  have ZX:s1.out=k.D.take a∧s1.start=0∧s1.clear=true:=by
   rw[←hs1]
   exact⟨hr.out,by show s.out.length=0;rw[hr.out,h0];rfl,rfl⟩
  refine⟨c,_,g0,by omega,?_,hrel (aP {s1 with lc:=k.lc,lp:=k.lp,pb:=k.pb,asked:=false}) ZX.2.1 ZX.2.2 rfl rfl rfl rfl⟩
  unfold bI unclear
  rw[if_pos (.inr (by omega)),hs1]
  unfold aW
  rw[if_neg (Ar ZX.2.2 (by omega)),if_neg (by omega),if_neg (by omega),Ro s1 (aP {s1 with lc:=k.lc,lp:=k.lp,pb:=k.pb,asked:=false}) (by omega) (by rw[ad2 s1 (by omega) Qg];exact hnew _ (by omega) rfl rfl rfl)]
  exact hdec _ ZX.1 ZX.2.1 rfl rfl rfl (by rw[nS];rfl) (by rw[nS];rfl) (by rw[nS];rfl)
 ·obtain⟨U3,hask⟩:=hr.later h0
  cases U4:z.2 with
  | false=>
   have hcv:c=192:=by rw[←hc];unfold uV;rw[if_neg h0,if_pos U4]
   have hct:c.toNat=192:=by rw[hcv];rfl
   have Qg:pp=[sS k]:=by rw[←hpp,hcv,if_pos (by decide)]
   have nS:dV z.1=wB:=by
    cases hz1:z.1 with
    | none=>rfl
    | some q=>have:=(hr.VB q hz1).1;rw[U4]at this;cases this
   refine⟨c,_,g0,by omega,?_,hrel (aP {s with lc:=k.lc,lp:=k.lp,pb:=k.pb,asked:=false}) hr.start U3 rfl rfl rfl rfl⟩
   unfold bI unclear
   rw[if_neg (by omega)]
   unfold aW
   rw[if_neg (Ar U3 (by omega)),if_neg (by omega),if_neg (by omega),Ro s (aP {s with lc:=k.lc,lp:=k.lp,pb:=k.pb,asked:=false}) (by omega) (by rw[ad2 s (by omega) Qg];exact hnew _ (by omega) rfl rfl rfl)]
   exact hdec _ hr.out hr.start rfl rfl rfl (by rw[nS];rfl) (by rw[nS];rfl) (by rw[nS];rfl)
  | true=>
   obtain⟨q1,q2,q3⟩:=hr.props U4
   have Rq:s.asked=false:=by rw[hask,U4];rfl
   cases hz1:z.1 with
   | none=>
    have hcv:c=160:=by rw[←hc];unfold uV;rw[if_neg h0,if_neg (by rw[U4];decide),hz1];rfl
    have hct:c.toNat=160:=by rw[hcv];rfl
    have Qg:pp=[]:=by rw[←hpp,hcv,if_neg (by decide)]
    have nS:dV z.1=wB:=by rw[hz1];rfl
    refine⟨c,_,g0,by omega,?_,hrel (aP s) hr.start U3 Rq q1 q2 q3⟩
    unfold bI unclear
    rw[if_neg (by omega)]
    unfold aW
    have hpr:fG c.toNat B (pre.length+5) s= .go (pre.length+(5+pp.length)) s:=by unfold fG;rw[if_pos (by omega),Qg];rfl
    rw[if_neg (Ar U3 (by omega)),if_neg (by omega),if_neg (by rw[Rq];intro h;exact Bool.noConfusion h.2),Ro s (aP s) (by omega) (by rw[hpr];exact hnew _ (by omega) q1 q2 q3)]
    exact hdec _ hr.out hr.start q1 q2 q3 (by rw[nS];rfl) (by rw[nS];rfl) (by rw[nS];rfl)
   | some q=>
    have hcv:c=128:=by rw[←hc];unfold uV;rw[if_neg h0,if_neg (by rw[U4];decide),hz1];rfl
    have hct:c.toNat=128:=by rw[hcv];rfl
    have Qg:pp=[]:=by rw[←hpp,hcv,if_neg (by decide)]
    have nS:dV z.1=q:=by rw[hz1];rfl
    obtain⟨_,_,w1,w2,w3⟩:=hr.VB q hz1
    refine⟨c,_,g0,by omega,?_,hrel s hr.start U3 Rq q1 q2 q3⟩
    unfold bI unclear
    rw[if_neg (by omega)]
    unfold aW
    have hpr:fG c.toNat B (pre.length+5) s= .go (pre.length+(5+pp.length)) s:=by unfold fG;rw[if_pos (by omega),Qg];rfl
    have hnw:gV c.toNat (pre.length+(5+pp.length)) s= .go (pre.length+(5+pp.length)) s:=by unfold gV;rw[if_pos (by omega)]
    rw[if_neg (Ar U3 (by omega)),if_neg (by omega),if_neg (by rw[Rq];intro h;exact Bool.noConfusion h.2),Ro s s (by omega) (by rw[hpr];exact hnw)]
    exact hdec _ hr.out hr.start q1 q2 q3 (by rw[nS];exact w1) (by rw[nS];exact w2) (by rw[nS];exact w3)
theorem Qh{k:jv}{a b:Nat}{z:iq×Bool}{s:jy}{dict:Int}(hk:Hq k)(hd:(k.dict:Int)≤dict)(hab:a<b)(hb:b≤k.D.length)(h16:b-a≤65536)(hr:yJ k a z s)(pre rest:List UInt8):
  ∃c s',(pre++((aC k a b z.1 z.2).1++rest)).getD pre.length 0=c∧c.toNat≠0∧bI (pre++((aC k a b z.1 z.2).1++rest)) dict c.toNat (pre.length+1) s= .go (pre.length+(aC k a b z.1 z.2).1.length) s'∧yJ k b (aC k a b z.1 z.2).2 s':=by
 have e:aC k a b z.1 z.2=if b-a+3≤(cZ k a b z.1 z.2 (codeOf k a b (dV z.1)).1).length∨65536<(codeOf k a b (dV z.1)).1.length then(fF k.D a b,none,z.2)else(cZ k a b z.1 z.2 (codeOf k a b (dV z.1)).1,some (codeOf k a b (dV z.1)).2,true):=rfl
 rw[e]
 split
 ·exact Qe hab hb h16 hr pre rest
 ·rename_i h
  exact MK hk hd hab hb h16 (by omega) hr pre rest
theorem U5{k:jv}{a b:Nat}(hab:a<b)(hb:b≤k.D.length)(z:iq×Bool):1≤(aC k a b z.1 z.2).1.length:=by
 have e:aC k a b z.1 z.2=if b-a+3≤(cZ k a b z.1 z.2 (codeOf k a b (dV z.1)).1).length∨65536<(codeOf k a b (dV z.1)).1.length then(fF k.D a b,none,z.2)else(cZ k a b z.1 z.2 (codeOf k a b (dV z.1)).1,some (codeOf k a b (dV z.1)).2,true):=rfl
 rw[e]
 split
 ·show 1≤(fF k.D a b).length
  rw[sW hab hb];omega
 ·show 1≤(cZ k a b z.1 z.2 (codeOf k a b (dV z.1)).1).length
  unfold cZ
  simp only[List.length_append,List.length_cons]
  omega
theorem wR{k:jv}{dict:Int}{c:Nat}(hk:Hq k)(hd:(k.dict:Int)≤dict)(hc:1≤c)(hc16:c≤65536): ∀(f a:Nat) (z:iq×Bool) (s:jy) (pre rest:List UInt8) (fuel:Nat),k.D.length-a≤f→a≤k.D.length→yJ k a z s→(aH k (aT k.D.length c a) z).1.length≤fuel→
  ∃s' fuel',s'.out=k.D∧fuel≤fuel'+(aH k (aT k.D.length c a) z).1.length∧bF (pre++((aH k (aT k.D.length c a) z).1++rest)) dict fuel pre.length s=bF (pre++((aH k (aT k.D.length c a) z).1++rest)) dict fuel' (pre.length+(aH k (aT k.D.length c a) z).1.length) s'∧
   (jl (pre++((aH k (aT k.D.length c a) z).1++rest)) dict fuel' (pre.length+(aH k (aT k.D.length c a) z).1.length) s'→jl (pre++((aH k (aT k.D.length c a) z).1++rest)) dict fuel pre.length s)
 | 0,a,z,s,pre,rest,fuel,hf,ha,hr,hfu=>by
  rw[dh (by omega)]at hfu ⊢
  refine⟨s,fuel,?_,Nat.le_add_right _ _,rfl,fun h=>h⟩
  rw[hr.out,List.take_of_length_le (by omega)]
 | f+1,a,z,s,pre,rest,fuel,hf,ha,hr,hfu=>by
  by_cases hal:a<k.D.length
  ·rw[jP hc hal]at hfu ⊢
   obtain⟨b,hb⟩: ∃b,min (a+c) k.D.length=b:=⟨_,rfl⟩
   have hab:a<b:=by omega
   have hbl:b≤k.D.length:=by omega
   have hgo:(aH k ((a,b)::aT k.D.length c (a+c)) z).1=(aC k a b z.1 z.2).1++(aH k (aT k.D.length c (a+c)) (aC k a b z.1 z.2).2).1:=rfl
   have hnext:aT k.D.length c (a+c)=aT k.D.length c b:=by
    by_cases h:a+c<k.D.length
    ·rw[show b=a+c by omega]
    ·rw[dh h,dh (by omega)]
   rw[hb,hgo]at hfu ⊢
   rw[hnext]at hfu ⊢
   obtain⟨X,hX⟩: ∃X,aC k a b z.1 z.2=X:=⟨_,rfl⟩
   obtain⟨c1,s1,g1,g2,g3,g4⟩:=Qh hk hd hab hbl (by omega) hr pre ((aH k (aT k.D.length c b) X.2).1++rest)
   have hpos:=U5 hab hbl z
   rw[hX]at g1 g3 g4 hpos hfu ⊢
   rw[List.length_append]at hfu
   obtain⟨fu,rfl⟩: ∃fu,fuel=fu+1:=⟨fuel-1,by omega⟩
   obtain⟨s',fuel',h1,h2,h3,h4⟩:=wR hk hd hc hc16 f b X.2 s1 (pre++X.1) rest fu (by omega) hbl g4 (by omega)
   have eB:pre++X.1++((aH k (aT k.D.length c b) X.2).1++rest)=pre++(X.1++(aH k (aT k.D.length c b) X.2).1++rest):=by simp only[List.append_assoc]
   have eB2:pre++(X.1++((aH k (aT k.D.length c b) X.2).1++rest))=pre++(X.1++(aH k (aT k.D.length c b) X.2).1++rest):=by simp only[List.append_assoc]
   rw[eB]at h3 h4
   rw[eB2]at g1 g3
   obtain⟨B,hB⟩: ∃B,pre++(X.1++(aH k (aT k.D.length c b) X.2).1++rest)=B:=⟨_,rfl⟩
   have hBl:pre.length<B.length:=by rw[←hB];simp only[List.length_append];omega
   rw[hB]at h3 h4 g1 g3 ⊢
   rw[List.length_append]at h3 h4
   rw[List.length_append]
   refine⟨s',fuel',h1,by omega,?_,fun h=> ?_⟩
   ·conv=>lhs;unfold bF
    rw[if_neg (by omega),g1,if_neg g2,g3]
    show bF B dict fu (pre.length+X.1.length) s1=_
    rw[h3,Nat.add_assoc]
   ·unfold jl
    refine⟨?_,fun _ _=> ?_⟩
    ·rw[hr.out,List.length_take];have:=hk.len;omega
    ·rw[g1,g3]
     exact h4 (by rw[Nat.add_assoc];exact h)
  ·rw[dh hal]at hfu ⊢
   refine⟨s,fuel,?_,Nat.le_add_right _ _,rfl,fun h=>h⟩
   rw[hr.out,List.take_of_length_le (by omega)]
theorem Qi{k:jv}(hc:1≤k.chunk.toNat):(dU k).length≤4*k.D.length+1:=by
 have h1:=qG (k:=k) (n:=k.D.length) (c:=k.chunk.toNat) hc rfl k.D.length 0 (none,false) (by omega)
 have h2:=qF (n:=k.D.length) (c:=k.chunk.toNat) hc k.D.length 0 (by omega)
 unfold dU
 rw[List.length_append,List.length_singleton]
 omega
theorem bk0(k:jv):yJ k 0 (none,false) Rj:=⟨rfl,rfl,fun _=>rfl,fun h=>absurd rfl h,fun h=>(by cases h),fun c h=>(by cases h)⟩
theorem Hr{B:List UInt8}{dict:Int}{s:jy}(h:s.out.length≤400000000){pos:Nat}(hp:B.length≤pos∨(B.getD pos 0).toNat=0)(f:Nat):jl B dict f pos s:=by
 cases f with
 | zero=>exact h
 | succ f=>
  unfold jl
  refine⟨h,fun h1 h2=> ?_⟩
  rcases hp with hp | hp
  ·omega
  ·exact absurd hp h2
theorem U6{k:jv}{dict:Int}(hk:Hq k)(hch:1≤k.chunk∧k.chunk≤65536)(hd:(k.dict:Int)≤dict)(behind:List UInt8){fuel:Nat}(hf:(dU k++behind).length<fuel):
  bF (dU k++behind) dict fuel 0 Rj=(k.D,(dU k).length,0)∧jl (dU k++behind) dict fuel 0 Rj:=by
 obtain⟨P,hP⟩: ∃P,(aH k (aT k.D.length k.chunk.toNat 0) (none,false)).1=P:=⟨_,rfl⟩
 have hpk:dU k=P++[0]:=by unfold dU;rw[hP]
 obtain⟨s',fuel',h1,h2,h3,h4⟩:=wR (dict:=dict) (c:=k.chunk.toNat) hk hd (by omega) (by omega) k.D.length 0 (none,false) Rj [] (0::behind) fuel (by omega) (Nat.zero_le _) (bk0 k) (by rw[hP];rw[hpk]at hf;simp only[List.length_append]at hf;omega)
 rw[hP]at h2 h3 h4
 have eB:([]:List UInt8)++(P++0::behind)=dU k++behind:=by rw[hpk];simp
 rw[eB]at h3 h4
 have hz:(dU k++behind).getD P.length 0=0:=by
  rw[hpk]
  simp[List.getD_eq_getElem?_getD]
 have hl:(dU k).length=P.length+1:=by rw[hpk];simp
 have hlen:(dU k++behind).length=P.length+1+behind.length:=by rw[List.length_append,hl]
 simp only[List.length_nil,Nat.zero_add]at h3 h4
 constructor
 ·rw[h3]
  obtain⟨fu,rfl⟩: ∃fu,fuel'=fu+1:=⟨fuel'-1,by omega⟩
  unfold bF
  rw[if_neg (by omega),hz,if_pos (show UInt8.toNat 0=0 from rfl),h1,hl]
 ·exact h4 (Hr (by rw[h1];have:=hk.len;omega) (.inr (by rw[hz];rfl)) fuel')
theorem ZY{k:jv}{dict:Int}(hk:Hq k)(hch:1≤k.chunk∧k.chunk≤65536)(hd:(k.dict:Int)≤dict){fuel:Nat}(hf:(dU k).length≤fuel):
  bF ((dU k).take ((dU k).length-1)) dict fuel 0 Rj=([],0,2)∧jl ((dU k).take ((dU k).length-1)) dict fuel 0 Rj:=by
 obtain⟨P,hP⟩: ∃P,(aH k (aT k.D.length k.chunk.toNat 0) (none,false)).1=P:=⟨_,rfl⟩
 have hpk:dU k=P++[0]:=by unfold dU;rw[hP]
 have hl:(dU k).length=P.length+1:=by rw[hpk];simp
 have hcut:(dU k).take ((dU k).length-1)=P:=by rw[hl,hpk];simp
 obtain⟨s',fuel',h1,h2,h3,h4⟩:=wR (dict:=dict) (c:=k.chunk.toNat) hk hd (by omega) (by omega) k.D.length 0 (none,false) Rj [] [] fuel (by omega) (Nat.zero_le _) (bk0 k) (by rw[hP];omega)
 rw[hP]at h2 h3 h4
 have eB:([]:List UInt8)++(P++[])=P:=by simp
 rw[eB]at h3 h4
 simp only[List.length_nil,Nat.zero_add]at h3 h4
 rw[hcut]
 constructor
 ·rw[h3]
  obtain⟨fu,rfl⟩: ∃fu,fuel'=fu+1:=⟨fuel'-1,by omega⟩
  unfold bF
  rw[if_pos (by omega)]
 ·exact h4 (Hr (by rw[h1];have:=hk.len;omega) (.inl (Nat.le_refl _)) fuel')
namespace Vl
def num(l:List UInt8):Nat→Nat
 | 0=>0
 | i+1=>num l i+(l.getD i 0).toNat%128*128^i
theorem Qj(l:List UInt8): ∀i,num l i<128^i
 | 0=>by show 0<1;omega
 | i+1=>by
  have h:=Qj l i
  have h2:(l.getD i 0).toNat%128*128^i≤127*128^i:=Nat.mul_le_mul_right _ (by omega)
  show num l i+_<_
  rw[Nat.pow_succ];omega
def go(l:List UInt8):Nat→Nat→Nat×Nat×Nat
 | 0,_=>(0,0,6)
 | f+1,i=>if l.length≤i then(0,0,2)else if 128≤(l.getD i 0).toNat then go l f (i+1)else if(l.getD i 0).toNat=0∧0<i then(0,0,6)else(num l (i+1),i+1,0)
def get(l:List UInt8):Nat×Nat×Nat:=go l 9 0
theorem af5{l:List UInt8}{f i:Nat}(h:l.length≤i):go l (f+1) i=(0,0,2):=by rw[go,if_pos h]
theorem Rt{l:List UInt8}{f i:Nat}(h: ¬l.length≤i)(hb:128≤(l.getD i 0).toNat):go l (f+1) i=go l f (i+1):=by rw[go,if_neg h,if_pos hb]
theorem af6{l:List UInt8}{f i:Nat}(h: ¬l.length≤i)(hb:(l.getD i 0).toNat=0)(hi:0<i):go l (f+1) i=(0,0,6):=by rw[go,if_neg h,if_neg (by omega),if_pos ⟨hb,hi⟩]
theorem Jq{l:List UInt8}{f i:Nat}(h: ¬l.length≤i)(hb: ¬128≤(l.getD i 0).toNat)(hi: ¬((l.getD i 0).toNat=0∧0<i)):go l (f+1) i=(num l (i+1),i+1,0):=by rw[go,if_neg h,if_neg hb,if_neg hi]
theorem Z4(l:List UInt8)(more:List UInt8): ∀(f n i e:Nat),l.drop i=put f n++more→n<128^(f+1)→(0<i→0<n)→f+1≤e→go l e i=(num l i+n*128^i,i+(put f n).length,0)
 | 0,n,i,e,hd,hn,hp,he=>by
  obtain⟨e,rfl⟩: ∃e',e=e'+1:=⟨e-1,by omega⟩
  have hn':n<128:=by simpa using hn
  have hlt: ¬l.length≤i:=by intro h;rw[List.drop_eq_nil_of_le h]at hd;simp[put]at hd
  have hg:l.getD i 0=UInt8.ofNat n:=by
   have:(l.drop i)[0]? =some (UInt8.ofNat n):=by rw[hd];rfl
   rw[List.getElem?_drop]at this;simp only[Nat.add_zero]at this
   rw[List.getD_eq_getElem?_getD,this];rfl
  have ht:(l.getD i 0).toNat=n:=by rw[hg,UInt8.toNat_ofNat'];omega
  rw[Jq hlt (by omega) (by rw[ht];intro⟨h1,h2⟩;have:=hp h2;omega),num,ht,Nat.mod_eq_of_lt hn'];rfl
 | f+1,n,i,e,hd,hn,hp,he=>by
  obtain⟨e,rfl⟩: ∃e',e=e'+1:=⟨e-1,by omega⟩
  have hlt: ¬l.length≤i:=by
   intro h;rw[List.drop_eq_nil_of_le h]at hd
   have:=(iE (f+1) n).1
   have h2:=congrArg List.length hd
   simp at h2;omega
  by_cases hs:n<128
  ·rw[jh hs]at hd ⊢
   have hg:l.getD i 0=UInt8.ofNat n:=by
    have:(l.drop i)[0]? =some (UInt8.ofNat n):=by rw[hd];rfl
    rw[List.getElem?_drop]at this;simp only[Nat.add_zero]at this
    rw[List.getD_eq_getElem?_getD,this];rfl
   have ht:(l.getD i 0).toNat=n:=by rw[hg,UInt8.toNat_ofNat'];omega
   rw[Jq hlt (by omega) (by rw[ht];intro⟨h1,h2⟩;have:=hp h2;omega),num,ht,Nat.mod_eq_of_lt hs];rfl
  ·rw[yw hs]at hd ⊢
   have hg:l.getD i 0=UInt8.ofNat (n%128+128):=by
    have:(l.drop i)[0]? =some (UInt8.ofNat (n%128+128)):=by rw[hd];rfl
    rw[List.getElem?_drop]at this;simp only[Nat.add_zero]at this
    rw[List.getD_eq_getElem?_getD,this];rfl
   have ht:(l.getD i 0).toNat=n%128+128:=by rw[hg,UInt8.toNat_ofNat'];omega
   have hd2:l.drop (i+1)=put f (n/128)++more:=by
    have:l.drop (i+1)=(l.drop i).drop 1:=by rw[List.drop_drop]
    rw[this,hd];rfl
   have hn2:n/128<128^(f+1):=by
    rw[Nat.div_lt_iff_lt_mul (by omega)];rw[Nat.pow_succ]at hn;exact hn
   rw[Rt hlt (by omega),Z4 l more f (n/128) (i+1) e hd2 hn2 (fun _=>by omega) (by omega),num,ht]
   have e1:(n%128+128)%128=n%128:=by omega
   have e2:n/128*128^(i+1)=n/128*128*128^i:=by rw[Nat.pow_succ,Nat.mul_comm (128^i),Nat.mul_assoc]
   have e3:n%128*128^i+n/128*128*128^i=n*128^i:=by rw[←Nat.add_mul];congr 1;omega
   rw[e1,e2,Nat.add_assoc,e3,List.length_cons]
   congr 2;omega
end Vl
end Go.Proofs.YtgfpocdiojifoaaGreatDoor
