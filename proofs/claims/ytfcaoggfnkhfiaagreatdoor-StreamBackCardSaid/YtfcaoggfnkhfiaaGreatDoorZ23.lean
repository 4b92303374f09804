import Derived.Test.YtfcaoggfnkhfiaaGreatDoorZ16
import Derived.Laws.BitsAllLaws
import Derived.StillTailTactics
namespace Go.Proofs.YtfcaoggfnkhfiaaGreatDoor
set_option maxRecDepth 100000
set_option maxHeartbeats 8000000
open Go.RowKit Go.Proofs.Tryz
variable{dict:Int}{L:List UInt8}{b cap fin g gd i lc lp n o pb pos:Nat}{r:R4}{s:Sy}{cv v:Value}{w:World}
section
def xm(ge n:Nat){α:Type}(f:PS→α×PS):Prop:= ∀x k,Fair x.1→(aj ge).ok x.2 (k+n)→Fair (f x).2.1∧(aj ge).ok (f x).2.2 k
section
variable{ge n m:Nat}{α β:Type}
theorem la(a:α):xm ge 0 (fun x=>(a,x)):=fun _ _ hx h=>⟨hx,h⟩
theorem jp{f:PS→α×PS}(H:xm ge n f)(h:n≤m):xm ge m f:=fun x k hx hk=>H x k hx ((aj ge).le hk aa)
theorem CK{f:PS→α×PS}(H:xm ge n f)(p:α→Prop)(hp: ∀x,p (f x).1){g1:α→PS→β×PS}(K: ∀a,p a→xm ge m (g1 a)):xm ge (n+m) (fun x=>g1 (f x).1 (f x).2):=by intro x k hx h;obtain⟨f1,f2⟩:=H x (k+m) hx (by rw[show k+m+n=k+(n+m) by omega];exact h);exact K _ (hp x) _ k f1 f2
theorem eJ{f:PS→α×PS}(H:xm ge n f){g1:α→PS→β×PS}(K: ∀a,xm ge m (g1 a)):xm ge (n+m) (fun x=>g1 (f x).1 (f x).2):=
 CK H (fun _=>True) (fun _=>trivial) fun a _=>K a
theorem gh{f:PS→α×PS}(H:xm ge n f)(φ:α→β):xm ge n (fun x=>(φ (f x).1,(f x).2)):=fun x k hx h=>H x k hx h
theorem iM(i:Nat)(b:Bool):xm ge 1 ((aj ge).au i b):=fun _ _ hx h=>⟨hx.put i b,(aj ge).pY h (hx i)⟩
theorem O0(v m:Nat)(hm:m≤32):xm ge 32 (fun x=>(((aj ge).plain x.2 v m).1,(x.1,((aj ge).plain x.2 v m).2))):=fun _ _ hx h=>⟨hx,(aj ge).wU h hm⟩
theorem zK(at_:Nat)(v:Int): ∀n m,xm ge n (Md.cW (aj ge) at_ v n m)
 | 0,m=>la m
 | n+1,m=>jp (eJ (iM (at_+m) (Md.aQ v n)) (g1:=fun a x=>Md.cW (aj ge) at_ v n (2*m+a.toNat) x) fun a=>zK at_ v n (2*m+a.toNat)) aa
theorem tD(at_ n:Nat)(v:Int):xm ge n (Md.tree (aj ge) at_ n v):=gh (zK at_ v n 1) fun a=>a-2^n
theorem CL(at_:Nat)(v:Int): ∀k i m g,xm ge k (Md.gq (aj ge) at_ v k i m g)
 | 0,_,_,g=>la g
 | k+1,i,m,g=>jp (eJ (iM (at_+m) (Md.aQ v i)) (g1:=fun a x=>Md.gq (aj ge) at_ v k (i+1) (2*m+a.toNat) (g+a.toNat*2^i) x) fun a=>CL at_ v k (i+1) (2*m+a.toNat) (g+a.toNat*2^i)) aa
theorem Mm(at_ n:Nat)(v:Int):xm ge n (Md.rev (aj ge) at_ n v):=CL at_ v n 0 1 0
theorem Ew(A p:Nat)(l:Int):xm ge 10 (Md.len (aj ge) A p l):=by
 refine eJ (n:=1) (m:=9) (iM A (decide (8≤l-2)))
  (g1:=fun a x=>if a=false then(2+(Md.tree (aj ge) (A+2+8*p) 3 (l-2) x).1,(Md.tree (aj ge) (A+2+8*p) 3 (l-2) x).2)
   else
    let z:=(aj ge).au (A+1) (decide (16≤l-2)) x
    if z.1=false then(10+(Md.tree (aj ge) (A+130+8*p) 3 (l-2-8) z.2).1,(Md.tree (aj ge) (A+130+8*p) 3 (l-2-8) z.2).2)
    else(18+(Md.tree (aj ge) (A+258) 8 (l-2-16) z.2).1,(Md.tree (aj ge) (A+258) 8 (l-2-16) z.2).2)) ?_
 intro a;cases a with
 | false=>exact jp (gh (tD (A+2+8*p) 3 (l-2)) fun a=>2+a) aa
 | true=>
  refine eJ (n:=1) (m:=8) (iM (A+1) (decide (16≤l-2)))
   (g1:=fun a x=>if a=false then(10+(Md.tree (aj ge) (A+130+8*p) 3 (l-2-8) x).1,(Md.tree (aj ge) (A+130+8*p) 3 (l-2-8) x).2)
    else(18+(Md.tree (aj ge) (A+258) 8 (l-2-16) x).1,(Md.tree (aj ge) (A+258) 8 (l-2-16) x).2)) ?_
  intro a;cases a with
  | false=>exact jp (gh (tD (A+130+8*p) 3 (l-2-8)) fun a=>10+a) aa
  | true=>exact gh (tD (A+258) 8 (l-2-16)) fun a=>18+a
theorem Uo(l:Nat)(dd:Int):xm ge 42 (Md.bM (aj ge) l dd):=by
 have⟨d,hd⟩:=ex (((dd-1)%4294967296).toNat);have key:=CK (n:=6) (m:=36) (tD (ge:=ge) (1460+64*min (l-2) 3) 6 (gr d:Nat)) (fun s=>s<64) (fun x=>(Md.Lv (aj ge) _ 6 _ x).2) (g1:=Md.Gf (aj ge) d) fun s hs=>by
  unfold Md.Gf;by_cases h4:s<4;·simp only[if_pos h4];exact jp (la (s+1)) aa
  ·by_cases MY:s<14;·simp only[if_neg h4,if_pos MY];exact jp (gh (Mm (1716+32*s) (s/2-1) (d:Nat)) fun a=>(2+s%2)*2^(s/2-1)+a+1) aa
   ·simp only[if_neg h4,if_neg MY]
    exact eJ (n:=32) (m:=4) (O0 (d/16%2^(s/2-1-4)) (s/2-1-4) aa)
     (g1:=fun q x=>((2+s%2)*2^(s/2-1)+q%2^(s/2-1-4)*16+(Md.rev (aj ge) 2164 4 (d:Nat) x).1+1,(Md.rev (aj ge) 2164 4 (d:Nat) x).2)) fun q=>
      gh (Mm 2164 4 (d:Nat)) fun a=>(2+s%2)*2^(s/2-1)+q%2^(s/2-1-4)*16+a+1
 subst hd;exact key
theorem CM(T like:Nat)(v:Int): ∀n m al,xm ge n (Md.gJ (aj ge) T like v n m al)
 | 0,m,_=>la m
 | n+1,m,al=>jp (eJ (iM (T+(if al then m+(256+256*(like/2^n%2))else m)) (Md.aQ v n)) (g1:=fun a x=>Md.gJ (aj ge) T like v n (2*m+a.toNat) (al&&(a.toNat==like/2^n%2)) x) fun a=>CM T like v n (2*m+a.toNat) (al&&(a.toNat==like/2^n%2))) aa
theorem YT(lc lp st:Nat)(a:Int)(H:List UInt8)(v:Int):xm ge 8 (Md.lit (aj ge) lc lp st a H v):=
 gh (CM (2180+768*uq lc lp H) (Md.nS H a) v 8 1 (decide (7≤st))) fun a=>UInt8.ofNat a
theorem O1(st:Nat)(q:Int):xm ge 3 (Md.which (aj ge) st q):=by
 refine eJ (n:=1) (m:=2) (iM (204+st) (q !=0))
  (g1:=fun a x=>if a=false then(0,x)else
   let b:=(aj ge).au (216+st) (q !=1) x
   if b.1=false then(1,b.2)else
    let c:=(aj ge).au (228+st) (q !=2) b.2
    (2+c.1.toNat,c.2)) ?_
 intro a;cases a with
 | false=>exact jp (la 0) aa
 | true=>
  refine eJ (n:=1) (m:=1) (iM (216+st) (q !=1))
   (g1:=fun b x=>if b=false then(1,x)else
    let c:=(aj ge).au (228+st) (q !=2) x
    (2+c.1.toNat,c.2)) ?_
  intro b;cases b with
  | false=>exact jp (la 1) aa
  | true=>exact gh (iM (228+st) (q !=2)) fun c=>2+c.toNat
theorem Up(st p:Nat)(l q:Int):xm ge 14 (Md.kP (aj ge) st p l q):=by
 refine eJ (n:=3) (m:=11) (O1 st q)
  (g1:=fun a x=>if a=0 then
    let s:=(aj ge).au (240+16*st+p) (l !=1) x
    if s.1=false then((0,1),s.2)else
     let n:=Md.len (aj ge) 946 p l s.2
     ((0,n.1),n.2)
   else
    let n:=Md.len (aj ge) 946 p l x
    ((a,n.1),n.2)) ?_
 intro a;by_cases h0:a=0
 ·subst h0
  refine eJ (n:=1) (m:=10) (iM (240+16*st+p) (l !=1))
   (g1:=fun s x=>if s=false then((0,1),x)else
     let n:=Md.len (aj ge) 946 p l x
     ((0,n.1),n.2)) ?_
  intro s;cases s with
  | false=>exact jp (la (0,1)) aa
  | true=>exact gh (Ew 946 p l) fun n=>(0,n)
 ·simp only[if_neg h0];exact jp (gh (Ew 946 p l) fun n=>(a,n)) aa
theorem Uq(lc lp pb st:Nat)(r:R4)(H:List UInt8)(k:Int)(b:UInt8)(l d q:Int):xm ge 54 (Md.uE (aj ge) lc lp pb st r H k b l d q):=by
 refine eJ (n:=1) (m:=53) (iM (16*st+H.length%2^pb) (k !=0))
  (g1:=fun a x=>if a=false then
    let z:=Md.lit (aj ge) lc lp st r.1 H (b.toNat:Nat) x
    (((⟨0,z.1,0,0,0⟩:Sy),bW st,r),z.2)
   else
    let c:=(aj ge).au (192+st) (k !=1) x
    if c.1=false then
     let n:=Md.len (aj ge) 432 (H.length%2^pb) l c.2
     let z:=Md.bM (aj ge) n.1 d n.2
     (((⟨1,0,n.1,z.1,0⟩:Sy),(if st<7 then 7 else 10:Nat),aY r 3 (z.1:Nat)),z.2)
    else
     let z:=Md.kP (aj ge) st (H.length%2^pb) l q c.2
     (((⟨2,0,z.1.2,0,z.1.1⟩:Sy),(if st<7 then(if z.1.2=1 then 9 else 8)else 11:Nat),aY r z.1.1 (r4 r.1 r.2.1 r.2.2.1 r.2.2.2 z.1.1)),z.2)) ?_
 intro a;cases a with
 | false=>exact jp (gh (YT lc lp st r.1 H (b.toNat:Nat)) fun z=>((⟨0,z,0,0,0⟩:Sy),bW st,r)) aa
 | true=>
  refine eJ (n:=1) (m:=52) (iM (192+st) (k !=1))
   (g1:=fun c x=>if c=false then
     let n:=Md.len (aj ge) 432 (H.length%2^pb) l x
     let z:=Md.bM (aj ge) n.1 d n.2
     (((⟨1,0,n.1,z.1,0⟩:Sy),(if st<7 then 7 else 10:Nat),aY r 3 (z.1:Nat)),z.2)
    else
     let z:=Md.kP (aj ge) st (H.length%2^pb) l q x
     (((⟨2,0,z.1.2,0,z.1.1⟩:Sy),(if st<7 then(if z.1.2=1 then 9 else 8)else 11:Nat),aY r z.1.1 (r4 r.1 r.2.1 r.2.2.1 r.2.2.2 z.1.1)),z.2)) ?_
  intro c;cases c with
  | false=>
   exact eJ (n:=10) (m:=42) (Ew 432 (H.length%2^pb) l)
    (g1:=fun n x=>(((⟨1,0,n,(Md.bM (aj ge) n d x).1,0⟩:Sy),(if st<7 then 7 else 10:Nat),aY r 3 ((Md.bM (aj ge) n d x).1:Nat)),(Md.bM (aj ge) n d x).2)) fun n=>
    gh (Uo n d) fun z=>((⟨1,0,n,z,0⟩:Sy),(if st<7 then 7 else 10:Nat),aY r 3 (z:Nat))
  | true=>exact jp (gh (Up st (H.length%2^pb) l q) fun z=>((⟨2,0,z.2,0,z.1⟩:Sy),(if st<7 then(if z.2=1 then 9 else 8)else 11:Nat),aY r z.1 (r4 r.1 r.2.1 r.2.2.1 r.2.2.2 z.1))) aa
theorem YU{lc lp pb st:Nat}{r:R4}{H:List UInt8}{k l d q:Int}{b:UInt8}{x z:PS}{s':Sy}{st':Nat}{r':R4}{c:Nat}(hx:Fair x.1)(hk:(aj ge).ok x.2 (c+54))(h:Md.sym (aj ge) lc lp pb st r H k b l d q x=(s',st',r',z)):Fair z.1∧(aj ge).ok z.2 c:=by have h1:=Uq (ge:=ge) lc lp pb st r H k b l d q x c hx hk;have e:=(Md.sW (aj ge) lc lp pb st r H k b l d q x).symm.trans h;have e4:(Md.uE (aj ge) lc lp pb st r H k b l d q x).2=z:=congrArg (fun t=>t.2.2.2) e;rw[e4]at h1;exact h1
end
end
theorem GR(gd o cap:Nat)(L:List UInt8)(at_:Nat)(v:Int): ∀(n m:Nat) (x:PD),Md.cW (aq gd o cap L) at_ v n m x=Md.cW (aq 0 0 0 L) at_ v n m x
 | 0,_,_=>rfl
 | n+1,m,x=>GR gd o cap L at_ v n (2*m+((aq 0 0 0 L).au (at_+m) (Md.aQ v n) x).1.toNat) ((aq 0 0 0 L).au (at_+m) (Md.aQ v n) x).2
theorem Ey(gd o cap:Nat)(L:List UInt8)(at_ n:Nat)(v:Int)(x:PD):Md.tree (aq gd o cap L) at_ n v x=Md.tree (aq 0 0 0 L) at_ n v x:=
 congrArg (fun y:Nat×PD=>(y.1-2^n,y.2)) (GR gd o cap L at_ v n 1 x)
theorem Mn(gd o cap:Nat)(L:List UInt8)(at_:Nat)(v:Int): ∀(k i m a:Nat) (x:PD),Md.gq (aq gd o cap L) at_ v k i m a x=Md.gq (aq 0 0 0 L) at_ v k i m a x
 | 0,_,_,_,_=>rfl
 | k+1,i,m,a,x=>Mn gd o cap L at_ v k (i+1) (2*m+((aq 0 0 0 L).au (at_+m) (Md.aQ v i) x).1.toNat) (a+((aq 0 0 0 L).au (at_+m) (Md.aQ v i) x).1.toNat*2^i) ((aq 0 0 0 L).au (at_+m) (Md.aQ v i) x).2
theorem v_(gd o cap:Nat)(L:List UInt8)(at_ n:Nat)(v:Int)(x:PD):Md.rev (aq gd o cap L) at_ n v x=Md.rev (aq 0 0 0 L) at_ n v x:=Mn gd o cap L at_ v n 0 1 0 x
theorem Uw(gd o cap:Nat)(L:List UInt8)(A p:Nat)(l:Int)(x:PD):Md.len (aq gd o cap L) A p l x=Md.len (aq 0 0 0 L) A p l x:=by
 cases h1:((aq 0 0 0 L).au A (decide (8≤l-2)) x).1 with
 | false=>exact(show Md.len (aq gd o cap L) A p l x=_ from if_pos h1).trans ((congrArg (fun y:Nat×PD=>(2+y.1,y.2)) (Ey gd o cap L (A+2+8*p) 3 (l-2) _)).trans (show Md.len (aq 0 0 0 L) A p l x=_ from if_pos h1).symm)
 | true=>
  cases h2:((aq 0 0 0 L).au (A+1) (decide (16≤l-2)) ((aq 0 0 0 L).au A (decide (8≤l-2)) x).2).1 with
  | false=>exact(show Md.len (aq gd o cap L) A p l x=_ from(if_neg (not_false h1)).trans (if_pos h2)).trans ((congrArg (fun y:Nat×PD=>(10+y.1,y.2)) (Ey gd o cap L (A+130+8*p) 3 (l-2-8) _)).trans (show Md.len (aq 0 0 0 L) A p l x=_ from(if_neg (not_false h1)).trans (if_pos h2)).symm)
  | true=>exact(show Md.len (aq gd o cap L) A p l x=_ from(if_neg (not_false h1)).trans (if_neg (not_false h2))).trans ((congrArg (fun y:Nat×PD=>(18+y.1,y.2)) (Ey gd o cap L (A+258) 8 (l-2-16) _)).trans (show Md.len (aq 0 0 0 L) A p l x=_ from(if_neg (not_false h1)).trans (if_neg (not_false h2))).symm)
theorem Ks(gd o cap:Nat)(L:List UInt8)(d:Nat)(y:Nat×PD):cH (aq gd o cap L) d y=cH (aq 0 0 0 L) d y:=by
 by_cases h1:y.1<4;·exact(show cH (aq gd o cap L) d y=_ from if_pos h1).trans (show cH (aq 0 0 0 L) d y=_ from if_pos h1).symm
 ·by_cases h2:y.1<14;·exact(show cH (aq gd o cap L) d y=_ from(if_neg h1).trans (if_pos h2)).trans ((congrArg (fun z:Nat×PD=>((2+y.1%2)*2^(y.1/2-1)+z.1+1,z.2)) (v_ gd o cap L (1716+32*y.1) (y.1/2-1) (d:Nat) y.2)).trans (show cH (aq 0 0 0 L) d y=_ from(if_neg h1).trans (if_pos h2)).symm)
  ·exact(show cH (aq gd o cap L) d y=_ from(if_neg h1).trans (if_neg h2)).trans ((congrArg (fun z:Nat×PD=>((2+y.1%2)*2^(y.1/2-1)+((aq 0 0 0 L).plain y.2.2 (d/16%2^(y.1/2-1-4)) (y.1/2-1-4)).1%2^(y.1/2-1-4)*16+z.1+1,z.2)) (v_ gd o cap L 2164 4 (d:Nat) (y.2.1,((aq 0 0 0 L).plain y.2.2 (d/16%2^(y.1/2-1-4)) (y.1/2-1-4)).2))).trans (show cH (aq 0 0 0 L) d y=_ from(if_neg h1).trans (if_neg h2)).symm)
theorem ach(gd o cap:Nat)(L:List UInt8)(l:Nat)(d:Int)(x:PD):Md.bM (aq gd o cap L) l d x=Md.bM (aq 0 0 0 L) l d x:=
 (qb (aq gd o cap L) l d x).trans ((Ks gd o cap L _ _).trans ((congrArg (fun y=>cH (aq 0 0 0 L) ((d-1)%4294967296).toNat y) (Ey gd o cap L _ 6 _ x)).trans (qb (aq 0 0 0 L) l d x).symm))
theorem Mo(gd o cap:Nat)(L:List UInt8)(T like:Nat)(v:Int): ∀(n m:Nat) (al:Bool) (x:PD),Md.gJ (aq gd o cap L) T like v n m al x=Md.gJ (aq 0 0 0 L) T like v n m al x
 | 0,_,_,_=>rfl
 | n+1,_,_,_=>Mo gd o cap L T like v n _ _ _
theorem ahl(gd o cap:Nat)(L:List UInt8)(lc lp st:Nat)(a:Int)(H:List UInt8)(v:Int)(x:PD):Md.lit (aq gd o cap L) lc lp st a H v x=Md.lit (aq 0 0 0 L) lc lp st a H v x:=
 congrArg (fun y:Nat×PD=>(UInt8.ofNat y.1,y.2)) (Mo gd o cap L _ _ v 8 1 _ x)
theorem Kt(gd o cap:Nat)(L:List UInt8)(st p:Nat)(l:Int)(w:Nat×PD):dB (aq gd o cap L) st p l w=dB (aq 0 0 0 L) st p l w:=by
 by_cases h1:w.1=0
 ·cases h2:((aq 0 0 0 L).au (240+16*st+p) (l !=1) w.2).1 with
  | false=>exact(show dB (aq gd o cap L) st p l w=_ from(if_pos h1).trans (if_pos h2)).trans (show dB (aq 0 0 0 L) st p l w=_ from(if_pos h1).trans (if_pos h2)).symm
  | true=>exact(show dB (aq gd o cap L) st p l w=_ from(if_pos h1).trans (if_neg (not_false h2))).trans ((congrArg (fun z:Nat×PD=>((0,z.1),z.2)) (Uw gd o cap L 946 p l ((aq 0 0 0 L).au (240+16*st+p) (l !=1) w.2).2)).trans (show dB (aq 0 0 0 L) st p l w=_ from(if_pos h1).trans (if_neg (not_false h2))).symm)
 ·exact(show dB (aq gd o cap L) st p l w=_ from if_neg h1).trans ((congrArg (fun z:Nat×PD=>((w.1,z.1),z.2)) (Uw gd o cap L 946 p l w.2)).trans (show dB (aq 0 0 0 L) st p l w=_ from if_neg h1).symm)
theorem aci(gd o cap:Nat)(L:List UInt8)(st p:Nat)(l q:Int)(x:PD):Md.kP (aq gd o cap L) st p l q x=Md.kP (aq 0 0 0 L) st p l q x:=Kt gd o cap L st p l (Md.which (aq 0 0 0 L) st q x)
theorem ahm(gd o cap:Nat)(L:List UInt8)(lc lp pb st:Nat)(r:R4)(H:List UInt8)(k:Int)(b:UInt8)(l d q:Int)(x:PD):Md.sym (aq gd o cap L) lc lp pb st r H k b l d q x=Md.sym (aq 0 0 0 L) lc lp pb st r H k b l d q x:=by
 cases h1:((aq 0 0 0 L).au (16*st+H.length%2^pb) (k !=0) x).1 with
 | false=>exact(show Md.sym (aq gd o cap L) lc lp pb st r H k b l d q x=_ from if_pos h1).trans ((congrArg (fun z:UInt8×PD=>((⟨0,z.1,0,0,0⟩:Sy),bW st,r,z.2)) (ahl gd o cap L lc lp st r.1 H (b.toNat:Nat) ((aq 0 0 0 L).au (16*st+H.length%2^pb) (k !=0) x).2)).trans (show Md.sym (aq 0 0 0 L) lc lp pb st r H k b l d q x=_ from if_pos h1).symm)
 | true=>
  cases h2:((aq 0 0 0 L).au (192+st) (k !=1) ((aq 0 0 0 L).au (16*st+H.length%2^pb) (k !=0) x).2).1 with
  | false=>
   refine(show Md.sym (aq gd o cap L) lc lp pb st r H k b l d q x=_ from(if_neg (not_false h1)).trans (if_pos h2)).trans (Eq.trans ?_ (show Md.sym (aq 0 0 0 L) lc lp pb st r H k b l d q x=_ from(if_neg (not_false h1)).trans (if_pos h2)).symm);have e1:=Uw gd o cap L 432 (H.length%2^pb) l ((aq 0 0 0 L).au (192+st) (k !=1) ((aq 0 0 0 L).au (16*st+H.length%2^pb) (k !=0) x).2).2;have e2:=fun(n:Nat×PD)=>ach gd o cap L n.1 d n.2;exact(congrArg (fun n:Nat×PD=>((⟨1,0,n.1,(Md.bM (aq gd o cap L) n.1 d n.2).1,0⟩:Sy),(if st<7 then 7 else 10),aY r 3 ((Md.bM (aq gd o cap L) n.1 d n.2).1:Nat),(Md.bM (aq gd o cap L) n.1 d n.2).2)) e1).trans (congrArg (fun z:Nat×PD=>((⟨1,0,(Md.len (aq 0 0 0 L) 432 (H.length%2^pb) l ((aq 0 0 0 L).au (192+st) (k !=1) ((aq 0 0 0 L).au (16*st+H.length%2^pb) (k !=0) x).2).2).1,z.1,0⟩:Sy),(if st<7 then 7 else 10),aY r 3 (z.1:Nat),z.2)) (e2 _))
  | true=>
   refine(show Md.sym (aq gd o cap L) lc lp pb st r H k b l d q x=_ from(if_neg (not_false h1)).trans (if_neg (not_false h2))).trans (Eq.trans ?_ (show Md.sym (aq 0 0 0 L) lc lp pb st r H k b l d q x=_ from(if_neg (not_false h1)).trans (if_neg (not_false h2))).symm);exact congrArg (fun z:(Nat×Nat)×PD=>((⟨2,0,z.1.2,0,z.1.1⟩:Sy),(if st<7 then(if z.1.2=1 then 9 else 8)else 11),aY r z.1.1 (r4 r.1 r.2.1 r.2.2.1 r.2.2.2 z.1.1),z.2)) (aci gd o cap L st (H.length%2^pb) l q ((aq 0 0 0 L).au (192+st) (k !=1) ((aq 0 0 0 L).au (16*st+H.length%2^pb) (k !=0) x).2).2)
structure gH where
 out:List UInt8
 start:Nat
 clear:Bool
 asked:Bool
 lc:Nat
 lp:Nat
 pb:Nat
 st:Nat
 r:R4
 P:Nat→Nat
inductive tW where
 | bad (n:Nat)
 | go (pos:Nat) (s:gH)
def Uz:gH:=⟨[],0,false,false,0,0,0,0,(1,1,1,1),fun _=>1024⟩
def db(B:List UInt8)(i:Nat):Nat:=256*(B.getD i 0).toNat+(B.getD (i+1) 0).toNat
theorem sq(B:List UInt8)(i:Nat):db B i<65536:=by unfold db;have h1:=(B.getD i 0).toNat_lt;have h2:=(B.getD (i+1) 0).toNat_lt;omega
theorem O3(B:List UInt8){k:Nat}(h:i+2≤n):db ((B.drop k).take n) i=db B (k+i):=by
 unfold db;have e: ∀j,j<n→((B.drop k).take n).getD j 0=B.getD (k+j) 0:=fun j hj=>by simp only[List.getD_eq_getElem?_getD,List.getElem?_take,List.getElem?_drop,hj,if_true]
 rw[e i aa,e (i+1) aa];rfl
def fB(B:List UInt8)(pos:Nat)(s:gH):tW:=
 if B.length<pos+2 then .bad 2
 else if B.length<pos+2+(db B pos+1)then .bad 2
 else .go (pos+2+(db B pos+1)) {s with out:=s.out++(B.drop (pos+2)).take (db B pos+1)}
def nF(L:List UInt8)(h:Nat)(pos:Nat)(s:gH):Option (List UInt8×Nat×R4×PD)→tW
 | none=> .bad 6
 | some (T,st,r,y)=>if y.2.done L=true then .go pos {s with out:=s.out++T.drop h,st:=st,r:=r,P:=y.1}else .bad 6
def dR(L:List UInt8)(size:Nat)(dict:Int)(pos:Nat)(s:gH):tW:=
 if L.length<5 then .bad 6
 else if L.getD 0 0≠0 then .bad 6
 else nF L (s.out.drop s.start).length pos s (cu 0 0 0 L s.lc s.lp s.pb dict ((s.out.drop s.start).length+size) size (s.out.drop s.start) s.st s.r (s.P,Rd.start L))
def dV(c:Nat)(B:List UInt8)(pos:Nat)(s:gH):tW:=
 if c<192 then .go pos s
 else if B.length<pos+1 then .bad 2
 else .go (pos+1) {s with lc:=(B.getD pos 0).toNat%9,lp:=(B.getD pos 0).toNat/9%5,pb:=(B.getD pos 0).toNat/45,asked:=false}
def aW(s:gH):gH:={s with st:=0,r:=(1,1,1,1),P:=fun _=>1024}
def eP(c:Nat)(pos:Nat)(s:gH):tW:=
 if c<160 then .go pos s
 else if jT (s.lc:Nat) (s.lp:Nat) (s.pb:Nat)=false then .bad 6
 else .go pos (aW s)
def cQ(B:List UInt8)(many size:Nat)(dict:Int)(pos:Nat)(s:gH):tW:=
 if B.length<pos+many then .bad 2 else dR ((B.drop pos).take many) size dict (pos+many) s
def tW.then(x:tW)(f:Nat→gH→tW):tW:=
 match x with
 | .bad n=> .bad n
 | .go pos s=>f pos s
def gT(B:List UInt8)(dict:Int)(c pos:Nat)(s:gH):tW:=
 if B.length<pos+4 then .bad 2
 else((dV c B (pos+4) s).then (eP c)).then (cQ B (db B (pos+2)+1) (65536*(c%32)+db B pos+1) dict)
def kr(c:Nat)(s:gH):gH:=if c=1∨224≤c then{s with start:=s.out.length,clear:=true,asked:=true}else s
def br(B:List UInt8)(dict:Int)(c pos:Nat)(s:gH):tW:=
 if s.clear=false∨(2<c∧c<128)then .bad 6
 else if c≤2 then fB B pos s
 else if c<192∧s.asked=true then .bad 6
 else gT B dict c pos s
def bJ(B:List UInt8)(dict:Int)(c pos:Nat)(s:gH):tW:=br B dict c pos (kr c s)
def bV(B:List UInt8)(dict:Int):Nat→Nat→gH→List UInt8×Nat×Nat
 | 0,_,_=>([],0,2)
 | f+1,pos,s=>
  if B.length<pos+1 then([],0,2)
  else if(B.getD pos 0).toNat=0 then(s.out,pos+1,0)
  else match bJ B dict (B.getD pos 0).toNat (pos+1) s with
   | .bad n=>([],0,n)
   | .go p t=>bV B dict f p t
def gU(B:List UInt8)(dict:Int):Nat→Nat→gH→Prop
 | 0,_,s=>s.out.length≤400000000
 | f+1,pos,s=>s.out.length≤400000000∧(pos<B.length→(B.getD pos 0).toNat≠0→
  match bJ B dict (B.getD pos 0).toNat (pos+1) s with
  | .bad _=>True
  | .go p t=>gU B dict f p t)
theorem Ku: ∀(f:Nat) (T:List UInt8) (st:Nat) (r:R4) (y:PD),cu gd o cap L lc lp pb dict fin f T st r y=cu 0 0 0 L lc lp pb dict fin f T st r y:=by
 intro f;induction f with
 | zero=>intro T st r y;rfl
 | succ f ih=>
  intro T st r y;obtain⟨⟨s,st',r',y'⟩,ht⟩: ∃t,Md.sym (aq gd o cap L) lc lp pb st r T 0 0 0 0 0 y=t:=⟨_,rfl⟩
  have Wl:Md.sym (aq 0 0 0 L) lc lp pb st r T 0 0 0 0 0 y=(s,st',r',y'):=(ahm gd o cap L lc lp pb st r T 0 0 0 0 0 y).symm.trans ht;by_cases h:fin≤T.length;·rw[kE h,kE h]
  ·have h1:T.length<fin:=(by omega);by_cases ho:y'.2.out=true;·rw[mN h1 ht ho,mN h1 Wl ho]
   ·have mU:y'.2.out=false:=(by simpa using ho);by_cases hk:s.k=0;·rw[kF h1 ht mU hk,kF h1 Wl mU hk];exact ih _ _ _ _
    ·by_cases hb:min (T.length:Int) dict<r'.1∨fin-T.length<s.l;·rw[mO h1 ht hk hb,mO h1 Wl hk hb]
     ·rw[kG h1 ht mU hk hb,kG h1 Wl mU hk hb];exact ih _ _ _ _
theorem Kv(ur:lp≤4)(wn:pb≤4)(H:List UInt8)(many:Nat)(st:Nat)(r:R4)(y:PD)(hr:zM r):
  cu gd o cap L lc lp pb dict (H.length-fR H.length (max dict r.1)+many) many (H.drop (fR H.length (max dict r.1))) st r y=(cu gd o cap L lc lp pb dict (H.length+many) many H st r y).map fun q=>(q.1.drop (fR H.length (max dict r.1)),q.2):=by
 have mf:1≤r.1:=hr.1;have hle:=zN H.length (show 0≤max dict r.1 by omega);have hu:=Kr (gd:=gd) (o:=o) (cap:=cap) (L:=L) (lc:=lc) (lp:=lp) (pb:=pb) (cut:=fR H.length (max dict r.1)) (dict:=dict) (fin:=H.length-fR H.length (max dict r.1)+many) ur wn many H st r y hr (by
  unfold fR;generalize hx:(max ((H.length:Int)-max dict r.1) 0).toNat=x;by_cases h0:x/16*16=0;·exact .inl h0
  ·refine .inr ⟨aa,?_,?_,?_⟩;·omega
   ·omega
   ·omega)
 rw[hu,show H.length-fR H.length (max dict r.1)+many+fR H.length (max dict r.1)=H.length+many by omega]
theorem rW: ∀(f:Nat) (T:List UInt8) (st:Nat) (r:R4) (y:PD) {q:List UInt8×Nat×R4×PD},cu gd o cap L lc lp pb dict fin f T st r y=some q→T.length≤q.1.length∧(T.length≤fin→q.1.length≤fin)
 | 0,T,st,r,y,q,h=>by
  unfold cu at h;split at h;·injection h with h;rw[←h];exact⟨Nat.le_refl _,fun h=>h⟩
  ·cases h
 | f+1,T,st,r,y,q,h=>by
  unfold cu at h;split at h;·injection h with h;rw[←h];exact⟨Nat.le_refl _,fun h=>h⟩
  ·split at h;·cases h
   ·split at h;·have:=rW f _ _ _ _ h;rw[List.length_append,List.length_singleton]at this;omega
    ·split at h;·cases h
     ·have:=rW f _ _ _ _ h;rw[eX]at this;omega
theorem jW.cons{ss:List Sy}{M:Nat→JO}{a:JO}(h:jW g lc lp pb ss M)(hl:Bp g lc lp pb a s (M 0)):jW g lc lp pb (s::ss) (fun t=>match t with | 0=>a | t+1=>M t):=by
 intro t ht;cases t with
 | zero=>exact hl
 | succ t=>exact h t (by simpa using ht)
theorem val_inj{t:Sy}(h:s.val=t.val):s=t:=by obtain⟨k,b,l,d,r⟩:=s;obtain⟨k',b',l',d',r'⟩:=t;simp[Sy.val]at h;obtain⟨h1,h2,h3,h4,h5⟩:=h;have hb:b=b':=UInt8.toNat_inj.1 aa;have e1:k=k':=aa;have e3:l=l':=aa;have e4:d=d':=aa;have e5:r=r':=aa;rw[hb,e1,e3,e4,e5]
theorem O4{n k l d q:Int}(h:dI r)(hf:iW r n k l d q=true):dI (ik r k d q):=by
 obtain⟨⟨a1,a2,a3,a4⟩,b1,b2,b3,b4⟩:=h;rcases o0 hf with rfl | ⟨rfl,_,_,h1,_,h2⟩ | ⟨rfl,h0,h3,_⟩
 ·exact⟨⟨a1,a2,a3,a4⟩,b1,b2,b3,b4⟩
 ·exact⟨⟨h1,a1,a2,a3⟩,by show d≤4294967296;omega,b1,b2,b3⟩
 ·rcases(by omega:q=0∨q=1∨q=2∨q=3)with rfl | rfl | rfl | rfl;·exact⟨⟨a1,a2,a3,a4⟩,b1,b2,b3,b4⟩
  ·exact⟨⟨a2,a1,a3,a4⟩,b2,b1,b3,b4⟩
  ·exact⟨⟨a3,a1,a2,a4⟩,b3,b1,b2,b4⟩
  ·exact⟨⟨a4,a1,a2,a3⟩,b4,b1,b2,b3⟩
theorem zO{D:List UInt8}{nice:Int}(hb:b≤D.length)(hD:D.length≤100000)(qO:1≤dict)(hn:nice≤273): ∀(f p st:Nat) (r:R4) (x:fX) (c:Nat),p≤b→b-p≤f→st<12→dI r→Fair x.1→(aj 0).ok x.2 (54*(b-p)+c)→
  ∃M:Nat→JO,jW 0 lc lp pb (aV D dict nice b f p r).1 M∧M 0=⟨D.take p,st,r,x⟩∧
   (∀i (hi:i<(aV D dict nice b f p r).1.length),(aV D dict nice b f p r).1[i].k≠0→iF (M i).r ((aV D dict nice b f p r).1[i].k:Nat) ((aV D dict nice b f p r).1[i].d:Nat) ((aV D dict nice b f p r).1[i].r:Nat)≤dict)∧
   ∃st' r' x',jO lc lp pb D (aV D dict nice b f p r).1 p (st,r,x)=(st',r',x')∧M (aV D dict nice b f p r).1.length=⟨D.take b,st',r',x'⟩∧st'<12∧dI r'∧Fair x'.1∧(aj 0).ok x'.2 c
 | 0,p,st,r,x,c,hp,hf,uG,hr,hfa,bL=>by have e:p=b:=aa;subst e;refine⟨fun _=>⟨D.take p,st,r,x⟩,fun t ht=>absurd ht (Nat.not_lt_zero _),rfl,fun i hi=>absurd hi (Nat.not_lt_zero _),st,r,x,rfl,rfl,uG,hr,hfa,(aj 0).le bL aa⟩
 | f+1,p,st,r,x,c,hp,hf,uG,hr,hfa,bL=>by
  by_cases wn:p<b
  ·have⟨S,hS⟩:=ex (im D dict nice b p r);have bQ:=pi (D:=D) (dict:=dict) (nice:=nice) (r:=r) wn hb hD qO hn;have XN:=L3 (D:=D) (dict:=dict) (nice:=nice) (r:=r) wn;have UA:(aV D dict nice b (f+1) p r).1=S::(aV D dict nice b f (p+max S.l 1) (ek S r)).1:=by
    conv=>lhs;unfold aV
    rw[if_pos wn,hS]
   rw[hS]at bQ XN;have mh:(D.take p).length=p:=mV;have dw:iW r ((D.take p).length:Int) (S.k:Nat) (S.l:Nat) (S.d:Nat) (S.r:Nat)=true:=(by rw[mh];exact bQ.fits);obtain⟨s',st',r',z,NT,FE,anV,hval,aho⟩:=Ct (g:=0) (lc:=lc) (lp:=lp) (pb:=pb) (a:=⟨D.take p,st,r,x⟩) (k:=(S.k:Nat)) (b:=S.b) (l:=(S.l:Nat)) (d:=(S.d:Nat)) (q:=(S.r:Nat)) hr dw;have hs':s'=S:=val_inj (hval.trans bQ.plain);subst hs';have anW:(aj 0).ok x.2 (54*(b-(p+max s'.l 1))+c+54):=(aj 0).le bL aa;obtain⟨OU,hoz⟩:=YU hfa anW NT;have hrz:r'=ek s' r:=FE.trans (nZ s' bQ.k r);have Qm:dI r':=(by rw[FE];exact O4 hr dw);obtain⟨M,hM,VW,hMd,st2,r2,x2,vo,Nt,q12,qr,qf,qo⟩:=zO hb hD qO hn f (p+max s'.l 1) st' r' z c XN aa (Bx uG anV) Qm OU hoz;rw[hrz]at hM hMd Nt vo VW;obtain⟨bk,lV,_,GF⟩:=bQ.back;have hl:=aho bk lV hoz.1;have wY:Bp 0 lc lp pb ⟨D.take p,st,r,x⟩ s' (M 0):=(by rw[VW,←hrz];have e:jV (D.take p) (s'.k:Nat) s'.b ((s'.l:Nat):Int).toNat bk=D.take (p+max s'.l 1):=(by rw[Int.toNat_natCast];exact GF);rw[←e];exact hl);refine⟨fun t=>match t with | 0=>⟨D.take p,st,r,x⟩ | t+1=>M t,?_,rfl,?_,st2,r2,x2,?_,?_,q12,qr,qf,qo⟩;·rw[UA];exact hM.cons wY
   ·rw[UA];intro i hi;cases i with
    | zero=>intro _;exact bQ.amx
    | succ i=>exact hMd i iZ
   ·rw[UA,←vo,←hrz];exact vL NT
   ·rw[UA];exact Nt
  ·have e:p=b:=(by omega);subst e;have UA:aV D dict nice p (f+1) p r=([],r):=(by unfold aV;rw[if_neg wn]);rw[UA];refine⟨fun _=>⟨D.take p,st,r,x⟩,fun t ht=>absurd ht (Nat.not_lt_zero _),rfl,fun i hi=>absurd hi (Nat.not_lt_zero _),st,r,x,rfl,rfl,uG,hr,hfa,(aj 0).le bL aa⟩
structure GU(s:Nat×R4×(Nat→Nat)):Prop where
 st:s.1<12
 r:dI s.2.1
 fair:Fair s.2.2
theorem O5{k:gG}{a:Nat}{s:Nat×R4×(Nat→Nat)}(sU:a<b)(hb:b≤k.D.length)(hD:k.D.length≤100000)(hk:1≤k.dict)(hn:k.nice≤273)(hd:(k.dict:Int)≤dict)(hs:GU s):
  5≤(bx k a b s).1.length∧(bx k a b s).1.getD 0 0=0∧GU (bx k a b s).2∧ ∃y:PD,y.1=(bx k a b s).2.2.2∧y.2.done (bx k a b s).1=true∧
   cu 0 0 0 (bx k a b s).1 k.lc k.lp k.pb dict ((k.D.take a).length+(b-a)) (b-a) (k.D.take a) s.1 s.2.1 (s.2.2,Rd.start (bx k a b s).1)=some (k.D.take b,(bx k a b s).2.1,(bx k a b s).2.2.1,y):=by
 have h0:(aj 0).ok ML (54*(b-a)+0):=⟨QN,by show 1+0+2*(54*(b-a)+0)≤_;omega⟩
 obtain⟨M,hC,VW,hMd,st',r',x',qx,Nt,q12,qr,qf,qo⟩:=zO (lc:=k.lc) (lp:=k.lp) (pb:=k.pb) (D:=k.D) (dict:=(k.dict:Nat)) (nice:=k.nice) (b:=b) hb hD aa hn (b-a) a s.1 s.2.1 (s.2.2,ML) 0 aa (Nat.le_refl _) hs.st hs.r hs.fair h0;have⟨ss,UA⟩:=ex ((aV k.D (k.dict:Nat) k.nice b (b-a) a s.2.1).1);have vp:bx k a b s=(Rc.be (5+x'.2.k) x'.2.v,(st',r',x'.1)):=by unfold bx sS;rw[qx]
 rw[UA]at hC hMd Nt;rw[vp];have⟨L,hL⟩:=ex (Rc.be (5+x'.2.k) x'.2.v);have hLl:5≤L.length:=by rw[←hL,Rc.dc];omega
 have hLx:L=Rc.be (5+(M ss.length).x.2.k) (M ss.length).x.2.v:=by rw[Nt];exact hL.symm
 have anY:(M ss.length).x.2.ok:=by rw[Nt];exact qo.1
 have hA:pk x'.2 L:=by rw[←hL];exact yN _
 have VS:SJ (M ss.length).x.2 L (M 0).x (s.2.2,Rd.start L):=by rw[Nt,VW];exact⟨rfl,D3 hA qo.1 hLl⟩
 have hf0:Fair (M 0).x.1:=by rw[VW];exact hs.fair
 have ij:(M ss.length).H=k.D.take b:=by rw[Nt]
 have ahr:=hC.longer ss.length 0 aa;rw[Nat.zero_add]at ahr;have sQ:=hC.mono (Nat.zero_le _) (Nat.le_refl _);have h0l:(M 0).H.length=a:=by rw[VW];show(k.D.take a).length=a;rw[List.length_take];omega
 have gZ:(M ss.length).H.length=b:=by rw[ij,List.length_take];omega
 obtain⟨y',acj,hu⟩:=hC.reads (gd:=0) (o:=0) (cap:=0) (dict:=dict) (fin:=b) hf0 anY hLx VS ss.length (Nat.le_refl _) (fun i hi=>⟨by have:=hC.mono (show i+1≤ss.length from hi) (Nat.le_refl _);omega,fun Js=>Int.le_trans (hMd i hi Js) hd⟩);refine⟨by rw[hL];exact hLl,by rw[hL];show L.getD 0 0=0;exact JK hA qo.1 aa,⟨q12,qr,qf⟩,y',?_,?_,?_⟩;·have:=acj.1;rw[Nt]at this;exact this
 ·rw[hL];rw[Nt]at acj;exact SR (S:=x'.2) (P:=x'.1) hL.symm acj
 ·have hu2:=hu (b-a-ss.length);rw[show b-a-ss.length+ss.length=b-a by omega,kE (T:=(M ss.length).H) aa,VW,Nt]at hu2;rw[hL,show(k.D.take a).length+(b-a)=b by rw[List.length_take];omega];exact hu2
section
structure Bz where
 base:Nat
 w0:World
 bb:Nat
 ab:Nat
 R:Nat
 A:Option Addr
 B:List UInt8
 c:Nat
 dict:Int
abbrev GW(dict:Int)(v:Value)(s:gH)(cv:Value):List Value:=
 [.int .i64 dict,v,.int .i64 (s.start:Nat),.bool s.clear,.bool s.asked,.int .i64 (s.lc:Nat),.int .i64 (s.lp:Nat),.int .i64 (s.pb:Nat),cv]
def ks(base:Nat)(w:World)(cv:Value)(s:gH):Prop:=
 s.clear=true→s.asked=false→ ∃C L,cv=PF C∧(base≤C∧base≤L)∧bB w C L s.lc s.lp s.pb s.st s.r s.P∧jT (s.lc:Nat) (s.lp:Nat) (s.pb:Nat)=true∧s.st<12∧dI s.r
structure tF(k:Bz)(w:World)(pos:Nat)(s:gH)(cv:Value):Prop where
 wH:w.heap[k.bb]? =some (.cells #[.slice k.A k.B.length k.c] 22 (0,0))
 qy:w.heap[k.ab]? =some (.cells [Value.int .i64 (pos:Nat)].toArray 3 (0,0))
 row: ∃v,w.heap[k.R]? =some (.cells (GW k.dict v s cv).toArray 246 (0,0))∧Own k.base w v s.out
 low:k.base≤k.bb∧k.base≤k.ab∧k.base≤k.R
 bytes:Bytes w k.A k.B∧ ∀a,k.A=some a→a.block<k.base
 nums:k.B.length≤k.c∧k.c≤9223372036854775807∧k.B.length≤140737488355328∧pos≤k.B.length∧s.start≤s.out.length
 below:Below k.base k.w0 w
 BA:k.base≤k.w0.heap.size
def Uk(k:Bz)(w:World)(pos:Nat)(s:gH):Prop:= ∃cv,tF k w pos s cv∧ks k.base w cv s
theorem Own.neT{base:Nat}{W:World}{v:Value}{l:List UInt8}(h:Own base W v l){j:Nat}{cs:Array Value}{t:TypeId}{x:Nat×Nat}(hj:W.heap[j]? =some (.cells cs t x))(ht:t≠5):v.ownBlock≠some j:=by
 intro he;rcases h with⟨_,⟨rfl,_⟩ | ⟨g',dX,cur,rfl,_,h4,_⟩⟩
 ·cases he
 ·have e:g'=j:=by simpa [Value.ownBlock]using he
  subst e;rw[h4]at hj;injection hj with hj;injection hj with _ e2 _;exact ht e2.symm
theorem Own.typed{base:Nat}{w:World}{v:Value}{l:List UInt8}(h:Own base w v l){g:Nat}(hg:v.ownBlock=some g): ∃cs x,w.heap[g]? =some (.cells cs 5 x):=by
 rcases h with⟨_,⟨rfl,_⟩ | ⟨g',dX,cur,rfl,_,h4,_⟩⟩
 ·cases hg
 ·have e:g'=g:=by simpa [Value.ownBlock]using hg
  subst e;exact⟨_,_,h4⟩
section
variable{k:Bz}{w w':World}{pos:Nat}{s:gH}{cv:Value}
theorem tF.aA(h:tF k w pos s cv)(hb:Below k.base w w')(hX: ∀(i:Nat) (cs:Array Value) (t:TypeId) (x:Nat×Nat),w.heap[i]? =some (Obj.cells cs t x)→(t=22∨t=3∨t=246∨t=5)→w'.heap[i]? =w.heap[i]?):tF k w' pos s cv:=by
 obtain⟨v,hr,ho⟩:=h.row;refine⟨(hX _ _ _ _ h.wH (.inl rfl)).trans h.wH,(hX _ _ _ _ h.qy (.inr (.inl rfl))).trans h.qy,⟨v,(hX _ _ _ _ hr (.inr (.inr (.inl rfl)))).trans hr,ho.GV fun g hg=> ?_⟩,h.low,⟨?_,h.bytes.2⟩,h.nums,h.below.trans hb,h.BA⟩;·obtain⟨cs,x,hc⟩:=ho.typed hg;exact hX _ _ _ _ hc (.inr (.inr (.inr rfl)))
 ·refine h.bytes.1.aA hb.size fun p hp _=>hb.cell ?_;cases hA:k.A with
  | none=>rw[hA]at hp;cases hp
  | some a=>
   rw[hA]at hp;have e:a.block=p.block:=(by simpa using hp);rw[←e];exact h.bytes.2 a hA
theorem tF.aF(h:tF k w pos s cv)(hb:Below w.heap.size w w'):tF k w' pos s cv:=
 h.aA (hb.mono (Nat.le_trans h.BA h.below.size)) fun i _ _ _ hi _=>hb.block i (cr hi)
theorem ks.aA{base:Nat}(h:ks base w cv s)(hX: ∀(i:Nat) (cs:Array Value) (t:TypeId) (x:Nat×Nat),w.heap[i]? =some (Obj.cells cs t x)→(t=171∨t=317)→w'.heap[i]? =w.heap[i]?):ks base w' cv s:=by intro h1 h2;obtain⟨C,L,e,hb,hM,hp⟩:=h h1 h2;obtain⟨T,hT,_⟩:=hM.box;obtain⟨l,hl,_⟩:=hM.lits;exact⟨C,L,e,hb,hM.aA (hX _ _ _ _ hT (.inl rfl)) (hX _ _ _ _ hl (.inr rfl)),hp⟩
theorem ks.aF{base:Nat}(h:ks base w cv s)(hb:Below w.heap.size w w'):ks base w' cv s:=h.aA fun i _ _ _ hi _=>hb.block i (cr hi)
theorem ks.set{base:Nat}(h:ks base w cv s){p:Addr}{cs:Array Value}{t:TypeId}{x:Nat×Nat}(hp:w.heap[p.block]? =some (.cells cs t x))(h1:t≠171)(h2:t≠317)(u:Value):ks base (w.setCell p u) cv s:=
 h.aA fun i _ t' _ hi ht=>ah _ _ _ _ (l7 hi hp (by rcases ht with rfl | rfl<;>(first | exact fun e=>h1 e.symm | exact fun e=>h2 e.symm)))
theorem ks.same{base:Nat}{s':gH}(h:ks base w cv s)(h1:s'.clear=s.clear)(h2:s'.asked=s.asked)(h3:s'.lc=s.lc∧s'.lp=s.lp∧s'.pb=s.pb∧s'.st=s.st∧s'.r=s.r∧s'.P=s.P):ks base w cv s':=by unfold ks at*;obtain⟨e1,e2,e3,e4,e5,e6⟩:=h3;rw[h1,h2,e1,e2,e3,e4,e5,e6];exact h
theorem Uk.aF(h:Uk k w pos s)(hb:Below w.heap.size w w'):Uk k w' pos s:=by obtain⟨cv,h1,h2⟩:=h;exact⟨cv,h1.aF hb,h2.aF hb⟩
theorem tF.cells(h:tF k w pos s cv): ∃v,(w.cell? ⟨k.R,0,none⟩=some (.int .i64 k.dict)∧w.cell? ⟨k.R,1,none⟩=some v∧w.cell? ⟨k.R,2,none⟩=some (.int .i64 (s.start:Nat))∧w.cell? ⟨k.R,3,none⟩=some (.bool s.clear)∧w.cell? ⟨k.R,4,none⟩=some (.bool s.asked)∧w.cell? ⟨k.R,5,none⟩=some (.int .i64 (s.lc:Nat))∧w.cell? ⟨k.R,6,none⟩=some (.int .i64 (s.lp:Nat))∧w.cell? ⟨k.R,7,none⟩=some (.int .i64 (s.pb:Nat))∧w.cell? ⟨k.R,8,none⟩=some cv)∧Own k.base w v s.out∧ ∀i,w.frozen? ⟨k.R,i,none⟩=false:=by obtain⟨v,hr,ho⟩:=h.row;refine⟨v,⟨?_,?_,?_,?_,?_,?_,?_,?_,?_⟩,ho,fun i=>frozen_of_row _ _ _ _ _ hr⟩<;>(rw[cell_of_row w _ _ _ _ _ hr];rfl)
theorem tF.boxes(h:tF k w pos s cv):w.cell? ⟨k.bb,0,none⟩=some (.slice k.A k.B.length k.c)∧w.cell? ⟨k.ab,0,none⟩=some (.int .i64 (pos:Nat))∧w.frozen? ⟨k.ab,0,none⟩=false∧k.bb≠k.ab:=by
 refine⟨?_,?_,frozen_of_row _ _ _ _ _ h.qy,l7 h.wH h.qy ak⟩;·rw[cell_of_row w _ _ _ _ _ h.wH];rfl
 ·rw[cell_of_row w _ _ _ _ _ h.qy];rfl
theorem tF.setPos(h:tF k w pos s cv){p:Nat}(hp:p≤k.B.length):tF k (w.setCell ⟨k.ab,0,none⟩ (.int .i64 (p:Nat))) p s cv:=by
 obtain⟨v,hr,ho⟩:=h.row;have hB:Below k.base k.w0 (w.setCell ⟨k.ab,0,none⟩ (.int .i64 (p:Nat))):=h.below.setCell (p:=⟨k.ab,0,none⟩) h.low.2.1 _;refine⟨(ah _ _ _ _ (l7 h.wH h.qy ak)).trans h.wH,heap_set h.qy 0 _,⟨v,(ah _ _ _ _ (l7 hr h.qy ak)).trans hr,ho.GV fun g hg=>ah _ _ _ _ (fun e=>ho.neT h.qy ak (by rw[hg,e]))⟩,h.low,⟨?_,h.bytes.2⟩,⟨h.nums.1,h.nums.2.1,h.nums.2.2.1,hp,h.nums.2.2.2.2⟩,hB,h.BA⟩;refine h.bytes.1.aA ag fun q hq _=>World.cell?_setCell_far _ _ _ _ ?_;cases hA:k.A with
 | none=>rw[hA]at hq;cases hq
 | some a=>
  rw[hA]at hq;have e:a.block=q.block:=by simpa using hq
  have:=h.bytes.2 a hA;have:=h.low.2.1;show k.ab≠q.block;omega
theorem tF.put(h:tF k w pos s cv)(i:Nat)(u:Value){s':gH}{cv':Value}(aP: ∀v,(GW k.dict v s cv).set i u=GW k.dict v s' cv')(mU:s'.out=s.out)(bQ:s'.start≤s'.out.length):tF k (w.setCell ⟨k.R,i,none⟩ u) pos s' cv':=by
 obtain⟨v,hr,ho⟩:=h.row;have hB:Below k.base k.w0 (w.setCell ⟨k.R,i,none⟩ u):=h.below.setCell (p:=⟨k.R,i,none⟩) h.low.2.2 _;refine⟨(ah _ _ _ _ (l7 h.wH hr ak)).trans h.wH,(ah _ _ _ _ (l7 h.qy hr ak)).trans h.qy,⟨v,by rw[←aP v];exact heap_set hr i u,?_⟩,h.low,⟨?_,h.bytes.2⟩,⟨h.nums.1,h.nums.2.1,h.nums.2.2.1,h.nums.2.2.2.1,bQ⟩,hB,h.BA⟩;·rw[mU];exact ho.GV fun g hg=>ah _ _ _ _ (fun e=>ho.neT hr ak (by rw[hg,e]))
 ·refine h.bytes.1.aA ag fun q hq _=>World.cell?_setCell_far _ _ _ _ ?_;cases hA:k.A with
  | none=>rw[hA]at hq;cases hq
  | some a=>
   rw[hA]at hq;have e:a.block=q.block:=(by simpa using hq);have:=h.bytes.2 a hA;have:=h.low.2.2;show k.R≠q.block;omega
end
def pF(k:Bz)(x:tW)(e:Ending)(w':World):Prop:=
 match x with
 | .bad n=>e= .returned (.int .i64 (n:Nat))∧Below k.base k.w0 w'
 | .go pos s=>e= .returned (.int .i64 0)∧Uk k w' pos s
end
def vb(w:World)(e:Ending)(w':World):Prop:=e= .returned (.tuple #[.slice none 0 0,.int .i64 2])∧w=w'
def UB(k:Bz)(pos n:Nat)(s:gH)(cv:Value)(w:World)(e:Ending)(w':World):Prop:=
 ∃AP cP,e= .returned (.tuple #[.slice AP n cP,.int .i64 0])∧(n≤cP∧cP≤9223372036854775807)∧(Bytes w' AP ((k.B.drop pos).take n)∧ ∀a,AP=some a→a.block<k.base)∧tF k w' (pos+n) s cv∧(∀s' cv',ks k.base w cv' s'→ks k.base w' cv' s')
abbrev Mp(k:Bz):Value:= .func (.func 182) #[] #[PF k.bb,PF k.ab]
theorem ld{k:Bz}{s:gH}(h:tF k w pos s cv)(n:Nat)(hn:n≤1000000)(hl:k.B.length<pos+n):Calls prog 182 #[.int .i64 (n:Nat),PF k.bb,PF k.ab] w (vb w):=by obtain⟨b0,b1,b2,dH⟩:=h.boxes;obtain⟨n1,n2,n3,n4,_⟩:=h.nums;have⟨L,hL⟩:=ex (k.B.length);rw[hL]at b0 hl n1 n3 n4;have qw:(L:Int)-(pos:Int)<(n:Int):=aa;have hlb:decide ((L:Int)-(pos:Int)<(n:Int))=true:=decide_eq_true qw;have pX:(n:Int)≤1000000:=aa;have AU:(pos:Int)≤(L:Int):=aa;have hLi:(L:Int)≤140737488355328:=aa;clear h hL;go_enter func182,ntmps182;go_wp2_with fail;go_ret2;exact⟨rfl,rfl⟩
theorem mP{k:Bz}{s:gH}(h:tF k w pos s cv)(n:Nat)(hn:n≤1000000)(hl:pos+n≤k.B.length):Calls prog 182 #[.int .i64 (n:Nat),PF k.bb,PF k.ab] w (UB k pos n s cv w):=by
 obtain⟨b0,b1,b2,dH⟩:=h.boxes;obtain⟨n1,n2,n3,n4,_⟩:=h.nums;have nd:=h.setPos (p:=pos+n) hl;have zP: ∀s' cv',ks k.base w cv' s'→ks k.base (w.setCell ⟨k.ab,0,none⟩ (.int .i64 ((pos+n:Nat):Nat))) cv' s':=fun s' cv' hc=>hc.set (p:=⟨k.ab,0,none⟩) h.qy ak ak _;have⟨q,hq⟩:=ex (pos+n);rw[hq]at nd zP hl;have ZK:=nd.bytes;have hcut:=(ZK.1.cutFrom (k:=pos) n4 n1).take n;have⟨AP,hAP⟩:=ex ((if k.c=pos then k.A else k.A.map (·.add pos)));rw[hAP]at hcut;have eS: ∀a,AP=some a→a.block<k.base:=by
  intro a ha;rw[←hAP]at ha;split at ha;·exact ZK.2 a ha
  ·cases hA:k.A with
   | none=>rw[hA]at ha;cases ha
   | some a'=>
    rw[hA]at ha;have e:a'.add pos=a:=(by simpa using ha);rw[←e];exact(show(a'.add pos).block=a'.block from by unfold Addr.add;split<;>rfl)▸ZK.2 a' hA
 have V7:=ae hAP;have rA:=ae (And.intro nd (And.intro zP (And.intro hcut eS)));have b0':=nd.boxes.1;have b1':=nd.boxes.2.1;have HQ:=ae hq;have⟨L,hL⟩:=ex (k.B.length);rw[hL]at b0 b0' hl n1 n3 n4;have hpq:(pos:Int)+(n:Int)=(q:Int):=aa;have hqp:(q:Int)-(n:Int)=(pos:Int):=aa;have aw2:(pos:Int)≤(q:Int):=aa;have hqL:(q:Int)≤(L:Int):=aa;have hLc:(L:Int)≤(k.c:Int):=aa;have pW:(k.c:Int)≤9223372036854775807:=aa;have hlb:decide ((L:Int)-(pos:Int)<(n:Int))=false:=decide_eq_false aa;have pX:(n:Int)≤1000000:=aa;have AU:(pos:Int)≤(L:Int):=aa;have hLi:(L:Int)≤140737488355328:=aa;have arX:q-pos=n:=aa;have HN:=ae (show n≤k.c-pos∧k.c-pos≤9223372036854775807 by omega);clear h hL nd zP ZK hcut hAP eS hq hl n1 n2 n3 n4;go_enter func182,ntmps182;go_wp2_with fail;all_goals go_ret2
 ·refine⟨AP,0,?_,⟨aa,aa⟩,rA.out.2.2,by rw[HQ.out];exact rA.out.1,rA.out.2.1⟩;rw[←V7.out,if_pos (by first | assumption | omega)];try rfl
 ·refine⟨AP,k.c-pos,?_,HN.out,rA.out.2.2,by rw[HQ.out];exact rA.out.1,rA.out.2.1⟩;rw[←V7.out,if_neg rk];try rfl
theorem Kx(a b:Nat)(ha:a<256)(hb:b<256):bits .or .i64 ((a:Int)*256) (b:Int)=((256*a+b:Nat):Int):=by show IntKind.i64.wrap ((BitVec.ofInt 64 ((a:Int)*256) ||| BitVec.ofInt 64 (b:Int)).toNat:Int)=_;have h1:(BitVec.ofInt 64 ((a:Int)*256)).toNat=a*256:=xu;have h2:(BitVec.ofInt 64 (b:Int)).toNat=b:=xu;have h3:=yL a b 8 hb;rw[BitVec.toNat_or,h1,h2,show(256:Nat)=2^8 by decide,h3];unfold IntKind.wrap;simp[IntKind.bits,IntKind.signed];omega
theorem O7(A:Option Addr)(l:List UInt8)(c:Nat)(w:World)(hB:Bytes w A l)(h:2≤l.length):Calls prog 247 #[.slice A l.length c] w fun e w'=>e= .returned (.int .i64 (db l 0:Nat))∧Below w.heap.size w w':=by obtain⟨b,off,rfl,hb,hc⟩:=hB.addr aa;clear hB;have k0:=hc 0 aa;have k1:=hc 1 aa;rw[Nat.add_zero]at k0;have e0:=dj (d:=l) (i:=0) aa;have e1:=dj (d:=l) (i:=1) aa;have hR:db l 0=256*(l.getD 0 0).toNat+(l.getD 1 0).toNat:=rfl;rw[←e0]at k0;rw[←e1]at k1;rw[hR];have l0:=(l.getD 0 0).toNat_lt;have l1:=(l.getD 1 0).toNat_lt;clear hc e0 e1 hR;generalize l.getD 0 0=x at*;generalize l.getD 1 0=y at*;generalize l.length=L at*;have HTB:=Kx x.toNat y.toNat l0 l1;have hx:(x.toNat:Int)<256:=aa;have hL:(2:Int)≤(L:Int):=aa;have hw:wrap64 ((x.toNat:Int)*256)=(x.toNat:Int)*256:=oy;go_enter func247,ntmps247;go_wp2_with fail;go_quiet (fail);go_wp2_with fail;go_ret;exact⟨rfl,below_drewN (Below.refl _ _) _⟩
theorem Own.shape{base:Nat}{l:List UInt8}(h:Own base w v l): ∃A n c,v= .slice A n c:=by obtain⟨A,c,e,_⟩:=h.read;exact⟨A,_,c,e⟩
theorem tF.append{k:Bz}{w':World}{s:gH}{v':Value}{m:List UInt8}(h:tF k w pos s cv)(hr:w.cell? ⟨k.R,1,none⟩=some v)(hg:w.grownBy w' v.ownBlock)(mU:Own k.base w' v' (s.out++m)):
  tF k (w'.setCell ⟨k.R,1,none⟩ v') pos {s with out:=s.out++m} cv∧(∀s' cv',ks k.base w cv' s'→ks k.base (w'.setCell ⟨k.R,1,none⟩ v') cv' s')∧w'.frozen? ⟨k.R,1,none⟩=false∧w'.cell? ⟨k.R,1,none⟩=some v:=by
 obtain⟨v0,aP,ho⟩:=h.row;have e:v0=v:=by rw[cell_of_row w _ _ _ _ _ aP]at hr;injection hr
 subst e;have up: ∀{i:Nat} {cs:Array Value} {t:TypeId} {x:Nat×Nat},w.heap[i]? =some (.cells cs t x)→t≠5→w'.heap[i]? =w.heap[i]? :=fun hi ht=>hg.block _ (cr hi) (fun e=>ho.neT hi ht e.symm);have hb:=h.below.grown hg (Nat.le_trans h.BA h.below.size) (fun g e=>(ho.ax g e).1);have GX:=(up aP ak).trans aP;have hB:Below k.base k.w0 (w'.setCell ⟨k.R,1,none⟩ v'):=hb.setCell (p:=⟨k.R,1,none⟩) h.low.2.2 _;refine⟨⟨(ah _ _ _ _ (l7 h.wH aP ak)).trans ((up h.wH ak).trans h.wH),(ah _ _ _ _ (l7 h.qy aP ak)).trans ((up h.qy ak).trans h.qy),⟨v',heap_set GX 1 v',mU.GV fun g hg'=>ah _ _ _ _ (fun e=>mU.neT GX ak (by rw[hg',e]))⟩,h.low,⟨?_,h.bytes.2⟩,⟨h.nums.1,h.nums.2.1,h.nums.2.2.1,h.nums.2.2.2.1,?_⟩,hB,h.BA⟩,fun s' cv' hc=> ?_,frozen_of_row _ _ _ _ _ GX,by rw[cell_of_row w' _ _ _ _ _ GX];rfl⟩
 ·have bR:=Nat.le_trans h.BA h.below.size;refine h.bytes.1.aA (Nat.le_trans hg.size ag) fun q hq _=> ?_;have ZI:q.block<k.base:=by
   cases hA:k.A with
   | none=>rw[hA]at hq;cases hq
   | some a=>
    rw[hA]at hq;have e:a.block=q.block:=(by simpa using hq);rw[←e];exact h.bytes.2 a hA
  refine(World.cell?_setCell_far _ _ _ _ (by have:=h.low.2.2;show k.R≠q.block;omega)).trans ?_;exact World.cell?_of_block (hg.block _ aa (fun e=>by have:=(ho.ax _ e.symm).1;omega))
 ·have:=h.nums.2.2.2.2;show s.start≤(s.out++m).length;rw[List.length_append];omega
 ·exact(hc.aA fun i cs t x hi ht=>up hi (by rcases ht with rfl | rfl<;>decide)).set (p:=⟨k.R,1,none⟩) GX ak ak _
theorem jH{k:Bz}{A:Option Addr}{p c:Nat}(hB:Bytes w A (((k.B.drop p).take n).drop i))(hp:p+n≤k.B.length)(hi:i+2≤n):Calls prog 247 #[.slice A (n-i) c] w fun e w'=>e= .returned (.int .i64 (db k.B (p+i):Nat))∧Below w.heap.size w w':=by
 have hl:(((k.B.drop p).take n).drop i).length=n-i:=av;have h:=O7 A _ c w hB aa;rw[hl]at h;have e:db (((k.B.drop p).take n).drop i) 0=db k.B (p+i):=by rw[←O3 k.B (k:=p) (n:=n) (i:=i) hi];unfold db;simp only[List.getD_eq_getElem?_getD,List.getElem?_drop,Nat.add_zero]
 rw[e]at h;exact h
theorem zQ{k:Bz}{s:gH}(h:Uk k w pos s)(ho:s.out.length≤400000000):Calls prog 216 #[PF k.R,Mp k] w (pF k (fB k.B pos s)):=by
 obtain⟨cv,hU,hC⟩:=h;have HU:=ae hU;have HC:=ae hC;have HO:=ae ho;clear hU hC ho;have⟨t,ht⟩:=ex (db k.B pos);have O8:t<65536:=wM;by_cases h1:k.B.length<pos+2
 ·have HN:=ae (ld HU.out 2 ak h1);have gY:fB k.B pos s= .bad 2:=by unfold fB;rw[if_pos h1]
  have HR:=ae gY;clear gY h1 ht O8;go_enter func216,ntmps216;go_wp2_with fail;refine HN.out.mono ?_;rintro e w1 ⟨rfl,rfl⟩;go_wp2_with fail;go_ret;rw[HR.out];exact⟨rfl,HU.out.below⟩
 ·have HN:=ae (mP HU.out 2 ak aa);have⟨n,hn⟩:=ex (t+1);have hti:(t:Int)+1=(n:Int):=aa;have pX:(n:Int)≤65536:=aa;have qt:n≤65536:=aa;by_cases h2:k.B.length<pos+2+n;·have gY:fB k.B pos s= .bad 2:=(by unfold fB;rw[if_neg h1,ht,hn,if_pos h2]);have HR:=ae gY;have HT:=ae ht;have H2:=ae (And.intro h1 (And.intro h2 qt));clear gY h1 h2 hn ht O8 qt;go_enter func216,ntmps216;go_wp2_with fail;refine HN.out.mono ?_;rintro e w1 ⟨A1,c1,rfl,cC,eW,tG,xd⟩;have Mq:=ae (jH (k:=k) (i:=0) (c:=c1) eW.1 (am H2.out) ak);rw[Nat.add_zero,HT.out]at Mq;have qj:=ae tG;have O9:(2:Int)≤(c1:Int):=aa;clear eW tG xd cC;go_wp2_with fail;refine Mq.out.mono ?_;rintro e w2 ⟨rfl,aD⟩;have nR:=ae (ld (qj.out.aF aD) n (am H2.out) (am H2.out));have y_:=ae (qj.out.aF aD);clear aD;go_wp2_with fail;refine nR.out.mono ?_;rintro e w3 ⟨rfl,rfl⟩;go_wp2_with fail;go_ret;rw[HR.out];exact⟨rfl,y_.out.below⟩
  ·have gY:fB k.B pos s= .go (pos+2+n) {s with out:=s.out++(k.B.drop (pos+2)).take n}:=(by unfold fB;rw[if_neg h1,ht,hn,if_neg h2]);have HR:=ae gY;have HT:=ae ht;have H2:=ae (And.intro h1 (And.intro h2 qt));clear gY h1 h2 hn ht O8 qt;go_enter func216,ntmps216;go_wp2_with fail;refine HN.out.mono ?_;rintro e w1 ⟨A1,c1,rfl,cC,eW,tG,xd⟩;have Mq:=ae (jH (k:=k) (i:=0) (c:=c1) eW.1 (am H2.out) ak);rw[Nat.add_zero,HT.out]at Mq;have qj:=ae (And.intro tG xd);have O9:(2:Int)≤(c1:Int):=aa;clear eW tG xd cC;go_wp2_with fail;refine Mq.out.mono ?_;rintro e w2 ⟨rfl,aD⟩;have nR:=ae (mP (qj.out.1.aF aD) n (am H2.out) (am H2.out));have YM:=ae ((qj.out.2 _ _ HC.out).aF aD);clear aD;go_wp2_with fail;refine nR.out.mono ?_;rintro e w3 ⟨A3,c3,rfl,oj,ln,hU3,hC3⟩;obtain⟨v,⟨_,r1,_,_,_,_,_,_,_⟩,Mr,lW⟩:=hU3.cells;have ud:=lW 1;have qu:((k.B.drop (pos+2)).take n).length=n:=(by have:=H2.out;simp;omega);have oq:=Nat.le_trans hU3.BA hU3.below.size;have HX:=ae (And.intro hU3 (And.intro (hC3 _ _ YM.out) (And.intro Mr (And.intro ln.1 (And.intro qu (And.intro oq (hU3.low.2.2)))))));have wZ:=ae r1;clear lW Mr hU3 hC3 ln qu oq oj;go_upto_region 7 with fail;go_wp2_with (at_builtin;refine ap rfl (.tmp 31) (.tmp 32) rfl k.base w3 v _ rfl HX.out.2.2.1 A3 ((k.B.drop (pos+2)).take n) c3 (by rw[HX.out.2.2.2.2.1];rfl) HX.out.2.2.2.1 (by have:=HX.out.2.2.2.2.1;have:=HO.out;have:=H2.out;omega) HX.out.2.2.2.2.2.1 ?_;intro v' w4 cY et;obtain⟨A4,n4,c4,e4⟩:=cY.shape;subst e4;obtain⟨hU4,hC4,TV,qE⟩:=HX.out.1.append wZ.out et cY;have HU4:=ae hU4;have P7:=ae (hC4 _ _ HX.out.2.1);clear hU4 hC4 cY et)
   go_ret;rw[HR.out];exact⟨rfl,_,HU4.out,P7.out.same rfl rfl ⟨rfl,rfl,rfl,rfl,rfl,rfl⟩⟩
def UC(g o cap:Nat)(L:List UInt8)(C Lb lc lp pb h:Nat)(res:Option (List UInt8×Nat×R4×PD))(w:World)(e:Ending)(w':World):Prop:=
 match res with
 | none=>e= .returned (.tuple #[.slice none 0 0,.int .i64 6])∧aw [C,Lb,g,o] w w'
 | some (T,st,r,y)=> ∃A c,e= .returned (.tuple #[.slice A (T.drop h).length c,.int .i64 0])∧((T.drop h).length≤c∧c≤9223372036854775807)∧Bytes w' A (T.drop h)∧bB w' C Lb lc lp pb st r y.1∧iT w' g o cap L y.2∧aw [C,Lb,g,o] w w'∧st<12∧dI r
theorem Ky{C Lb st:Nat}{P:Nat→Nat}(hM:bB w C Lb lc lp pb st r P)(hD:iT w g o cap L (Rd.start L))(h5:5≤L.length∧L.length≤140737488355328)(dH:C≠g∧C≠o∧Lb≠g∧Lb≠o)(si:lc≤4)(ur:lp≤4)(wn:pb≤4)(bQ:st<12)(hr:dI r)
  (A:Option Addr) (H:List UInt8) (c:Nat) (hB:Bytes w A H) (hc:H.length≤c) (hH:H.length≤400000000) (many:Nat) (ahs:many≤400000000) (dict:Int) (iz:1≤dict) (jz:dict≤9223372036854775807):
  Calls prog 264 #[PF g,PF C,.slice A H.length c,.int .i64 (many:Nat),.int .i64 dict] w (UC g o cap L C Lb lc lp pb H.length (cu 0 0 0 L lc lp pb dict (H.length+many) many H st r (P,Rd.start L)) w):=by
 have hms:MS (aq g o cap L) w C Lb lc lp pb st r (P,Rd.start L) [g,o]:=⟨hM,⟨rfl,hD⟩,av,av⟩
 have sj:=Kw hms si ur wn bQ hr ⟨Rd.SG h5.1,h5.2⟩ A H c hB hc aa many aa dict iz jz;have hp:zM r:=hr.1;have hcut:=Kv (gd:=g) (o:=o) (cap:=cap) (L:=L) (lc:=lc) (dict:=dict) ur wn H many st r (P,Rd.start L) hp;have eS:=zN H.length (show 0≤max dict r.1 by have:=hp.1;omega);rw[Ku (gd:=g) (o:=o) (cap:=cap) many H]at hcut;obtain⟨vM,pn⟩: ∃R,cu 0 0 0 L lc lp pb dict (H.length+many) many H st r (P,Rd.start L)=R:=⟨_,rfl⟩
 obtain⟨cut,hce⟩: ∃n,fR H.length (max dict r.1)=n:=⟨_,rfl⟩
 rw[pn]at hcut ⊢;rw[hce]at hcut sj eS;refine sj.mono fun e w' hd=> ?_;have jz:EA g o cap L C Lb lc lp pb [g,o] (H.length-cut) (vM.map fun q=>(q.1.drop cut,q.2)) w e w'∧rX (vM.map fun q=>(q.1.drop cut,q.2)):=Eq.mp (congrArg (fun res=>EA g o cap L C Lb lc lp pb [g,o] (H.length-cut) res w e w'∧rX res) hcut) hd;clear hd;cases vM with
 | none=>exact jz.1
 | some q=>
  obtain⟨T,st',r',y'⟩:=q;obtain⟨vV,hf⟩:=jz;obtain⟨uG,YW⟩:=hf _ rfl;obtain⟨A9,c9,rfl,V5,hm9,Qq,X9,I4,uu,_⟩:=(show EA g o cap L C Lb lc lp pb [g,o] (H.length-cut) (some (T.drop cut,st',r',y')) w e w' from vV)
  have e1:(T.drop cut).drop (H.length-cut)=T.drop H.length:=by rw[List.drop_drop,show cut+(H.length-cut)=H.length by omega]
  have e2:(T.drop cut).length-(H.length-cut)=(T.drop H.length).length:=by rw[List.length_drop,List.length_drop];omega
  rw[e1]at Qq;rw[e2]at V5;obtain rfl:X9=[g,o]:=I4.io.1;exact⟨A9,c9,by rw[e2],⟨V5,hm9⟩,Qq,I4.mod,I4.io.2,uu,uG,YW⟩
theorem tF.same{k:Bz}{s s':gH}(h:tF k w pos s cv)(h1: ∀v,GW k.dict v s cv=GW k.dict v s' cv)(h2:s'.out=s.out)(h3:s'.start=s.start):tF k w pos s' cv:=by obtain⟨v,hr,ho⟩:=h.row;exact⟨h.wH,h.qy,⟨v,by rw[←h1];exact hr,by rw[h2];exact ho⟩,h.low,h.bytes,by rw[h2,h3];exact h.nums,h.below,h.BA⟩
theorem nG{k:Bz}{s:gH}(h:Uk k w pos s)(eS:s.clear=true)(has:s.asked=false)(ho:s.out.length≤400000000)(A:Option Addr)(L:List UInt8)(c:Nat)(hB:Bytes w A L)(hL:L.length≤65536)(size:Nat)(dl:size≤4000000)(iz:1≤k.dict)(jz:k.dict≤9223372036854775807):
  Calls prog 249 #[PF k.R,.slice A L.length c,.int .i64 (size:Nat)] w (pF k (dR L size k.dict pos s)):=by
 obtain⟨cv,hU,hC⟩:=h;obtain⟨C,Lb,rfl,AQ,hM,gN,bQ,YW⟩:=hC eS has;have Dy:=of_decide_eq_true gN;have HU:=ae hU;have HM:=ae (And.intro hM (And.intro AQ (And.intro bQ YW)));have HP:=ae (And.intro (show s.lc≤4 by omega) (And.intro (show s.lp≤4 by omega) (And.intro (show s.pb≤4 by omega) gN)));have HO:=ae ho;have HCA:=ae (And.intro eS has);by_cases h5:L.length<5;·have HN:=ae (JI A L c w h5);have HR:=ae (show dR L size k.dict pos s= .bad 6 by unfold dR;rw[if_pos h5]);generalize L.length=n at*;clear hU hC hM AQ bQ YW Dy gN ho eS has h5 hB hL;go_enter func249,ntmps249;go_wp2_with fail;refine HN.out.mono ?_;rintro e w1 ⟨rfl,rfl⟩;go_wp2_with fail;go_ret;rw[HR.out];exact⟨rfl,HU.out.below⟩
 ·by_cases h0:L.getD 0 0≠0;·have HN:=ae (SH A L c w hB aa h0);have HR:=ae (show dR L size k.dict pos s= .bad 6 by unfold dR;rw[if_neg h5,if_pos h0]);clear hU hC hM AQ bQ YW Dy gN ho eS has h5 hB hL h0;go_enter func249,ntmps249;go_wp2_with fail;refine HN.out.mono ?_;rintro e w1 ⟨rfl,rfl⟩;go_wp2_with fail;go_ret;rw[HR.out];exact⟨rfl,HU.out.below⟩
  ·have h0':L.getD 0 0=0:=(by simpa using h0);have HN:=ae (NJ A L c w hB aa aa h0');obtain⟨vM,pn⟩: ∃R,cu 0 0 0 L s.lc s.lp s.pb k.dict ((s.out.drop s.start).length+size) size (s.out.drop s.start) s.st s.r (s.P,Rd.start L)=R:=⟨_,rfl⟩
   have HR:=ae (show dR L size k.dict pos s=nF L (s.out.drop s.start).length pos s vM by unfold dR;rw[if_neg h5,if_neg h0,pn]);have nl:=ae pn;have HL:=ae (show 5≤L.length∧L.length≤140737488355328 by omega);have aw4:(size:Int)≤4000000:=aa;clear hU hC hM AQ bQ YW Dy gN ho eS has h5 hB hL h0 h0' pn;go_enter func249,ntmps249;go_wp2_with fail;refine HN.out.mono ?_;rintro e w1 ⟨g,o,cap,rfl,hD,az,hg,hoo⟩;have tG:=HU.out.aF az;have p7:=HM.out.1.aA (az.block _ HM.out.1.Au) (az.block _ HM.out.1.xS);have aH:=And.intro HM.out.1.Au HM.out.1.xS;have uC:=az.size;obtain⟨v,⟨r0,r1,r2,_,_,_,_,_,r8⟩,Mr,lW⟩:=tG.cells;obtain⟨AO,cO,rfl,hcO,hmO,hBO⟩:=Mr.read;have UA:=tG.nums.2.2.2.2;have hBH:=hBO.cutFrom UA hcO;have⟨AH,hAH⟩:=ex ((if cO=s.start then AO else AO.map (·.add s.start)));rw[hAH]at hBH;have hlen:(s.out.drop s.start).length=s.out.length-s.start:=List.length_drop;obtain⟨hl,hhl⟩: ∃n,s.out.length-s.start=n:=⟨_,rfl⟩
   rw[hhl]at hlen;obtain⟨ca,IB⟩: ∃n,cO-s.start=n:=⟨_,rfl⟩
   have HUD:Hid (∀W,Below w1.heap.size w1 W→Calls prog 264 #[PF g,PF C,.slice AH hl ca,.int .i64 (size:Nat),.int .i64 k.dict] W (UC g o cap L C Lb s.lc s.lp s.pb hl vM W)):=ae (fun W hW=>by
    have hud:=Ky (p7.aA (hW.block _ aa) (hW.block _ aa)) (hD.below hW) HL.out ⟨aa,aa,aa,aa⟩ HP.out.1 HP.out.2.1 HP.out.2.2.1 HM.out.2.2.1 HM.out.2.2.2 AH (s.out.drop s.start) ca (hBH.below hW) aa (am HO.out) size aa k.dict iz jz;rw[nl.out,hlen]at hud;exact hud)
   obtain⟨v0,aP,_⟩:=tG.row;obtain⟨v00,UD,_⟩:=HU.out.row;have hRw:=(cr UD)
   obtain⟨T,hT,_⟩:=p7.box;obtain⟨l,aH,_⟩:=p7.lits;have hRC:=l7 aP hT ak;have hRL:=l7 aP aH ak;have EY:=(cr aP)
   obtain⟨T0,rr,_⟩:=HM.out.1.box;obtain⟨l0,ahE,_⟩:=HM.out.1.lits;have hkx: ∀x,aw [C,Lb,g,o] w1.drew x→tF k x pos s (PF C)∧Below k.base k.w0 x:=by
    intro x hx;have ki:Below k.base w x:=(az.mono (Nat.le_trans HU.out.BA HU.out.below.size)).trans ((Below.refl _ _).drew.trans (hx.below (Nat.le_trans HU.out.BA (Nat.le_trans HU.out.below.size uC)) (by
     intro i hi;have h1:=HM.out.2.1;have h2:=Nat.le_trans HU.out.BA HU.out.below.size;simp only[List.mem_cons,List.not_mem_nil,or_false]at hi;rcases hi with rfl | rfl | rfl | rfl<;>omega)))
    refine⟨HU.out.aA ki fun i cs t y hi ht=> ?_,HU.out.below.trans ki⟩;have aod:=(cr hi)
    refine(hx.block i (show i<w1.heap.size by omega) ?_).trans (az.block i aod);intro hm;simp only[List.mem_cons,List.not_mem_nil,or_false]at hm;rcases hm with rfl | rfl | rfl | rfl;·rw[rr]at hi;injection hi with hi;injection hi with _ e _;subst e;revert ht;decide
    ·rw[ahE]at hi;injection hi with hi;injection hi with _ e _;subst e;revert ht;decide
    ·omega
    ·omega
   have HKX:=ae hkx;have Ib:Hid (∀W:World,W.heap[k.R]? =w1.heap[k.R]? →W.cell? ⟨k.R,0,none⟩=some (.int .i64 k.dict)∧W.cell? ⟨k.R,1,none⟩=some (.slice AO s.out.length cO)∧W.cell? ⟨k.R,2,none⟩=some (.int .i64 (s.start:Nat))∧W.cell? ⟨k.R,8,none⟩=some (PF C)):=ae (fun W hW=>⟨(World.cell?_of_block (a:=⟨k.R,0,none⟩) hW).trans r0,(World.cell?_of_block (a:=⟨k.R,1,none⟩) hW).trans r1,(World.cell?_of_block (a:=⟨k.R,2,none⟩) hW).trans r2,(World.cell?_of_block (a:=⟨k.R,8,none⟩) hW).trans r8⟩);have xZ:Hid (∀W:World,aw [C,Lb,g,o] w1.drew W→W.cell? ⟨k.R,0,none⟩=some (.int .i64 k.dict)∧W.cell? ⟨k.R,1,none⟩=some (.slice AO s.out.length cO)∧W.cell? ⟨k.R,2,none⟩=some (.int .i64 (s.start:Nat))∧W.cell? ⟨k.R,8,none⟩=some (PF C)):=ae (fun W hW=>Ib.out W (hW.block k.R EY (by simp only[List.mem_cons,List.not_mem_nil,or_false];omega)));have Ih:=Ib.out w1.drew rfl;have sQ: ∀q,vM=some q→q.1.length≤hl+size:=fun q e=>(by have h1:=(rW size _ _ _ _ (nl.out.trans e)).2 aa;omega);have ahF:=ae sQ;have HAH:=ae (And.intro hAH (And.intro hhl (And.intro IB hlen)));have XG:(s.out.length:Int)≤400000000:=am HO.out;have aw9:(s.start:Int)≤(s.out.length:Int):=aa;have axa:(s.out.length:Int)≤(cO:Int):=aa;have qn:(cO:Int)≤9223372036854775807:=aa;clear tG p7 aH hD az hg hoo Mr lW hcO hmO hBO UA hBH hlen hAH hhl IB aP hT hRC hRL EY hkx sQ UD hRw rr ahE r0 r1 r2 r8;cases vM with
   | none=>
    go_upto_region 4 with fail;refine wp_region_held_drew (S:=fun W=>W.cell? ⟨k.R,0,none⟩=some (.int .i64 k.dict)∧W.cell? ⟨k.R,1,none⟩=some (.slice AO s.out.length cO)∧W.cell? ⟨k.R,2,none⟩=some (.int .i64 (s.start:Nat))∧W.cell? ⟨k.R,8,none⟩=some (PF C)) ai Ih (fun hS=> ?_);refine af 0 hS (h:=af 1 hS (h:=af 2 hS (h:=af 3 hS (h:=aL 4 hS (h:=af 5 hS (h:=af 6 hS (h:=af 7 hS (h:=aL 8 hS (h:=af 9 hS (h:=af 10 hS (h:=af 11 hS (h:= ?_))))))))))));refine aL 12 hS (h:= ?_);refine gK 13 (v:= .slice AH hl ca) ?ahG hS ?_;case ahG=>intro w hSw;go_simp;exact⟨HAH.out.1,HAH.out.2.1,HAH.out.2.2.1⟩
    refine dM ?_;refine af 14 hS (h:=af 15 hS (h:=af 16 hS (h:=af 17 hS (h:=aL 18 hS (h:= ?_)))));refine aC 19 (fun K hK=> ?_);go_simp;refine(HUD.out _ (a8 _)).mono ?_;rintro e x19 ⟨rfl,ci⟩;have g19:=xZ.out _ ci;have kg:=ae ci;clear ci;go_wp2_with fail;refine hK.out _ _ g19 (fun _=> ?_);clear hK K;refine af 20 g19 (h:=af 21 g19 (h:=af 22 g19 (h:=af 23 g19 (h:=af 24 g19 (h:= ?_)))));refine wpAnyH_done ai ?_ _;go_wp2_with fail;go_ret;rw[HR.out];exact⟨rfl,(HKX.out _ kg.out).2⟩
   | some q=>
    obtain⟨T9,st9,r9,y9⟩:=q;go_upto_region 4 with fail;refine wp_region_held_drew (S:=fun W=>W.cell? ⟨k.R,0,none⟩=some (.int .i64 k.dict)∧W.cell? ⟨k.R,1,none⟩=some (.slice AO s.out.length cO)∧W.cell? ⟨k.R,2,none⟩=some (.int .i64 (s.start:Nat))∧W.cell? ⟨k.R,8,none⟩=some (PF C)) ai Ih (fun hS=> ?_);refine af 0 hS (h:=af 1 hS (h:=af 2 hS (h:=af 3 hS (h:=aL 4 hS (h:=af 5 hS (h:=af 6 hS (h:=af 7 hS (h:=aL 8 hS (h:=af 9 hS (h:=af 10 hS (h:=af 11 hS (h:= ?_))))))))))));refine aL 12 hS (h:= ?_);refine gK 13 (v:= .slice AH hl ca) ?ahH hS ?_;case ahH=>intro w hSw;go_simp;exact⟨HAH.out.1,HAH.out.2.1,HAH.out.2.2.1⟩
    refine dM ?_;refine af 14 hS (h:=af 15 hS (h:=af 16 hS (h:=af 17 hS (h:=aL 18 hS (h:= ?_)))));refine aC 19 (fun K hK=> ?_);go_simp;refine(HUD.out _ (a8 _)).mono ?_;rintro e x19 ⟨A9,c9,rfl,V5,Qq,I4,hD9,ci,uG,ahI⟩;have g19:=xZ.out _ ci;have kg:=ae ci;have H9:=ae (And.intro Qq (And.intro I4 (And.intro hD9 (And.intro uG ahI))));clear ci Qq I4 hD9 uG ahI;go_wp2_with fail;refine hK.out _ _ g19 (fun _=> ?_);clear hK K;refine af 20 g19 (h:=af 21 g19 (h:=af 22 g19 (h:=af 23 g19 (h:=af 24 g19 (h:= ?_)))));refine wpAnyH_done ai ?_ _;clear hS Ih HUD Ib xZ;have Sh:=ae (QV g o cap L y9.2 x19 H9.out.2.2.1);have ahJ:T9.length-hl≤4000000:=(by have:=ahF.out _ rfl;simp only at this;omega);have aof:=ae ahJ;clear ahJ;cases Tp:y9.2.done L with
    | false=>
     rw[Tp]at Sh;have vc:=ae (HR.out.trans (show nF L (s.out.drop s.start).length pos s (some (T9,st9,r9,y9))= .bad 6 by unfold nF;exact if_neg (by rw[Tp];decide)));go_wp2_with fail;refine Sh.out.mono ?_;rintro e x20 ⟨rfl,Kz⟩;go_wp2_with fail;go_ret;rw[vc.out];exact⟨rfl,((HKX.out _ kg.out).1.aF Kz).below⟩
    | true=>
     rw[Tp]at Sh;have vc:=ae (HR.out.trans (show nF L (s.out.drop s.start).length pos s (some (T9,st9,r9,y9))= .go pos {s with out:=s.out++T9.drop hl,st:=st9,r:=r9,P:=y9.1} by unfold nF;rw[HAH.out.2.2.2];exact if_pos Tp));clear Tp;go_wp2_with fail;refine Sh.out.mono ?_;rintro e x20 ⟨rfl,Kz⟩;have UE:=(HKX.out _ kg.out).1.aF Kz;have ahK:=H9.out.2.1.aA (Kz.block _ H9.out.2.1.Au) (Kz.block _ H9.out.2.1.xS);obtain⟨v,⟨_,r1,_,_,_,_,_,_,_⟩,Mr,lW⟩:=UE.cells;have ud:=lW 1;have oq:=Nat.le_trans UE.BA UE.below.size;have HX:=ae (And.intro UE (And.intro Mr (And.intro (H9.out.1.below Kz) (And.intro ahK oq))));have wZ:=ae r1;clear lW Mr UE ahK Kz oq;go_upto_region 7 with fail;go_wp2_with (at_builtin;refine ap rfl (.tmp 51) (.tmp 52) rfl k.base x20 v _ rfl HX.out.2.1 A9 (T9.drop hl) c9 (by rw[List.length_drop];rfl) HX.out.2.2.1 (by have:=aof.out;have:=HO.out;rw[List.length_drop];omega) HX.out.2.2.2.2 ?_;intro v' w4 cY et;obtain⟨A4,n4,c4,e4⟩:=cY.shape;subst e4;obtain⟨hU4,hC4,TV,qE⟩:=HX.out.1.append wZ.out et cY;have HU4:=ae hU4;have P7:=ae (hC4 {s with out:=s.out++T9.drop hl,st:=st9,r:=r9,P:=y9.1} (PF C) (fun _ _=>⟨C,Lb,rfl,HM.out.2.1,HX.out.2.2.2.1,HP.out.2.2.2,H9.out.2.2.2.1,H9.out.2.2.2.2⟩));clear hU4 hC4 cY et)
     go_ret;rw[vc.out];exact⟨rfl,_,HU4.out.same (fun _=>rfl) rfl rfl,P7.out⟩
end Go.Proofs.YtfcaoggfnkhfiaaGreatDoor
