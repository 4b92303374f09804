import Derived.Test.YtgfpocdiojifoaaGreatDoorZ34
import Derived.Deep.RegionHeld3
import Derived.RowKit3
namespace Go.Proofs.YtgfpocdiojifoaaGreatDoor
set_option maxRecDepth 100000
set_option maxHeartbeats 8000000
open Go.RowKit
def gy(id:Int)(l:List UInt8):Option bK:=
 if id=33 then(match l with | [x]=>if x.toNat≤40 then some ⟨33,aJ x.toNat⟩else none | _=>none)
 else if id=3 then(match l with | [x]=>some ⟨3,x.toNat+1⟩ | _=>none)
 else if lC id=true then(match l with | []=>some ⟨id,0⟩ | [a,b,c,d]=>if a.toNat%4=0 then some ⟨id,word true a b c d⟩else none | _=>none)
 else none
def am9(w:World)(yes no:Value)(r:Option bK):Ending→World→Prop:=
 match r with
 | some f=>yA w f.id f.n yes
 | none=>yA w 0 0 no
theorem Po(A:Option Addr)(n c:Nat)(h:n≠1)(w:World):
  Calls Tryz.prog 184 #[.int .i64 33,.slice A n c] w (yA w 0 0 (.int .i64 5)):=by
 have HI:=Lib.hid (eH 33)
 rw[show lC 33=false by decide]at HI
 have d1:((n:Int)==1)=false:=by simp;omega
 clear h
 go_enter Tryz.func184,Tryz.ntmps184
 go_wp2_with fail
 refine(HI.out _).mono ?_
 rintro e w' ⟨rfl,rfl⟩
 go_wp2_with fail
 refine(HI.out _).mono ?_
 rintro e w' ⟨rfl,rfl⟩
 go_wp2_with fail
 exact bodyPost_ret (v:= .tuple #[.agg #[.int .i64 0,.int .u32 0],.int .i64 5]) (by simp[results,Tryz.results184,go_sem]) rfl ⟨rfl,((Below.refl _ _).alloc (Nat.le_refl _) _).alloc (by simp) _⟩
theorem LX(b off c:Nat)(x:UInt8)(h:40<x.toNat)(w:World)(hx:w.cell? ⟨b,off,none⟩=some (B8 x))(hb:b<w.heap.size):
  Calls Tryz.prog 184 #[.int .i64 33,.slice (some ⟨b,off,none⟩) 1 c] w (yA w 0 0 (.int .i64 5)):=by
 have HI:=Lib.hid (eH 33)
 rw[show lC 33=false by decide]at HI
 have d1:decide ((x.toNat:Int)≤40)=false:=by simp;omega
 clear h
 have hbn:b≠w.heap.size:=by omega
 have acI:b≠w.heap.size+1:=by omega
 go_enter Tryz.func184,Tryz.ntmps184
 go_wp2_with fail
 refine(HI.out _).mono ?_
 rintro e w' ⟨rfl,rfl⟩
 go_wp2_with fail
 refine(HI.out _).mono ?_
 rintro e w' ⟨rfl,rfl⟩
 go_wp2_with fail
 exact bodyPost_ret (v:= .tuple #[.agg #[.int .i64 0,.int .u32 0],.int .i64 5]) (by simp[results,Tryz.results184,go_sem]) rfl ⟨rfl,((Below.refl _ _).alloc (Nat.le_refl _) _).alloc (by simp) _⟩
theorem Zh(b off c:Nat)(x:UInt8)(h:x.toNat≤40)(w:World)(hx:w.cell? ⟨b,off,none⟩=some (B8 x))(hb:b<w.heap.size):
  Calls Tryz.prog 184 #[.int .i64 33,.slice (some ⟨b,off,none⟩) 1 c] w (yA w 33 (aJ x.toNat) (.int .i64 0)):=by
 have HD:=Lib.hid (kP x.toNat h)
 have hdl:=ug x.toNat
 have d1:decide ((x.toNat:Int)≤40)=true:=by simp;omega
 generalize aJ x.toNat=D at*
 have hbn:b≠w.heap.size:=by omega
 have acI:b≠w.heap.size+1:=by omega
 go_enter Tryz.func184,Tryz.ntmps184
 go_wp2_with fail
 refine(HD.out _).mono ?_
 rintro e w' ⟨rfl,rfl⟩
 go_wp2_with fail
 exact bodyPost_ret (v:= .tuple #[.agg #[.int .i64 33,.int .u32 (D:Nat)],.int .i64 0]) (by simp[results,Tryz.results184,go_sem]) rfl ⟨rfl,((Below.refl _ _).alloc (Nat.le_refl _) _).alloc (by simp) _⟩
theorem acJ(b off c:Nat)(x:UInt8)(w:World)(hx:w.cell? ⟨b,off,none⟩=some (B8 x))(hb:b<w.heap.size):
  Calls Tryz.prog 184 #[.int .i64 3,.slice (some ⟨b,off,none⟩) 1 c] w (yA w 3 (x.toNat+1) (.int .i64 0)):=by
 have hl:=x.toNat_lt
 have hbn:b≠w.heap.size:=by omega
 have acI:b≠w.heap.size+1:=by omega
 go_enter Tryz.func184,Tryz.ntmps184
 go_wp2_with fail
 exact bodyPost_ret (v:= .tuple #[.agg #[.int .i64 3,.int .u32 ((x.toNat:Int)+1)],.int .i64 0]) (by simp[results,Tryz.results184,go_sem]) rfl ⟨congrArg (fun n:Int=>Ending.returned (.tuple #[.agg #[.int .i64 3,.int .u32 n],.int .i64 0])) (by omega),((Below.refl _ _).alloc (Nat.le_refl _) _).alloc (by simp) _⟩
theorem Uy(A:Option Addr)(n c:Nat)(h:n≠1)(w:World):
  Calls Tryz.prog 184 #[.int .i64 3,.slice A n c] w (yA w 0 0 (.int .i64 5)):=by
 have HI:=Lib.hid (eH 3)
 rw[show lC 3=false by decide]at HI
 have d1:((n:Int)==1)=false:=by simp;omega
 clear h
 go_enter Tryz.func184,Tryz.ntmps184
 go_wp2_with fail
 refine(HI.out _).mono ?_
 rintro e w' ⟨rfl,rfl⟩
 go_wp2_with fail
 refine(HI.out _).mono ?_
 rintro e w' ⟨rfl,rfl⟩
 go_wp2_with fail
 exact bodyPost_ret (v:= .tuple #[.agg #[.int .i64 0,.int .u32 0],.int .i64 5]) (by simp[results,Tryz.results184,go_sem]) rfl ⟨rfl,((Below.refl _ _).alloc (Nat.le_refl _) _).alloc (by simp) _⟩
theorem acK(id:Int)(lI:id≠33)(h3:id≠3)(hi:lC id=true)(A:Option Addr)(c:Nat)(w:World):
  Calls Tryz.prog 184 #[.int .i64 id,.slice A 0 c] w (yA w id 0 (.int .i64 0)):=by
 have HI:=Lib.hid (eH id)
 rw[hi]at HI
 have d33:(id==33)=false:=by simp[lI]
 have d3:(id==3)=false:=by simp[h3]
 clear lI h3 hi
 go_enter Tryz.func184,Tryz.ntmps184
 go_wp2_with fail
 refine(HI.out _).mono ?_
 rintro e w' ⟨rfl,rfl⟩
 go_wp2_with fail
 exact bodyPost_ret (v:= .tuple #[.agg #[.int .i64 id,.int .u32 0],.int .i64 0]) (by simp[results,Tryz.results184,go_sem]) rfl ⟨rfl,((Below.refl _ _).alloc (Nat.le_refl _) _).alloc (by simp) _⟩
theorem LY(id:Int)(lI:id≠33)(h3:id≠3)(hi:lC id=true)(A:Option Addr)(n c:Nat)(hn0:n≠0)(hn4:n≠4)(w:World):
  Calls Tryz.prog 184 #[.int .i64 id,.slice A n c] w (yA w 0 0 (.int .i64 5)):=by
 have HI:=Lib.hid (eH id)
 rw[hi]at HI
 have d33:(id==33)=false:=by simp[lI]
 have d3:(id==3)=false:=by simp[h3]
 have e0:((n:Int)==0)=false:=by simp;omega
 have e4:((n:Int)==4)=false:=by simp;omega
 clear lI h3 hi hn0 hn4
 go_enter Tryz.func184,Tryz.ntmps184
 go_wp2_with fail
 refine(HI.out _).mono ?_
 rintro e w' ⟨rfl,rfl⟩
 go_wp2_with fail
 refine(HI.out _).mono ?_
 rintro e w' ⟨rfl,rfl⟩
 go_wp2_with fail
 exact bodyPost_ret (v:= .tuple #[.agg #[.int .i64 0,.int .u32 0],.int .i64 5]) (by simp[results,Tryz.results184,go_sem]) rfl ⟨rfl,((Below.refl _ _).alloc (Nat.le_refl _) _).alloc (by simp) _⟩
theorem Uz(id:Int)(lI:id≠33)(h3:id≠3)(hi:lC id=true)(b off c:Nat)(x:UInt8)(h:x.toNat%4≠0)(w:World)(hx:w.cell? ⟨b,off,none⟩=some (B8 x))(hb:b<w.heap.size):
  Calls Tryz.prog 184 #[.int .i64 id,.slice (some ⟨b,off,none⟩) 4 c] w (yA w 0 0 (.int .i64 5)):=by
 have HI:=Lib.hid (eH id)
 rw[hi]at HI
 have d33:(id==33)=false:=by simp[lI]
 have d3:(id==3)=false:=by simp[h3]
 have e4:((x.toNat:Int)%4==0)=false:=by simp;omega
 have hbn:b≠w.heap.size:=by omega
 have acI:b≠w.heap.size+1:=by omega
 clear lI h3 hi h
 go_enter Tryz.func184,Tryz.ntmps184
 go_wp2_with fail
 refine(HI.out _).mono ?_
 rintro e w' ⟨rfl,rfl⟩
 go_wp2_with fail
 refine(HI.out _).mono ?_
 rintro e w' ⟨rfl,rfl⟩
 go_wp2_with fail
 exact bodyPost_ret (v:= .tuple #[.agg #[.int .i64 0,.int .u32 0],.int .i64 5]) (by simp[results,Tryz.results184,go_sem]) rfl ⟨rfl,((Below.refl _ _).alloc (Nat.le_refl _) _).alloc (by simp) _⟩
theorem UA(w:World)(a0 a1 b0 b1:Value)(T:TypeId):((w.alloc (.cells #[a0,a1] T)).alloc (.cells #[b0,b1] T)).drew.cell? ⟨w.heap.size,0,none⟩=some a0∧((w.alloc (.cells #[a0,a1] T)).alloc (.cells #[b0,b1] T)).drew.cell? ⟨w.heap.size,1,none⟩=some a1∧
  ((w.alloc (.cells #[a0,a1] T)).alloc (.cells #[b0,b1] T)).drew.cell? ⟨w.heap.size+1,0,none⟩=some b0∧((w.alloc (.cells #[a0,a1] T)).alloc (.cells #[b0,b1] T)).drew.cell? ⟨w.heap.size+1,1,none⟩=some b1∧
  ((w.alloc (.cells #[a0,a1] T)).alloc (.cells #[b0,b1] T)).drew.frozen? ⟨w.heap.size,0,none⟩=false∧((w.alloc (.cells #[a0,a1] T)).alloc (.cells #[b0,b1] T)).drew.frozen? ⟨w.heap.size,1,none⟩=false∧
  Below w.heap.size w ((w.alloc (.cells #[a0,a1] T)).alloc (.cells #[b0,b1] T)).drew:=by
 have e:(w.alloc (.cells #[a0,a1] T)).heap.size=w.heap.size+1:=by simp
 have hb:=dN (w.alloc (.cells #[a0,a1] T)) (.cells #[b0,b1] T)
 refine⟨(hb.cell (p:=⟨w.heap.size,0,none⟩) (by simp)).trans ?_,(hb.cell (p:=⟨w.heap.size,1,none⟩) (by simp)).trans ?_,?_,?_,(hb.frozen (p:=⟨w.heap.size,0,none⟩) (by simp)).trans ?_,(hb.frozen (p:=⟨w.heap.size,1,none⟩) (by simp)).trans ?_,((dN w _).trans (hb.mono (by simp))).drew⟩
 ·rw[cell_of_row _ _ _ _ _ _ (heap_alloc_last _ _)];rfl
 ·rw[cell_of_row _ _ _ _ _ _ (heap_alloc_last _ _)];rfl
 ·rw[←e];show((w.alloc _).alloc _).cell? _=_;rw[cell_of_row _ _ _ _ _ _ (heap_alloc_last _ _)];rfl
 ·rw[←e];show((w.alloc _).alloc _).cell? _=_;rw[cell_of_row _ _ _ _ _ _ (heap_alloc_last _ _)];rfl
 ·rw[frozen?_alloc_cells];simp[World.frozen?]
 ·rw[frozen?_alloc_cells];simp[World.frozen?]
theorem yB(w:World)(o p:Obj)(b k:Nat)(hb:b<w.heap.size):((w.alloc o).alloc p).drew.cell? ⟨b,k,none⟩=w.cell? ⟨b,k,none⟩:=
 (((dN w o).alloc (dN w o).size p).drew).cell (p:=⟨b,k,none⟩) hb
theorem acL(id:Int)(lI:id≠33)(h3:id≠3)(hi:lC id=true)(b off c:Nat)(x0 x1 x2 x3:UInt8)(h:x0.toNat%4=0)(w:World)(hb:b<w.heap.size)(h0:w.cell? ⟨b,off,none⟩=some (B8 x0))(h1:w.cell? ⟨b,off+1,none⟩=some (B8 x1))(h2:w.cell? ⟨b,off+2,none⟩=some (B8 x2))(h3':w.cell? ⟨b,off+3,none⟩=some (B8 x3)):
  Calls Tryz.prog 184 #[.int .i64 id,.slice (some ⟨b,off,none⟩) 4 c] w (yA w id (word true x0 x1 x2 x3) (.int .i64 0)):=by
 have HI:=Lib.hid (eH id)
 rw[hi]at HI
 have HW:=Lib.hid (IY _ _ _ _ x0.toNat_lt x1.toNat_lt x2.toNat_lt x3.toNat_lt)
 have hwd:word true x0 x1 x2 x3=x0.toNat+x1.toNat*256+x2.toNat*65536+x3.toNat*16777216:=rfl
 rw[←hwd]at HW
 generalize word true x0 x1 x2 x3=R at*
 have d33:(id==33)=false:=by simp[lI]
 have d3:(id==3)=false:=by simp[h3]
 have e4:((x0.toNat:Int)%4==0)=true:=by simp;omega
 have hbn:b≠w.heap.size:=by omega
 have acI:b≠w.heap.size+1:=by omega
 clear lI h3 hi h hwd
 go_enter Tryz.func184,Tryz.ntmps184
 go_wp2_with fail
 refine(HI.out _).mono ?_
 rintro e w' ⟨rfl,rfl⟩
 go_wp2_with fail
 refine(HI.out _).mono ?_
 rintro e w' ⟨rfl,rfl⟩
 go_wp2_with fail
 have k0:=fun o p=>(yB w o p b off hb).trans h0
 have k1:=fun o p=>(yB w o p b (off+1) hb).trans h1
 have k2:=fun o p=>(yB w o p b (off+2) hb).trans h2
 have k3:=fun o p=>(yB w o p b (off+3) hb).trans h3'
 refine wp_region_held_drew (S:=fun w'=>w'.cell? ⟨b,off,none⟩=some (B8 x0)∧w'.cell? ⟨b,off+1,none⟩=some (B8 x1)∧w'.cell? ⟨b,off+2,none⟩=some (B8 x2)∧w'.cell? ⟨b,off+3,none⟩=some (B8 x3)) (by kernel_rfl) ⟨k0 _ _,k1 _ _,k2 _ _,k3 _ _⟩ (fun hS=> ?_)
 refine tq 0 hS ?_
 refine tq 1 hS ?_
 refine tp 2 rfl (fun w hSw=>by obtain⟨j0,j1,j2,j3⟩:=hSw;go_simp;all_goals(with_reducible rfl)) hS ?_
 refine tq 3 hS ?_
 refine tq 4 hS ?_
 refine tq 5 hS ?_
 refine tp 6 rfl (fun w hSw=>by obtain⟨j0,j1,j2,j3⟩:=hSw;go_simp;all_goals(with_reducible rfl)) hS ?_
 refine tq 7 hS ?_
 refine tq 8 hS ?_
 refine tq 9 hS ?_
 refine tq 10 hS ?_
 refine tq 11 hS ?_
 refine tp 12 rfl (fun w hSw=>by obtain⟨j0,j1,j2,j3⟩:=hSw;go_simp;all_goals(with_reducible rfl)) hS ?_
 refine tq 13 hS ?_
 refine tq 14 hS ?_
 refine tq 15 hS ?_
 refine tq 16 hS ?_
 refine tq 17 hS ?_
 refine tp 18 rfl (fun w hSw=>by obtain⟨j0,j1,j2,j3⟩:=hSw;go_simp;all_goals(with_reducible rfl)) hS ?_
 refine tq 19 hS ?_
 refine tq 20 hS ?_
 refine tq 21 hS ?_
 refine tq 22 hS ?_
 rw[HW.out]
 refine tr 23 (fun K hK=> ?_)
 go_simp
 refine hK.out _ _ ⟨k0 _ _,k1 _ _,k2 _ _,k3 _ _⟩ (fun _=> ?_)
 clear hK K
 refine wpAnyH_done (by kernel_rfl) ?_ _
 clear k0 k1 k2 k3 h0 h1 h2 h3' HW
 have q:=UA w (.int .i64 0) (.int .u32 0) (.int .i64 id) (.int .u32 (R:Nat)) 84
 generalize((w.alloc (.cells #[.int .i64 0,.int .u32 0] 84)).alloc (.cells #[.int .i64 id,.int .u32 (R:Nat)] 84)).drew=W at*
 obtain⟨q1,q2,q3,q4,q5,q6,q7⟩:=q
 have r1:=World.cell?_setCell_same' W ⟨w.heap.size,0,none⟩ (.int .i64 id) (by rw[q1];rfl)
 have r2:=World.cell?_setCell_same' (W.setCell ⟨w.heap.size,0,none⟩ (.int .i64 id)) ⟨w.heap.size,1,none⟩ (.int .u32 (R:Nat)) (by rw[World.cell?_setCell_other _ _ _ _ (by simp),q2];rfl)
 go_wp2_with fail
 exact bodyPost_ret (v:= .tuple #[.agg #[.int .i64 id,.int .u32 (R:Nat)],.int .i64 0]) (by simp[results,Tryz.results184,go_sem,r1,r2]) rfl ⟨rfl,(q7.setCell (Nat.le_refl _) _).setCell (Nat.le_refl _) _⟩


theorem Bytes.cells4{w:World}{A:Option Addr}{x0 x1 x2 x3:UInt8}(h:Bytes w A [x0,x1,x2,x3]): ∃b off,A=some ⟨b,off,none⟩∧b<w.heap.size∧w.cell? ⟨b,off,none⟩=some (B8 x0)∧w.cell? ⟨b,off+1,none⟩=some (B8 x1)∧w.cell? ⟨b,off+2,none⟩=some (B8 x2)∧w.cell? ⟨b,off+3,none⟩=some (B8 x3):=by
 obtain⟨b,off,rfl,hb,hc⟩:=h.addr (by simp)
 exact⟨b,off,rfl,hb,hc 0 (by simp),hc 1 (by simp),hc 2 (by simp),hc 3 (by simp)⟩
theorem Bytes.Zi{w:World}{A:Option Addr}{x:UInt8}(h:Bytes w A [x]): ∃b off,A=some ⟨b,off,none⟩∧b<w.heap.size∧w.cell? ⟨b,off,none⟩=some (B8 x):=by
 obtain⟨b,off,rfl,hb,hc⟩:=h.addr (by simp)
 exact⟨b,off,rfl,hb,hc 0 (by simp)⟩
theorem UC(l:List UInt8):l=[]∨(∃x,l=[x])∨(∃a b c d,l=[a,b,c,d])∨(l.length≠0∧l.length≠1∧l.length≠4):=by
 match l with
 | []=>exact .inl rfl
 | [x]=>exact .inr (.inl ⟨x,rfl⟩)
 | [_,_]=>exact .inr (.inr (.inr ⟨by simp,by simp,by simp⟩))
 | [_,_,_]=>exact .inr (.inr (.inr ⟨by simp,by simp,by simp⟩))
 | [a,b,c,d]=>exact .inr (.inr (.inl ⟨a,b,c,d,rfl⟩))
 | _::_::_::_::_::_=>exact .inr (.inr (.inr ⟨by simp,by simp,by simp⟩))
theorem UD(l:List UInt8)(h:l.length≠1):gy 33 l=none:=by
 unfold gy;rw[if_pos rfl]
 match l with
 | []=>rfl
 | [x]=>simp at h
 | _::_::_=>rfl
theorem Zj(l:List UInt8)(h:l.length≠1):gy 3 l=none:=by
 unfold gy;rw[if_neg (by omega),if_pos rfl]
 match l with
 | []=>rfl
 | [x]=>simp at h
 | _::_::_=>rfl
theorem Q9(id:Int)(lI:id≠33)(h3:id≠3)(l:List UInt8)(h0:l.length≠0)(h4:l.length≠4):gy id l=none:=by
 unfold gy;rw[if_neg lI,if_neg h3]
 split
 ·match l with
  | []=>simp at h0
  | [_]=>rfl
  | [_,_]=>rfl
  | [_,_,_]=>rfl
  | [_,_,_,_]=>simp at h4
  | _::_::_::_::_::_=>rfl
 ·rfl
theorem Zk(a b c d:UInt8):word true a b c d%4=a.toNat%4:=by
 simp only[word,if_true];omega
theorem UE(id:Int)(A:Option Addr)(l:List UInt8)(c:Nat)(w:World)(hB:Bytes w A l):
  Calls Tryz.prog 184 #[.int .i64 id,.slice A l.length c] w (am9 w (.int .i64 0) (.int .i64 5) (gy id l)):=by
 by_cases lI:id=33
 ·subst lI
  by_cases h1:l.length=1
  ·obtain⟨x,rfl⟩: ∃x,l=[x]:=by
    match l,h1 with
    | [x],_=>exact⟨x,rfl⟩
   obtain⟨b,off,rfl,hb,hx⟩:=hB.Zi
   have e:gy 33 [x]=if x.toNat≤40 then some ⟨33,aJ x.toNat⟩else none:=rfl
   rw[e]
   by_cases h:x.toNat≤40
   ·rw[if_pos h];exact Zh b off c x h w hx hb
   ·rw[if_neg h];exact LX b off c x (by omega) w hx hb
  ·rw[UD l h1];exact Po A _ c h1 w
 by_cases h3:id=3
 ·subst h3
  by_cases h1:l.length=1
  ·obtain⟨x,rfl⟩: ∃x,l=[x]:=by
    match l,h1 with
    | [x],_=>exact⟨x,rfl⟩
   obtain⟨b,off,rfl,hb,hx⟩:=hB.Zi
   exact acJ b off c x w hx hb
  ·rw[Zj l h1];exact Uy A _ c h1 w
 cases hi:lC id with
 | false=>
  have e:gy id l=none:=by unfold gy;rw[if_neg lI,if_neg h3,if_neg (by simp[hi])]
  rw[e];exact Pn id lI h3 hi A _ c w
 | true=>
  rcases UC l with rfl | ⟨x,rfl⟩ | ⟨x0,x1,x2,x3,rfl⟩ | ⟨h0,_,h4⟩
  ·have e:gy id []=some ⟨id,0⟩:=by unfold gy;rw[if_neg lI,if_neg h3,if_pos hi]
   rw[e];exact acK id lI h3 hi A c w
  ·rw[Q9 id lI h3 [x] (by simp) (by simp)];exact LY id lI h3 hi A _ c (by simp) (by simp) w
  ·obtain⟨b,off,rfl,hb,k0,k1,k2,k3⟩:=hB.cells4
   have e:gy id [x0,x1,x2,x3]=if x0.toNat%4=0 then some ⟨id,word true x0 x1 x2 x3⟩else none:=by unfold gy;rw[if_neg lI,if_neg h3,if_pos hi]
   rw[e]
   by_cases h:x0.toNat%4=0
   ·rw[if_pos h];exact acL id lI h3 hi b off c x0 x1 x2 x3 h w hb k0 k1 k2 k3
   ·rw[if_neg h];exact Uz id lI h3 hi b off c x0 h w k0 hb
  ·rw[Q9 id lI h3 l h0 h4];exact LY id lI h3 hi A _ c h0 h4 w
theorem oG(k:Nat)(h:k<256):(UInt8.ofNat k).toNat=k:=by simp;omega
theorem Pq(f:bK)(hok:f.ok)(l:List UInt8)(h:nI f=some l):gy f.id l=some f:=by
 obtain⟨id,n⟩:=f
 obtain⟨_,_,hn⟩:=hok
 simp only at hn
 unfold nI at h
 simp only at h ⊢
 by_cases lI:id=33
 ·subst lI
  rw[if_pos rfl]at h
  by_cases hd:aJ (aV n)=n
  ·rw[if_pos hd]at h
   injection h with h
   subst h
   have hle:=uh n
   show(if(UInt8.ofNat (aV n)).toNat≤40 then some (⟨33,aJ (UInt8.ofNat (aV n)).toNat⟩:bK)else none)=_
   rw[oG _ (by omega),if_pos hle,hd]
  ·rw[if_neg hd]at h;cases h
 ·rw[if_neg lI]at h
  by_cases hf:eG ⟨id,n⟩=true
  ·rw[if_pos hf]at h
   rcases D9 _ hf with⟨e,g1,g2⟩ | ⟨e,g1,g2⟩
   ·simp only at e g1 g2
    subst e
    rw[if_pos rfl]at h
    injection h with h
    subst h
    show some (⟨3,(UInt8.ofNat (n-1)).toNat+1⟩:bK)=_
    rw[oG _ (by omega),show n-1+1=n by omega]
   ·simp only at e g1 g2
    have hi:lC id=true:=by unfold isId at g1;unfold lC;simp;omega
    rw[if_neg e]at h
    by_cases h0:n=0
    ·subst h0
     rw[if_pos rfl]at h
     injection h with h
     subst h
     unfold gy;rw[if_neg lI,if_neg e,if_pos hi]
    ·rw[if_neg h0]at h
     injection h with h
     subst h
     obtain⟨a,b,c,d,h1,h2⟩:=xZ true n hn
     rw[h1]
     have hm:=Zk a b c d
     rw[h2]at hm
     unfold gy;rw[if_neg lI,if_neg e,if_pos hi]
     simp only
     rw[if_pos (by omega),h2]
  ·rw[if_neg hf]at h;cases h
theorem Zl(id:Int)(l:List UInt8)(g:bK)(h:gy id l=some g):g.n<4294967296:=by
 unfold gy at h
 split at h
 ·split at h
  ·split at h
   ·injection h with h;subst h;exact ug _
   ·cases h
  ·cases h
 ·split at h
  ·split at h
   ·rename_i x;injection h with h;subst h;have:=x.toNat_lt;simp only;omega
   ·cases h
  ·split at h
   ·split at h
    ·injection h with h;subst h;simp
    ·split at h
     ·injection h with h;subst h;exact word_lt true _ _ _ _
     ·cases h
    ·cases h
   ·cases h
def fA(l:List bK):List Value:=l.flatMap fun f=>[Value.int .i64 f.id,Value.int .u32 (f.n:Nat)]
theorem rD(l:List bK):(fA l).length=l.length*2:=by
 induction l with
 | nil=>rfl
 | cons a l ih=>simp only[fA,List.flatMap_cons,List.length_append,List.length_cons,List.length_nil]at ih ⊢;omega
theorem AQ(l m:List bK):fA (l++m)=fA l++fA m:=by simp[fA]
theorem yC(l:List bK): ∀i (h:i<l.length),(fA l)[i*2]? =some (.int .i64 l[i].id)∧(fA l)[i*2+1]? =some (.int .u32 (l[i].n:Nat)):=by
 induction l with
 | nil=>intro i h;simp at h
 | cons a l ih=>
  intro i h
  cases i with
  | zero=>exact⟨rfl,rfl⟩
  | succ i=>
   have:=ih i (by simpa using h)
   rw[show(i+1)*2=i*2+1+1 by omega]
   exact this
theorem Je(l:List bK): ∀u∈fA l,u.oneCell'=true:=by
 intro u hu
 simp only[fA,List.mem_flatMap]at hu
 obtain⟨f,_,hu⟩:=hu
 simp at hu
 rcases hu with rfl | rfl<;>rfl
def gK(base:Nat)(w:World)(v:Value)(l:List bK):Prop:=w.ownsRow base 84 2 v l.length (fA l)
theorem acM:(Tryz.prog.info? 84).map (fun i=>(i.zero,i.size,i.bytes))=some (some (.agg #[.int .i64 0,.int .u32 0]),2,16):=by kernel_rfl
theorem gK.nil(base:Nat)(w:World):gK base w (.slice none 0 0) []:=World.ownsRow_nil w base _ 2
theorem gK.keep{base:Nat}{w w':World}{v:Value}{l:List bK}(h:gK base w v l)(hb: ∀g,v.ownBlock=some g→w'.heap[g]? =w.heap[g]?):gK base w' v l:=by
 rcases h with⟨h1,h2 | ⟨g,cap,cur,h2,h3,h4,h5⟩⟩
 ·exact⟨h1,.inl h2⟩
 ·exact⟨h1,.inr ⟨g,cap,cur,h2,h3,(hb g (by rw[h2];rfl)).trans h4,h5⟩⟩
theorem gK.lt{base:Nat}{w:World}{v:Value}{l:List bK}(h:gK base w v l)(g:Nat)(hg:v.ownBlock=some g):base≤g∧g<w.heap.size:=World.ownsRow.lt h g hg
theorem gK.below{base:Nat}{w w':World}{v:Value}{l:List bK}(h:gK base w v l)(hb:Below w.heap.size w w'):gK base w' v l:=h.keep fun g hg=>hb.block g (h.lt g hg).2
theorem gK.alloc{base:Nat}{w:World}{v:Value}{l:List bK}(h:gK base w v l)(o:Obj):gK base (w.alloc o) v l:=h.below ((Below.refl _ _).alloc (Nat.le_refl _) _)
theorem gK.weaken{base base':Nat}{w:World}{v:Value}{l:List bK}(h:gK base w v l)(hb:base'≤base):gK base' w v l:=by
 rcases h with⟨h1,h2 | ⟨g,cap,cur,h2,h3,h4⟩⟩
 ·exact⟨h1,.inl h2⟩
 ·exact⟨h1,.inr ⟨g,cap,cur,h2,Nat.le_trans hb h3,h4⟩⟩
theorem gK.read{base:Nat}{w:World}{v:Value}{l:List bK}(h:gK base w v l)(hok: ∀f∈l,f.ok): ∃A c,v= .slice A l.length c∧l.length≤c∧c≤9223372036854775807∧gJ w A l:=by
 rcases h with⟨h1,⟨h2,h3⟩ | ⟨g,cap,cur,h2,h3,h4,h5,h6,h7⟩⟩
 ·have e:l=[]:=List.eq_nil_of_length_eq_zero h3
  subst e
  exact⟨none,0,h2,by simp,by omega,.inl rfl⟩
 ·refine⟨_,cap,h2,h5,by unfold maxLen at h6;exact h6,.inr ⟨g,0,rfl,?_,fun k hk=> ?_⟩⟩
  ·rcases Nat.lt_or_ge g w.heap.size with h | h
   ·exact h
   ·rw[Array.getElem?_eq_none h]at h4;cases h4
  ·have e1: ∀j,j<l.length*2→cur[j]? =(fA l)[j]? :=fun j hj=>by
    have h9:=congrArg (fun x:List Value=>x[j]?) h7.2
    simpa only[List.getElem?_take,hj,if_true,Array.getElem?_toList]using h9
   have hg:=yC l k hk
   rw[Nat.zero_add]
   exact⟨by rw[cell_of_row w g _ cur _ _ h4];exact(e1 (k*2) (by omega)).trans hg.1,by rw[cell_of_row w g _ cur _ _ h4];exact(e1 (k*2+1) (by omega)).trans hg.2,hok _ (List.getElem_mem hk)⟩
theorem gK.Pv{base n c:Nat}{w:World}{A:Option Addr}{l:List bK}(h:gK base w (.slice A n c) l)(hok: ∀f∈l,f.ok):gJ w A l:=by
 obtain⟨A',c',e,_,_,hf⟩:=h.read hok
 injection e with e1 e2 e3
 rw[e1];exact hf
theorem gK.ne{base base':Nat}{w:World}{v u:Value}{l:List bK}{m:List UInt8}(h:gK base w v l)(ho:Own base' w u m)(g:Nat)(hg:v.ownBlock=some g):u.ownBlock≠some g:=by
 intro e
 rcases h with⟨_,⟨rfl,_⟩ | ⟨g1,cap,cur,rfl,_,h4,_⟩⟩
 ·cases hg
 ·injection hg with hg;subst hg
  rcases ho with⟨_,⟨rfl,_⟩ | ⟨g2,cap2,asX,rfl,_,k4,_⟩⟩
  ·cases e
  ·injection e with e;subst e
   rw[show w.heap[g2]? =_ from k4]at h4
   injection h4 with h4
   injection h4 with _ ht
   exact absurd ht (by decide)
theorem gK.Px{base bo:Nat}{w:World}{v u:Value}{l:List bK}(h:gK base w v l)(hx:Box bo w u)(g:Nat)(hg:v.ownBlock=some g):g≠bo:=by
 intro e
 subst e
 rcases h with⟨_,⟨rfl,_⟩ | ⟨g1,cap,cur,rfl,_,h4,_⟩⟩
 ·cases hg
 ·injection hg with hg;subst hg
  rw[show w.heap[g1]? =_ from hx]at h4
  injection h4 with h4
  injection h4 with _ ht
  exact absurd ht (by decide)
theorem rE(base:Nat)(ty:TypeId)(w:World)(v:Value)(xs:List bK)(hown:gK base w v xs)(A:Option Addr)(l:List bK)(c:Nat)(hF:gJ w A l)
  (hsz:xs.length+l.length≤1000000) (hbase:base≤w.heap.size):
  ∃v' w',(Builtin.append_ #[23,23] ty #[v,.slice A l.length c]).run Tryz.prog w= .ok v' w'∧gK base w' v' (xs++l)∧w.grownBy w' v.ownBlock:=by
 obtain⟨i,hi,hz⟩:=Option.map_eq_some_iff.1 acM
 injection hz with hz0 hz;injection hz with hz1 hz2
 cases A with
 | none=>
  have hl:l=[]:=by
   rcases hF with h | ⟨_,_,h,_⟩
   ·exact h
   ·cases h
  subst hl
  refine⟨v,w,?_,by simpa using hown,World.grownBy.refl w _⟩
  rcases hown.2 with⟨rfl,h0⟩ | ⟨g,cap,cur,rfl,_,_,hnc,_⟩
  ·simp[Builtin.append_,run_underlying Tryz.underlying23,sizeOf,typeInfo,hi,Builtin.lenOf,Builtin.firstCells]
  ·simp[Builtin.append_,run_underlying Tryz.underlying23,sizeOf,typeInfo,hi,Builtin.lenOf,Builtin.firstCells,hnc,storeCells]
 | some ad=>
  have hnews: ∀j u,(fA l)[j]? =some u→w.cell? (ad.add j)=some u:=by
   intro j u hu
   by_cases hj:j<l.length*2
   ·obtain⟨b,off,e,_,hat⟩:=hF.addr (by omega)
    injection e with e;subst e
    rw[show(⟨b,off,none⟩:Addr).add j=⟨b,off+j,none⟩from by unfold Addr.add;split<;>simp_all]
    have h2:=hat (j/2) (by omega)
    have hg:=yC l (j/2) (by omega)
    rcases Nat.mod_two_eq_zero_or_one j with hm | hm
    ·have e2:j/2*2=j:=by omega
     rw[e2]at hg
     rw[hg.1]at hu
     have:=h2.c0
     rw[e2]at this
     rw[this];exact hu
    ·have e2:j/2*2+1=j:=by omega
     rw[e2]at hg
     rw[hg.2]at hu
     have:=h2.c1
     rw[show off+j/2*2+1=off+j by omega]at this
     rw[this];exact hu
   ·rw[List.getElem?_eq_none (by rw[rD];omega)]at hu;simp at hu
  obtain⟨v',w',hr,h2,h3,_⟩:=run_append_own (P:=Tryz.prog) w base 23 ty 84 i (.agg #[.int .i64 0,.int .u32 0]) 2 16 Tryz.underlying23 hi hz0 hz1 hz2 rfl (by decide)
   v xs.length (fA xs) hown ad l.length c (fA l) (rD l) hnews (Je l) (by unfold maxLen;omega) (by omega) hbase
  exact⟨v',w',hr,by unfold gK;rw[AQ,List.length_append];exact h2,h3⟩
theorem ji{ops:Array Oper}{o:Oper}{a:Act}{K:Act→World→Prop}{Q:Exit→Act→World→Prop}(hgd:o.guard=none)(s x:Operand)
  (ho:o.op= .call {callee:= .builtin .append,args:= #[s,x],argTypes:= #[23,23]})
  (base:Nat) (w:World) (v:Value) (xs:List bK) (hs:a.eval s=v) (hown:gK base w v xs) (A:Option Addr) (l:List bK) (c:Nat) (hx:a.eval x= .slice A l.length c) (hF:gJ w A l)
  (hsz:xs.length+l.length≤1000000) (hbase:base≤w.heap.size)
  (h: ∀v' w',gK base w' v' (xs++l)→w.grownBy w' v.ownBlock→K (a.put o.dst v') w'):if Region.wanted o (yielded ops a.tmps)=true then Oper.wp Tryz.prog o a w K Q else K (a.put o.dst undef) w:=by
 rw[if_pos (by simp[Region.wanted,hgd])]
 obtain⟨v',w',hr,h2,h3⟩:=rE base o.type w v xs hown A l c hF hsz hbase
 unfold Oper.wp execOp
 simp only[ho,resolve,invoke,builtin,Sem.run_bind,Sem.run_pure,Result.andThen_ok,List.map_toArray,List.map_cons,List.map_nil,hs,hx,hr]
 exact h v' w' h2 h3
theorem wL{ops:Array Oper}{rest:List Oper}{o:Oper}{a:Act}{Q:Exit→Act→World→Prop}(hgd:o.guard=none)(s x:Operand)
  (ho:o.op= .call {callee:= .builtin .append,args:= #[s,x],argTypes:= #[23,23]})
  (base:Nat) (w:World) (v:Value) (xs:List bK) (hs:a.eval s=v) (hown:gK base w v xs) (A:Option Addr) (l:List bK) (c:Nat) (hx:a.eval x= .slice A l.length c) (hF:gJ w A l)
  (hsz:xs.length+l.length≤1000000) (hbase:base≤w.heap.size)
  (h: ∀v' w',gK base w' v' (xs++l)→w.grownBy w' v.ownBlock→wpList Tryz.prog ops Q rest (a.put o.dst v') w'):wpList Tryz.prog ops Q (o::rest) a w:=by
 refine wpList_plain hgd fun K hK=> ?_
 obtain⟨v',w',hr,h2,h3⟩:=rE base o.type w v xs hown A l c hF hsz hbase
 unfold Oper.wp execOp
 simp only[ho,resolve,invoke,builtin,Sem.run_bind,Sem.run_pure,Result.andThen_ok,List.map_toArray,List.map_cons,List.map_nil,hs,hx,hr]
 exact hK _ _ (h v' w' h2 h3)
theorem Eo(w:World)(f:bK)(hok:f.ok):gJ (w.alloc (.cells #[.int .i64 f.id,.int .u32 (f.n:Nat)] 84)) (some ⟨w.heap.size,0,none⟩) [f]:=by
 refine .inr ⟨w.heap.size,0,rfl,by simp,fun i hi=> ?_⟩
 obtain rfl:i=0:=by simpa using hi
 exact⟨by simp,by simp,hok⟩
theorem Own.store{base g n c:Nat}{w:World}{l:List UInt8}(h:Own base w (.slice (some ⟨g,0,none⟩) n c) l)(i:Nat)(_hi:i<l.length)(x:UInt8):Own base (w.setCell ⟨g,i,none⟩ (.int .u8 (x.toNat:Nat))) (.slice (some ⟨g,0,none⟩) n c) (l.set i x):=by
 rcases h with⟨h1,⟨h2,_⟩ | ⟨g1,cap,cur,h2,h3,h4,h5,h6,h7,h8⟩⟩
 ·cases h2
 ·injection h2 with e1 e2 e3
  injection e1 with e1
  injection e1 with e1
  subst e1;subst e3
  obtain⟨L,hL⟩: ∃L:List Value,L.toArray=cur:=⟨cur.toList,Array.toArray_toList⟩
  subst hL
  refine⟨by simp,.inr ⟨g,c,(L.set i (.int .u8 (x.toNat:Nat))).toArray,by rw[e2];simp,h3,heap_set h4 i _,by simpa using h5,h6,by simpa using h7,?_⟩⟩
  simp only[Nat.mul_one,List.length_set]at h8 ⊢
  rw[List.map_set,←h8,List.take_set]
end Go.Proofs.YtgfpocdiojifoaaGreatDoor
