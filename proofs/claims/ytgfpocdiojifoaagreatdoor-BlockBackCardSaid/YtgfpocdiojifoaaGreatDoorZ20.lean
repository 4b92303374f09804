import Derived.Laws.CopyOwn
import Derived.Deep.RegionLaw
import Derived.Deep.RegionHeld3
import Derived.Test.YtgfpocdiojifoaaGreatDoorZ19
namespace Go.Proofs.YtgfpocdiojifoaaGreatDoor
set_option maxRecDepth 100000
set_option maxHeartbeats 8000000
open Go.RowKit
def kJ(a b c d:Int)(w:World)(e:Ending)(w':World):Prop:=e= .returned (Np a b c d)∧Below w.heap.size w w'
theorem Tc(a b c d:Int)(Nu:UInt8)(l dd r:Int)(w:World):Calls Tryz.prog 162 #[Np a b c d,yL 0 Nu l dd r] w (kJ a b c d w):=by
 go_enter Tryz.func162,Tryz.ntmps162
 go_wp2_with fail
 refine bodyPost_ret (v:=Np a b c d) (by simp[results,Tryz.results162,go_sem]) rfl ⟨rfl,?_⟩
 exact(((Below.refl _ _).alloc (Nat.le_refl _) _).alloc (by simp) _).alloc (by simp;omega) _
theorem zZ{w W:World}{r0 r1 r2 r3 s0 s1 s2 s3 s4 z0 z1 z2 z3 n0 n1 n2 n3:Value}{t0 t1 t2 t3:TypeId}
  (hW:(((w.alloc (.cells #[r0,r1,r2,r3] t0)).alloc (.cells #[s0,s1,s2,s3,s4] t1)).alloc (.cells #[z0,z1,z2,z3] t2)).alloc (.cells #[n0,n1,n2,n3] t3)=W):
  Below w.heap.size w W∧W.heap[w.heap.size]? =some (.cells [r0,r1,r2,r3].toArray t0 (0,0))∧W.heap[w.heap.size+1+1]? =some (.cells [z0,z1,z2,z3].toArray t2 (0,0))∧W.heap[w.heap.size+1+1+1]? =some (.cells [n0,n1,n2,n3].toArray t3 (0,0)):=by
 subst hW
 have mk: ∀(W:World) (o:Obj) (b:Nat),b=W.heap.size→(W.alloc o).heap[b]? =some o:=fun W o b e=>by subst e;exact heap_alloc_last W o
 have up: ∀(W:World) (o o':Obj) (b:Nat),W.heap[b]? =some o'→(W.alloc o).heap[b]? =some o':=fun W o o' b h=>(Below.heap_alloc _ _ _ (Array.getElem?_eq_some_iff.1 h).1).trans h
 refine⟨(((((Below.refl _ _).alloc (Nat.le_refl _) _).alloc (by simp) _).alloc (by simp;omega) _).alloc (by simp;omega) _),up _ _ _ _ (up _ _ _ _ (up _ _ _ _ (mk _ _ _ rfl))),up _ _ _ _ (mk _ _ _ (by simp)),mk _ _ _ (by simp)⟩
theorem lY{w W:World}{m:Nat}{r0 r1 r2 r3 s0 s1 s2 s3 s4 z0 z1 z2 z3 n0 n1 n2 n3:Value}{t0 t1 t2 t3:TypeId}
  (hW:((((w.alloc (.cells #[r0,r1,r2,r3] t0)).alloc (.cells #[s0,s1,s2,s3,s4] t1)).alloc (.cells #[z0,z1,z2,z3] t2)).drewN m).alloc (.cells #[n0,n1,n2,n3] t3)=W):
  Below w.heap.size w W∧W.heap[w.heap.size]? =some (.cells [r0,r1,r2,r3].toArray t0 (0,0))∧W.heap[w.heap.size+1+1]? =some (.cells [z0,z1,z2,z3].toArray t2 (0,0))∧W.heap[w.heap.size+1+1+1]? =some (.cells [n0,n1,n2,n3].toArray t3 (0,0)):=by
 obtain⟨h1,h2,h3,h4⟩:=zZ (rfl:(((w.alloc (.cells #[r0,r1,r2,r3] t0)).alloc (.cells #[s0,s1,s2,s3,s4] t1)).alloc (.cells #[z0,z1,z2,z3] t2)).alloc (.cells #[n0,n1,n2,n3] t3)=_)
 subst hW
 exact⟨⟨h1.os,h1.tape,h1.output,h1.size,h1.block⟩,h2,h3,h4⟩
theorem KI(a b c d:Int)(Nu:UInt8)(l dd r:Int)(w:World):Calls Tryz.prog 162 #[Np a b c d,yL 1 Nu l dd r] w (kJ dd a b c w):=by
 go_enter Tryz.func162,Tryz.ntmps162
 go_wp2_with fail
 generalize hW:(((w.alloc _).alloc _).alloc _).alloc _=W
 obtain⟨hB,h0,h2,h3⟩:=zZ hW
 obtain⟨W0,hg0⟩: ∃g,w.heap.size=g:=⟨_,rfl⟩
 obtain⟨g,hg⟩: ∃g,W0+1+1+1=g:=⟨_,rfl⟩
 obtain⟨g2,hg2⟩: ∃g,W0+1+1=g:=⟨_,rfl⟩
 rw[hg0]at hB h0 h2 h3 ⊢
 rw[hg]at h3 ⊢
 rw[hg2]at h2 ⊢
 have hgg:g2<g∧W0≤g∧W0≤g2:=by omega
 have Bf:Hid (g2<g∧W0≤g∧W0≤g2):=Lib.hid hgg
 have HB:=Lib.hid hB
 have H2:=Lib.hid h2
 have HW0:=Lib.hid hg0
 clear hg hg2 hW hgg h2 hB hg0
 have q1: ∀w,(Instr.sliceAt 127 (.pointer (some ⟨g,0,none⟩)) (some (.int .i64 1)) (some (.int .i64 4)) none).run Tryz.prog w= .ok (.slice (some ⟨g,1,none⟩) 3 3) w:=fun w=>BA g 3 (by decide) w
 have q2: ∀w,(Instr.sliceAt 127 (.pointer (some ⟨W0,0,none⟩)) none (some (.int .i64 3)) none).run Tryz.prog w= .ok (.slice (some ⟨W0,0,none⟩) 3 4) w:=fun w=>JD W0 3 (by decide) w
 have zO:W.drew.heap[g]? =some (.cells ([Value.int .i64 a,Value.int .i64 b,Value.int .i64 c,Value.int .i64 d]).toArray 127 (0,0)):=h3
 have hsrc:=oV (cs:=[Value.int .i64 a,Value.int .i64 b,Value.int .i64 c]) h0 (by intro j hj;match j,hj with | 0,_ | 1,_ | 2,_=>rfl)
 have hwr:IntKind.i64.wrap 4=4:=by decide
 clear h3 h0
 go_region_law (refine step_copy_splice rfl (.tmp 26) (.tmp 28) 147 147 rfl 3 Tryz.underlying147 (by kernel_rfl) _ _ _ _ _ _ rfl rfl g 1 _ _ zO ([Value.int .i64 a,Value.int .i64 b,Value.int .i64 c]) rfl (fun _=>⟨rfl,_,rfl,hsrc⟩) (by simp) (by intro v hv;simp at hv;rcases hv with rfl | rfl | rfl<;>rfl) g W.drew (Below.refl _ _) (Nat.le_refl _) ?_;intro w4 hg4 hb4)
 have hrow:w4.heap[g]? =some (.cells ([Value.int .i64 a,Value.int .i64 a,Value.int .i64 b,Value.int .i64 c]).toArray 127 (0,0)):=hg4.out
 have hz:w4.heap[g2]? =some (.cells ([Value.int .i64 0,Value.int .i64 0,Value.int .i64 0,Value.int .i64 0]).toArray 127 (0,0)):=(hb4.block g2 Bf.out.1).trans H2.out
 have hbw:Below W0 w w4:=(show Below W0 w W.drew from⟨HB.out.os,HB.out.tape,HB.out.output,HB.out.size,HB.out.block⟩).trans (hb4.mono Bf.out.2.1)
 have fV:=Lib.hid hbw
 have nV:=Lib.hid hrow
 have HZ:=Lib.hid hz
 have k0:w4.cell? ⟨g,0,none⟩=some (.int .i64 a):=by rw[cell_of_row w4 _ _ _ _ _ hrow];rfl
 have fz0:w4.frozen? ⟨g,0,none⟩=false:=frozen_of_row _ _ _ _ _ hrow
 clear q1 q2 zO hsrc hwr hb4 hg4 hbw hz hrow
 have ngg:g≠g2∧g2≠g:=by have:=Bf.out;omega
 obtain⟨n1,n2⟩:=ngg
 have k1:w4.cell? ⟨g,1,none⟩=some (.int .i64 a):=by rw[cell_of_row w4 _ _ _ _ _ nV.out];rfl
 have k2:w4.cell? ⟨g,2,none⟩=some (.int .i64 b):=by rw[cell_of_row w4 _ _ _ _ _ nV.out];rfl
 have k3:w4.cell? ⟨g,3,none⟩=some (.int .i64 c):=by rw[cell_of_row w4 _ _ _ _ _ nV.out];rfl
 have z0:w4.cell? ⟨g2,0,none⟩=some (.int .i64 0):=by rw[cell_of_row w4 _ _ _ _ _ HZ.out];rfl
 have f0:w4.frozen? ⟨g2,0,none⟩=false:=frozen_of_row _ _ _ _ _ HZ.out
 have z1:w4.cell? ⟨g2,1,none⟩=some (.int .i64 0):=by rw[cell_of_row w4 _ _ _ _ _ HZ.out];rfl
 have f1:w4.frozen? ⟨g2,1,none⟩=false:=frozen_of_row _ _ _ _ _ HZ.out
 have z2:w4.cell? ⟨g2,2,none⟩=some (.int .i64 0):=by rw[cell_of_row w4 _ _ _ _ _ HZ.out];rfl
 have f2:w4.frozen? ⟨g2,2,none⟩=false:=frozen_of_row _ _ _ _ _ HZ.out
 have z3:w4.cell? ⟨g2,3,none⟩=some (.int .i64 0):=by rw[cell_of_row w4 _ _ _ _ _ HZ.out];rfl
 have f3:w4.frozen? ⟨g2,3,none⟩=false:=frozen_of_row _ _ _ _ _ HZ.out
 go_wp2_with fail
 refine bodyPost_ret (v:=Np dd a b c) (by simp[results,Tryz.results162,go_sem,z0,z1,z2,z3]) rfl ⟨rfl,?_⟩
 have hg:=Bf.out
 rw[HW0.out]
 refine Below.setCell ?_ hg.2.2 _
 refine Below.setCell ?_ hg.2.2 _
 refine Below.setCell ?_ hg.2.2 _
 refine Below.setCell ?_ hg.2.2 _
 exact Below.setCell fV.out hg.2.1 _
theorem Ou(a b c d:Int)(Nu:UInt8)(l dd:Int)(w:World):Calls Tryz.prog 162 #[Np a b c d,yL 2 Nu l dd 0] w (kJ a b c d w):=by
 go_enter Tryz.func162,Tryz.ntmps162
 go_wp2_with fail
 go_quiet (fail)
 go_wp2_with fail
 generalize hW:((((w.alloc _).alloc _).alloc _).drewN _).alloc _=W
 obtain⟨hB,h0,h2,h3⟩:=lY hW
 obtain⟨W0,hg0⟩: ∃g,w.heap.size=g:=⟨_,rfl⟩
 obtain⟨g,hg⟩: ∃g,W0+1+1+1=g:=⟨_,rfl⟩
 obtain⟨g2,hg2⟩: ∃g,W0+1+1=g:=⟨_,rfl⟩
 rw[hg0]at hB h0 h2 h3 ⊢
 rw[hg]at h3 ⊢
 rw[hg2]at h2 ⊢
 have hgg:g2<g∧W0≤g∧W0≤g2:=by omega
 have Bf:Hid (g2<g∧W0≤g∧W0≤g2):=Lib.hid hgg
 have HB:=Lib.hid hB
 have H2:=Lib.hid h2
 have HW0:=Lib.hid hg0
 clear hg hg2 hW hgg h2 hB hg0
 have q1: ∀w,(Instr.sliceAt 127 (.pointer (some ⟨g,0,none⟩)) (some (.int .i64 1)) (some (.int .i64 1)) none).run Tryz.prog w= .ok (.slice (some ⟨g,1,none⟩) 0 3) w:=fun w=>BA g 0 (by decide) w
 have q2: ∀w,(Instr.sliceAt 127 (.pointer (some ⟨W0,0,none⟩)) none (some (.int .i64 0)) none).run Tryz.prog w= .ok (.slice (some ⟨W0,0,none⟩) 0 4) w:=fun w=>JD W0 0 (by decide) w
 have zO:W.drew.heap[g]? =some (.cells ([Value.int .i64 a,Value.int .i64 b,Value.int .i64 c,Value.int .i64 d]).toArray 127 (0,0)):=h3
 have hsrc:=oV (cs:=[]) h0 (by simp)
 have hwr:IntKind.i64.wrap 1=1:=by decide
 clear h3 h0
 go_region_law (refine step_copy_splice rfl (.tmp 26) (.tmp 28) 147 147 rfl 3 Tryz.underlying147 (by kernel_rfl) _ _ _ _ _ _ rfl rfl g 1 _ _ zO ([]) rfl (fun _=>⟨rfl,_,rfl,hsrc⟩) (by simp) (by simp) g W.drew (Below.refl _ _) (Nat.le_refl _) ?_;intro w4 hg4 hb4)
 have hrow:w4.heap[g]? =some (.cells ([Value.int .i64 a,Value.int .i64 b,Value.int .i64 c,Value.int .i64 d]).toArray 127 (0,0)):=hg4.out
 have hz:w4.heap[g2]? =some (.cells ([Value.int .i64 0,Value.int .i64 0,Value.int .i64 0,Value.int .i64 0]).toArray 127 (0,0)):=(hb4.block g2 Bf.out.1).trans H2.out
 have hbw:Below W0 w w4:=(show Below W0 w W.drew from⟨HB.out.os,HB.out.tape,HB.out.output,HB.out.size,HB.out.block⟩).trans (hb4.mono Bf.out.2.1)
 have fV:=Lib.hid hbw
 have nV:=Lib.hid hrow
 have HZ:=Lib.hid hz
 have k0:w4.cell? ⟨g,0,none⟩=some (.int .i64 a):=by rw[cell_of_row w4 _ _ _ _ _ hrow];rfl
 have fz0:w4.frozen? ⟨g,0,none⟩=false:=frozen_of_row _ _ _ _ _ hrow
 clear q1 q2 zO hsrc hwr hb4 hg4 hbw hz hrow
 have ngg:g≠g2∧g2≠g:=by have:=Bf.out;omega
 obtain⟨n1,n2⟩:=ngg
 have k1:w4.cell? ⟨g,1,none⟩=some (.int .i64 b):=by rw[cell_of_row w4 _ _ _ _ _ nV.out];rfl
 have k2:w4.cell? ⟨g,2,none⟩=some (.int .i64 c):=by rw[cell_of_row w4 _ _ _ _ _ nV.out];rfl
 have k3:w4.cell? ⟨g,3,none⟩=some (.int .i64 d):=by rw[cell_of_row w4 _ _ _ _ _ nV.out];rfl
 have z0:w4.cell? ⟨g2,0,none⟩=some (.int .i64 0):=by rw[cell_of_row w4 _ _ _ _ _ HZ.out];rfl
 have f0:w4.frozen? ⟨g2,0,none⟩=false:=frozen_of_row _ _ _ _ _ HZ.out
 have z1:w4.cell? ⟨g2,1,none⟩=some (.int .i64 0):=by rw[cell_of_row w4 _ _ _ _ _ HZ.out];rfl
 have f1:w4.frozen? ⟨g2,1,none⟩=false:=frozen_of_row _ _ _ _ _ HZ.out
 have z2:w4.cell? ⟨g2,2,none⟩=some (.int .i64 0):=by rw[cell_of_row w4 _ _ _ _ _ HZ.out];rfl
 have f2:w4.frozen? ⟨g2,2,none⟩=false:=frozen_of_row _ _ _ _ _ HZ.out
 have z3:w4.cell? ⟨g2,3,none⟩=some (.int .i64 0):=by rw[cell_of_row w4 _ _ _ _ _ HZ.out];rfl
 have f3:w4.frozen? ⟨g2,3,none⟩=false:=frozen_of_row _ _ _ _ _ HZ.out
 go_wp2_with fail
 refine bodyPost_ret (v:=Np a b c d) (by simp[results,Tryz.results162,go_sem,z0,z1,z2,z3]) rfl ⟨rfl,?_⟩
 have hg:=Bf.out
 rw[HW0.out]
 refine Below.setCell ?_ hg.2.2 _
 refine Below.setCell ?_ hg.2.2 _
 refine Below.setCell ?_ hg.2.2 _
 refine Below.setCell ?_ hg.2.2 _
 exact Below.setCell fV.out hg.2.1 _
theorem Ov(a b c d:Int)(Nu:UInt8)(l dd:Int)(w:World):Calls Tryz.prog 162 #[Np a b c d,yL 2 Nu l dd 1] w (kJ b a c d w):=by
 go_enter Tryz.func162,Tryz.ntmps162
 go_wp2_with fail
 go_quiet (fail)
 go_wp2_with fail
 generalize hW:((((w.alloc _).alloc _).alloc _).drewN _).alloc _=W
 obtain⟨hB,h0,h2,h3⟩:=lY hW
 obtain⟨W0,hg0⟩: ∃g,w.heap.size=g:=⟨_,rfl⟩
 obtain⟨g,hg⟩: ∃g,W0+1+1+1=g:=⟨_,rfl⟩
 obtain⟨g2,hg2⟩: ∃g,W0+1+1=g:=⟨_,rfl⟩
 rw[hg0]at hB h0 h2 h3 ⊢
 rw[hg]at h3 ⊢
 rw[hg2]at h2 ⊢
 have hgg:g2<g∧W0≤g∧W0≤g2:=by omega
 have Bf:Hid (g2<g∧W0≤g∧W0≤g2):=Lib.hid hgg
 have HB:=Lib.hid hB
 have H2:=Lib.hid h2
 have HW0:=Lib.hid hg0
 clear hg hg2 hW hgg h2 hB hg0
 have q1: ∀w,(Instr.sliceAt 127 (.pointer (some ⟨g,0,none⟩)) (some (.int .i64 1)) (some (.int .i64 2)) none).run Tryz.prog w= .ok (.slice (some ⟨g,1,none⟩) 1 3) w:=fun w=>BA g 1 (by decide) w
 have q2: ∀w,(Instr.sliceAt 127 (.pointer (some ⟨W0,0,none⟩)) none (some (.int .i64 1)) none).run Tryz.prog w= .ok (.slice (some ⟨W0,0,none⟩) 1 4) w:=fun w=>JD W0 1 (by decide) w
 have zO:W.drew.heap[g]? =some (.cells ([Value.int .i64 a,Value.int .i64 b,Value.int .i64 c,Value.int .i64 d]).toArray 127 (0,0)):=h3
 have hsrc:=oV (cs:=[Value.int .i64 a]) h0 (by intro j hj;match j,hj with | 0,_=>rfl)
 have hwr:IntKind.i64.wrap 2=2:=by decide
 clear h3 h0
 go_region_law (refine step_copy_splice rfl (.tmp 26) (.tmp 28) 147 147 rfl 3 Tryz.underlying147 (by kernel_rfl) _ _ _ _ _ _ rfl rfl g 1 _ _ zO ([Value.int .i64 a]) rfl (fun _=>⟨rfl,_,rfl,hsrc⟩) (by simp) (by intro v hv;simp at hv;subst hv;rfl) g W.drew (Below.refl _ _) (Nat.le_refl _) ?_;intro w4 hg4 hb4)
 have hrow:w4.heap[g]? =some (.cells ([Value.int .i64 a,Value.int .i64 a,Value.int .i64 c,Value.int .i64 d]).toArray 127 (0,0)):=hg4.out
 have hz:w4.heap[g2]? =some (.cells ([Value.int .i64 0,Value.int .i64 0,Value.int .i64 0,Value.int .i64 0]).toArray 127 (0,0)):=(hb4.block g2 Bf.out.1).trans H2.out
 have hbw:Below W0 w w4:=(show Below W0 w W.drew from⟨HB.out.os,HB.out.tape,HB.out.output,HB.out.size,HB.out.block⟩).trans (hb4.mono Bf.out.2.1)
 have fV:=Lib.hid hbw
 have nV:=Lib.hid hrow
 have HZ:=Lib.hid hz
 have k0:w4.cell? ⟨g,0,none⟩=some (.int .i64 a):=by rw[cell_of_row w4 _ _ _ _ _ hrow];rfl
 have fz0:w4.frozen? ⟨g,0,none⟩=false:=frozen_of_row _ _ _ _ _ hrow
 clear q1 q2 zO hsrc hwr hb4 hg4 hbw hz hrow
 have ngg:g≠g2∧g2≠g:=by have:=Bf.out;omega
 obtain⟨n1,n2⟩:=ngg
 have k1:w4.cell? ⟨g,1,none⟩=some (.int .i64 a):=by rw[cell_of_row w4 _ _ _ _ _ nV.out];rfl
 have k2:w4.cell? ⟨g,2,none⟩=some (.int .i64 c):=by rw[cell_of_row w4 _ _ _ _ _ nV.out];rfl
 have k3:w4.cell? ⟨g,3,none⟩=some (.int .i64 d):=by rw[cell_of_row w4 _ _ _ _ _ nV.out];rfl
 have z0:w4.cell? ⟨g2,0,none⟩=some (.int .i64 0):=by rw[cell_of_row w4 _ _ _ _ _ HZ.out];rfl
 have f0:w4.frozen? ⟨g2,0,none⟩=false:=frozen_of_row _ _ _ _ _ HZ.out
 have z1:w4.cell? ⟨g2,1,none⟩=some (.int .i64 0):=by rw[cell_of_row w4 _ _ _ _ _ HZ.out];rfl
 have f1:w4.frozen? ⟨g2,1,none⟩=false:=frozen_of_row _ _ _ _ _ HZ.out
 have z2:w4.cell? ⟨g2,2,none⟩=some (.int .i64 0):=by rw[cell_of_row w4 _ _ _ _ _ HZ.out];rfl
 have f2:w4.frozen? ⟨g2,2,none⟩=false:=frozen_of_row _ _ _ _ _ HZ.out
 have z3:w4.cell? ⟨g2,3,none⟩=some (.int .i64 0):=by rw[cell_of_row w4 _ _ _ _ _ HZ.out];rfl
 have f3:w4.frozen? ⟨g2,3,none⟩=false:=frozen_of_row _ _ _ _ _ HZ.out
 go_wp2_with fail
 refine bodyPost_ret (v:=Np b a c d) (by simp[results,Tryz.results162,go_sem,z0,z1,z2,z3]) rfl ⟨rfl,?_⟩
 have hg:=Bf.out
 rw[HW0.out]
 refine Below.setCell ?_ hg.2.2 _
 refine Below.setCell ?_ hg.2.2 _
 refine Below.setCell ?_ hg.2.2 _
 refine Below.setCell ?_ hg.2.2 _
 exact Below.setCell fV.out hg.2.1 _
theorem Ox(a b c d:Int)(Nu:UInt8)(l dd:Int)(w:World):Calls Tryz.prog 162 #[Np a b c d,yL 2 Nu l dd 2] w (kJ c a b d w):=by
 go_enter Tryz.func162,Tryz.ntmps162
 go_wp2_with fail
 go_quiet (fail)
 go_wp2_with fail
 generalize hW:((((w.alloc _).alloc _).alloc _).drewN _).alloc _=W
 obtain⟨hB,h0,h2,h3⟩:=lY hW
 obtain⟨W0,hg0⟩: ∃g,w.heap.size=g:=⟨_,rfl⟩
 obtain⟨g,hg⟩: ∃g,W0+1+1+1=g:=⟨_,rfl⟩
 obtain⟨g2,hg2⟩: ∃g,W0+1+1=g:=⟨_,rfl⟩
 rw[hg0]at hB h0 h2 h3 ⊢
 rw[hg]at h3 ⊢
 rw[hg2]at h2 ⊢
 have hgg:g2<g∧W0≤g∧W0≤g2:=by omega
 have Bf:Hid (g2<g∧W0≤g∧W0≤g2):=Lib.hid hgg
 have HB:=Lib.hid hB
 have H2:=Lib.hid h2
 have HW0:=Lib.hid hg0
 clear hg hg2 hW hgg h2 hB hg0
 have q1: ∀w,(Instr.sliceAt 127 (.pointer (some ⟨g,0,none⟩)) (some (.int .i64 1)) (some (.int .i64 3)) none).run Tryz.prog w= .ok (.slice (some ⟨g,1,none⟩) 2 3) w:=fun w=>BA g 2 (by decide) w
 have q2: ∀w,(Instr.sliceAt 127 (.pointer (some ⟨W0,0,none⟩)) none (some (.int .i64 2)) none).run Tryz.prog w= .ok (.slice (some ⟨W0,0,none⟩) 2 4) w:=fun w=>JD W0 2 (by decide) w
 have zO:W.drew.heap[g]? =some (.cells ([Value.int .i64 a,Value.int .i64 b,Value.int .i64 c,Value.int .i64 d]).toArray 127 (0,0)):=h3
 have hsrc:=oV (cs:=[Value.int .i64 a,Value.int .i64 b]) h0 (by intro j hj;match j,hj with | 0,_ | 1,_=>rfl)
 have hwr:IntKind.i64.wrap 3=3:=by decide
 clear h3 h0
 go_region_law (refine step_copy_splice rfl (.tmp 26) (.tmp 28) 147 147 rfl 3 Tryz.underlying147 (by kernel_rfl) _ _ _ _ _ _ rfl rfl g 1 _ _ zO ([Value.int .i64 a,Value.int .i64 b]) rfl (fun _=>⟨rfl,_,rfl,hsrc⟩) (by simp) (by intro v hv;simp at hv;rcases hv with rfl | rfl<;>rfl) g W.drew (Below.refl _ _) (Nat.le_refl _) ?_;intro w4 hg4 hb4)
 have hrow:w4.heap[g]? =some (.cells ([Value.int .i64 a,Value.int .i64 a,Value.int .i64 b,Value.int .i64 d]).toArray 127 (0,0)):=hg4.out
 have hz:w4.heap[g2]? =some (.cells ([Value.int .i64 0,Value.int .i64 0,Value.int .i64 0,Value.int .i64 0]).toArray 127 (0,0)):=(hb4.block g2 Bf.out.1).trans H2.out
 have hbw:Below W0 w w4:=(show Below W0 w W.drew from⟨HB.out.os,HB.out.tape,HB.out.output,HB.out.size,HB.out.block⟩).trans (hb4.mono Bf.out.2.1)
 have fV:=Lib.hid hbw
 have nV:=Lib.hid hrow
 have HZ:=Lib.hid hz
 have k0:w4.cell? ⟨g,0,none⟩=some (.int .i64 a):=by rw[cell_of_row w4 _ _ _ _ _ hrow];rfl
 have fz0:w4.frozen? ⟨g,0,none⟩=false:=frozen_of_row _ _ _ _ _ hrow
 clear q1 q2 zO hsrc hwr hb4 hg4 hbw hz hrow
 have ngg:g≠g2∧g2≠g:=by have:=Bf.out;omega
 obtain⟨n1,n2⟩:=ngg
 have k1:w4.cell? ⟨g,1,none⟩=some (.int .i64 a):=by rw[cell_of_row w4 _ _ _ _ _ nV.out];rfl
 have k2:w4.cell? ⟨g,2,none⟩=some (.int .i64 b):=by rw[cell_of_row w4 _ _ _ _ _ nV.out];rfl
 have k3:w4.cell? ⟨g,3,none⟩=some (.int .i64 d):=by rw[cell_of_row w4 _ _ _ _ _ nV.out];rfl
 have z0:w4.cell? ⟨g2,0,none⟩=some (.int .i64 0):=by rw[cell_of_row w4 _ _ _ _ _ HZ.out];rfl
 have f0:w4.frozen? ⟨g2,0,none⟩=false:=frozen_of_row _ _ _ _ _ HZ.out
 have z1:w4.cell? ⟨g2,1,none⟩=some (.int .i64 0):=by rw[cell_of_row w4 _ _ _ _ _ HZ.out];rfl
 have f1:w4.frozen? ⟨g2,1,none⟩=false:=frozen_of_row _ _ _ _ _ HZ.out
 have z2:w4.cell? ⟨g2,2,none⟩=some (.int .i64 0):=by rw[cell_of_row w4 _ _ _ _ _ HZ.out];rfl
 have f2:w4.frozen? ⟨g2,2,none⟩=false:=frozen_of_row _ _ _ _ _ HZ.out
 have z3:w4.cell? ⟨g2,3,none⟩=some (.int .i64 0):=by rw[cell_of_row w4 _ _ _ _ _ HZ.out];rfl
 have f3:w4.frozen? ⟨g2,3,none⟩=false:=frozen_of_row _ _ _ _ _ HZ.out
 go_wp2_with fail
 refine bodyPost_ret (v:=Np c a b d) (by simp[results,Tryz.results162,go_sem,z0,z1,z2,z3]) rfl ⟨rfl,?_⟩
 have hg:=Bf.out
 rw[HW0.out]
 refine Below.setCell ?_ hg.2.2 _
 refine Below.setCell ?_ hg.2.2 _
 refine Below.setCell ?_ hg.2.2 _
 refine Below.setCell ?_ hg.2.2 _
 exact Below.setCell fV.out hg.2.1 _
theorem Oy(a b c d:Int)(Nu:UInt8)(l dd:Int)(w:World):Calls Tryz.prog 162 #[Np a b c d,yL 2 Nu l dd 3] w (kJ d a b c w):=by
 go_enter Tryz.func162,Tryz.ntmps162
 go_wp2_with fail
 go_quiet (fail)
 go_wp2_with fail
 generalize hW:((((w.alloc _).alloc _).alloc _).drewN _).alloc _=W
 obtain⟨hB,h0,h2,h3⟩:=lY hW
 obtain⟨W0,hg0⟩: ∃g,w.heap.size=g:=⟨_,rfl⟩
 obtain⟨g,hg⟩: ∃g,W0+1+1+1=g:=⟨_,rfl⟩
 obtain⟨g2,hg2⟩: ∃g,W0+1+1=g:=⟨_,rfl⟩
 rw[hg0]at hB h0 h2 h3 ⊢
 rw[hg]at h3 ⊢
 rw[hg2]at h2 ⊢
 have hgg:g2<g∧W0≤g∧W0≤g2:=by omega
 have Bf:Hid (g2<g∧W0≤g∧W0≤g2):=Lib.hid hgg
 have HB:=Lib.hid hB
 have H2:=Lib.hid h2
 have HW0:=Lib.hid hg0
 clear hg hg2 hW hgg h2 hB hg0
 have q1: ∀w,(Instr.sliceAt 127 (.pointer (some ⟨g,0,none⟩)) (some (.int .i64 1)) (some (.int .i64 4)) none).run Tryz.prog w= .ok (.slice (some ⟨g,1,none⟩) 3 3) w:=fun w=>BA g 3 (by decide) w
 have q2: ∀w,(Instr.sliceAt 127 (.pointer (some ⟨W0,0,none⟩)) none (some (.int .i64 3)) none).run Tryz.prog w= .ok (.slice (some ⟨W0,0,none⟩) 3 4) w:=fun w=>JD W0 3 (by decide) w
 have zO:W.drew.heap[g]? =some (.cells ([Value.int .i64 a,Value.int .i64 b,Value.int .i64 c,Value.int .i64 d]).toArray 127 (0,0)):=h3
 have hsrc:=oV (cs:=[Value.int .i64 a,Value.int .i64 b,Value.int .i64 c]) h0 (by intro j hj;match j,hj with | 0,_ | 1,_ | 2,_=>rfl)
 have hwr:IntKind.i64.wrap 4=4:=by decide
 clear h3 h0
 go_region_law (refine step_copy_splice rfl (.tmp 26) (.tmp 28) 147 147 rfl 3 Tryz.underlying147 (by kernel_rfl) _ _ _ _ _ _ rfl rfl g 1 _ _ zO ([Value.int .i64 a,Value.int .i64 b,Value.int .i64 c]) rfl (fun _=>⟨rfl,_,rfl,hsrc⟩) (by simp) (by intro v hv;simp at hv;rcases hv with rfl | rfl | rfl<;>rfl) g W.drew (Below.refl _ _) (Nat.le_refl _) ?_;intro w4 hg4 hb4)
 have hrow:w4.heap[g]? =some (.cells ([Value.int .i64 a,Value.int .i64 a,Value.int .i64 b,Value.int .i64 c]).toArray 127 (0,0)):=hg4.out
 have hz:w4.heap[g2]? =some (.cells ([Value.int .i64 0,Value.int .i64 0,Value.int .i64 0,Value.int .i64 0]).toArray 127 (0,0)):=(hb4.block g2 Bf.out.1).trans H2.out
 have hbw:Below W0 w w4:=(show Below W0 w W.drew from⟨HB.out.os,HB.out.tape,HB.out.output,HB.out.size,HB.out.block⟩).trans (hb4.mono Bf.out.2.1)
 have fV:=Lib.hid hbw
 have nV:=Lib.hid hrow
 have HZ:=Lib.hid hz
 have k0:w4.cell? ⟨g,0,none⟩=some (.int .i64 a):=by rw[cell_of_row w4 _ _ _ _ _ hrow];rfl
 have fz0:w4.frozen? ⟨g,0,none⟩=false:=frozen_of_row _ _ _ _ _ hrow
 clear q1 q2 zO hsrc hwr hb4 hg4 hbw hz hrow
 have ngg:g≠g2∧g2≠g:=by have:=Bf.out;omega
 obtain⟨n1,n2⟩:=ngg
 have k1:w4.cell? ⟨g,1,none⟩=some (.int .i64 a):=by rw[cell_of_row w4 _ _ _ _ _ nV.out];rfl
 have k2:w4.cell? ⟨g,2,none⟩=some (.int .i64 b):=by rw[cell_of_row w4 _ _ _ _ _ nV.out];rfl
 have k3:w4.cell? ⟨g,3,none⟩=some (.int .i64 c):=by rw[cell_of_row w4 _ _ _ _ _ nV.out];rfl
 have z0:w4.cell? ⟨g2,0,none⟩=some (.int .i64 0):=by rw[cell_of_row w4 _ _ _ _ _ HZ.out];rfl
 have f0:w4.frozen? ⟨g2,0,none⟩=false:=frozen_of_row _ _ _ _ _ HZ.out
 have z1:w4.cell? ⟨g2,1,none⟩=some (.int .i64 0):=by rw[cell_of_row w4 _ _ _ _ _ HZ.out];rfl
 have f1:w4.frozen? ⟨g2,1,none⟩=false:=frozen_of_row _ _ _ _ _ HZ.out
 have z2:w4.cell? ⟨g2,2,none⟩=some (.int .i64 0):=by rw[cell_of_row w4 _ _ _ _ _ HZ.out];rfl
 have f2:w4.frozen? ⟨g2,2,none⟩=false:=frozen_of_row _ _ _ _ _ HZ.out
 have z3:w4.cell? ⟨g2,3,none⟩=some (.int .i64 0):=by rw[cell_of_row w4 _ _ _ _ _ HZ.out];rfl
 have f3:w4.frozen? ⟨g2,3,none⟩=false:=frozen_of_row _ _ _ _ _ HZ.out
 go_wp2_with fail
 refine bodyPost_ret (v:=Np d a b c) (by simp[results,Tryz.results162,go_sem,z0,z1,z2,z3]) rfl ⟨rfl,?_⟩
 have hg:=Bf.out
 rw[HW0.out]
 refine Below.setCell ?_ hg.2.2 _
 refine Below.setCell ?_ hg.2.2 _
 refine Below.setCell ?_ hg.2.2 _
 refine Below.setCell ?_ hg.2.2 _
 exact Below.setCell fV.out hg.2.1 _
def firstTo(g:Nat→Nat):Nat→Nat×Nat
 | 0=>(0,0)
 | n+1=>if(firstTo g n).1<g n then(g n,n)else firstTo g n
def ig(D:List UInt8)(dict place left a b c d:Int):Nat×Nat:=firstTo (fun i=>fQ D dict place (r4 a b c d i) left) 4
def abL(r:Nat×Nat)(w:World)(e:Ending)(w':World):Prop:=e= .returned (.tuple #[.int .i64 (r.1:Nat),.int .i64 (r.2:Nat)])∧Below w.heap.size w w'
theorem Dk(F:Nat)(A:Option Addr)(cp:Nat)(D:List UInt8)(dict nice:Int)(mp:Nat)(v4:Value)(place left a b c d:Int)(w:World)(hF:dH w F A cp D dict nice mp v4):
  Calls Tryz.prog 159 #[PF F,.int .i64 place,.int .i64 left,Np a b c d] w (abL (ig D dict place left a b c d) w):=by
 have HL:=Lib.hid (fun(m:Nat) (W:World) (hb:Below w.heap.size w W) (x:Int)=>CU F A cp D dict nice mp v4 place x left (W.drewN m) ((hF.below hb).drewN m))
 unfold ig
 obtain⟨g,hg⟩: ∃g:Nat→Nat,(fun i=>fQ D dict place (r4 a b c d i) left)=g:=⟨_,rfl⟩
 rw[hg]
 have HG:=Lib.hid (fun i=>congrFun hg i)
 clear hg hF
 go_enter Tryz.func159,Tryz.ntmps159
 go_wp2_with fail
 obtain⟨W,hW⟩: ∃W,w.alloc (.cells #[.int .i64 a,.int .i64 b,.int .i64 c,.int .i64 d] 127)=W:=⟨_,rfl⟩
 rw[hW]
 have HB:Hid (Below w.heap.size w W):=Lib.hid (by rw[←hW];exact(Below.refl _ _).alloc (Nat.le_refl _) _)
 clear hW
 go_loopw [10,11,16] (fun x y i wr=> ∃(n m:Nat),n≤4∧i= .int .i64 (n:Nat)∧x= .int .i64 ((firstTo g n).1:Nat)∧y= .int .i64 ((firstTo g n).2:Nat)∧wr=W.drewN m) (fun x y i _=>4-(intOf i).toNat)
 case atStart=>exact⟨0,0,by omega,rfl,rfl,rfl,rfl⟩
 case round=>
  obtain⟨n,m,hn,rfl,rfl,rfl,rfl⟩:=hrel
  rcases(by omega:n=0∨n=1∨n=2∨n=3∨n=4)with rfl | rfl | rfl | rfl | rfl
  ·have hix:=VH a b c d
   have hE:fQ D dict place a left=g 0:=HG.out 0
   obtain⟨gn,hgn⟩: ∃x,g 0=x:=⟨_,rfl⟩
   rw[hgn]at hE
   have HE:=Lib.hid hE
   have HS:Hid (firstTo g 1=if(firstTo g 0).1<gn then(gn,0)else firstTo g 0):=Lib.hid (by rw[←hgn];rfl)
   obtain⟨u,hu⟩: ∃u,(firstTo g 0).1=u:=⟨_,rfl⟩
   obtain⟨v,hv⟩: ∃v,(firstTo g 0).2=v:=⟨_,rfl⟩
   have HU:Hid (firstTo g 0=(u,v)):=Lib.hid (by rw[←hu,←hv])
   rw[hu,hv]
   clear hE hgn hu hv
   by_cases hlt:u<gn
   ·have HS2:Hid (firstTo g 1=(gn,0)):=Lib.hid (by rw[HS.out,HU.out,if_pos hlt])
    have hlt2:(u:Int)<(gn:Int):=by omega
    clear hlt
    go_wp2_with fail
    refine(HL.out m W HB.out a).mono ?_
    rintro e w2 ⟨rfl,m2,rfl⟩
    rw[HE.out]
    go_wp2_with fail
    exact⟨⟨1,_,by omega,rfl,by rw[HS2.out],by rw[HS2.out];rfl,rfl⟩,by simp[intOf]⟩
   ·have HS2:Hid (firstTo g 1=(u,v)):=Lib.hid (by rw[HS.out,HU.out,if_neg hlt])
    have hlt2: ¬(u:Int)<(gn:Int):=by omega
    clear hlt
    go_wp2_with fail
    refine(HL.out m W HB.out a).mono ?_
    rintro e w2 ⟨rfl,m2,rfl⟩
    rw[HE.out]
    go_wp2_with fail
    exact⟨⟨1,_,by omega,rfl,by rw[HS2.out],by rw[HS2.out],rfl⟩,by simp[intOf]⟩
  ·have hix:=ag0 a b c d
   have hE:fQ D dict place b left=g 1:=HG.out 1
   obtain⟨gn,hgn⟩: ∃x,g 1=x:=⟨_,rfl⟩
   rw[hgn]at hE
   have HE:=Lib.hid hE
   have HS:Hid (firstTo g 2=if(firstTo g 1).1<gn then(gn,1)else firstTo g 1):=Lib.hid (by rw[←hgn];rfl)
   obtain⟨u,hu⟩: ∃u,(firstTo g 1).1=u:=⟨_,rfl⟩
   obtain⟨v,hv⟩: ∃v,(firstTo g 1).2=v:=⟨_,rfl⟩
   have HU:Hid (firstTo g 1=(u,v)):=Lib.hid (by rw[←hu,←hv])
   rw[hu,hv]
   clear hE hgn hu hv
   by_cases hlt:u<gn
   ·have HS2:Hid (firstTo g 2=(gn,1)):=Lib.hid (by rw[HS.out,HU.out,if_pos hlt])
    have hlt2:(u:Int)<(gn:Int):=by omega
    clear hlt
    go_wp2_with fail
    refine(HL.out m W HB.out b).mono ?_
    rintro e w2 ⟨rfl,m2,rfl⟩
    rw[HE.out]
    go_wp2_with fail
    exact⟨⟨2,_,by omega,rfl,by rw[HS2.out],by rw[HS2.out];rfl,rfl⟩,by simp[intOf]⟩
   ·have HS2:Hid (firstTo g 2=(u,v)):=Lib.hid (by rw[HS.out,HU.out,if_neg hlt])
    have hlt2: ¬(u:Int)<(gn:Int):=by omega
    clear hlt
    go_wp2_with fail
    refine(HL.out m W HB.out b).mono ?_
    rintro e w2 ⟨rfl,m2,rfl⟩
    rw[HE.out]
    go_wp2_with fail
    exact⟨⟨2,_,by omega,rfl,by rw[HS2.out],by rw[HS2.out],rfl⟩,by simp[intOf]⟩
  ·have hix:=ag1 a b c d
   have hE:fQ D dict place c left=g 2:=HG.out 2
   obtain⟨gn,hgn⟩: ∃x,g 2=x:=⟨_,rfl⟩
   rw[hgn]at hE
   have HE:=Lib.hid hE
   have HS:Hid (firstTo g 3=if(firstTo g 2).1<gn then(gn,2)else firstTo g 2):=Lib.hid (by rw[←hgn];rfl)
   obtain⟨u,hu⟩: ∃u,(firstTo g 2).1=u:=⟨_,rfl⟩
   obtain⟨v,hv⟩: ∃v,(firstTo g 2).2=v:=⟨_,rfl⟩
   have HU:Hid (firstTo g 2=(u,v)):=Lib.hid (by rw[←hu,←hv])
   rw[hu,hv]
   clear hE hgn hu hv
   by_cases hlt:u<gn
   ·have HS2:Hid (firstTo g 3=(gn,2)):=Lib.hid (by rw[HS.out,HU.out,if_pos hlt])
    have hlt2:(u:Int)<(gn:Int):=by omega
    clear hlt
    go_wp2_with fail
    refine(HL.out m W HB.out c).mono ?_
    rintro e w2 ⟨rfl,m2,rfl⟩
    rw[HE.out]
    go_wp2_with fail
    exact⟨⟨3,_,by omega,rfl,by rw[HS2.out],by rw[HS2.out];rfl,rfl⟩,by simp[intOf]⟩
   ·have HS2:Hid (firstTo g 3=(u,v)):=Lib.hid (by rw[HS.out,HU.out,if_neg hlt])
    have hlt2: ¬(u:Int)<(gn:Int):=by omega
    clear hlt
    go_wp2_with fail
    refine(HL.out m W HB.out c).mono ?_
    rintro e w2 ⟨rfl,m2,rfl⟩
    rw[HE.out]
    go_wp2_with fail
    exact⟨⟨3,_,by omega,rfl,by rw[HS2.out],by rw[HS2.out],rfl⟩,by simp[intOf]⟩
  ·have hix:=ag2 a b c d
   have hE:fQ D dict place d left=g 3:=HG.out 3
   obtain⟨gn,hgn⟩: ∃x,g 3=x:=⟨_,rfl⟩
   rw[hgn]at hE
   have HE:=Lib.hid hE
   have HS:Hid (firstTo g 4=if(firstTo g 3).1<gn then(gn,3)else firstTo g 3):=Lib.hid (by rw[←hgn];rfl)
   obtain⟨u,hu⟩: ∃u,(firstTo g 3).1=u:=⟨_,rfl⟩
   obtain⟨v,hv⟩: ∃v,(firstTo g 3).2=v:=⟨_,rfl⟩
   have HU:Hid (firstTo g 3=(u,v)):=Lib.hid (by rw[←hu,←hv])
   rw[hu,hv]
   clear hE hgn hu hv
   by_cases hlt:u<gn
   ·have HS2:Hid (firstTo g 4=(gn,3)):=Lib.hid (by rw[HS.out,HU.out,if_pos hlt])
    have hlt2:(u:Int)<(gn:Int):=by omega
    clear hlt
    go_wp2_with fail
    refine(HL.out m W HB.out d).mono ?_
    rintro e w2 ⟨rfl,m2,rfl⟩
    rw[HE.out]
    go_wp2_with fail
    exact⟨⟨4,_,by omega,rfl,by rw[HS2.out],by rw[HS2.out];rfl,rfl⟩,by simp[intOf]⟩
   ·have HS2:Hid (firstTo g 4=(u,v)):=Lib.hid (by rw[HS.out,HU.out,if_neg hlt])
    have hlt2: ¬(u:Int)<(gn:Int):=by omega
    clear hlt
    go_wp2_with fail
    refine(HL.out m W HB.out d).mono ?_
    rintro e w2 ⟨rfl,m2,rfl⟩
    rw[HE.out]
    go_wp2_with fail
    exact⟨⟨4,_,by omega,rfl,by rw[HS2.out],by rw[HS2.out],rfl⟩,by simp[intOf]⟩
  ·go_wp2_with fail
   go_ret2
   exact⟨rfl,below_drewN HB.out _⟩
end Go.Proofs.YtgfpocdiojifoaaGreatDoor
