import Derived.Test.YtgfpocdiojifoaaGreatDoorZ04
import Derived.Test.YtgfpocdiojifoaaGreatDoorZ05
import Derived.Deep.RegionHeld3
import Derived.ChangeKeysEq
import Derived.Laws.NewBlocks
import Derived.OpenShut
import Derived.LaidMore
namespace Go.Proofs.YtgfpocdiojifoaaGreatDoor
set_option maxRecDepth 100000
set_option maxHeartbeats 8000000
open Go.RowKit Go.Proofs.Tryz
variable{X:List Nat}{L:List UInt8}{B g n:Nat}{t:TypeId}{a b w w':World}
def lenOf(v:Value):Nat:=match v with | .slice _ n _=>n | _=>0
theorem J3:(prog.info? 5).map (·.size)=some 1:=ak
theorem Px(W8:List Value)(h8:W8.length=8)(ax ch:List UInt8)(x:Value)(o:Nat)(hb:ax.length=64)(ho:o+ch.length≤64):
  (W8++(ax.map B8++[x])).take (8+o)++(ch.map B8++(W8++(ax.map B8++[x])).drop (8+o+ch.length))=W8++((lay ax o ch).map B8++[x]):=by
 unfold lay;rw[List.take_append,List.drop_append,h8];rw[List.take_of_length_le aa,show 8+o-8=o by omega,List.drop_eq_nil_of_le aa,show 8+o+ch.length-8=o+ch.length by omega];rw[List.take_append_of_le_length av,List.drop_append_of_le_length av];simp
theorem Py(W8:List Value)(h8:W8.length=8)(ax:List UInt8)(x y:Value)(hb:ax.length=64):(W8++(ax.map B8++[x])).set 72 y=W8++(ax.map B8++[y]):=by rw[List.set_append_right _ _ aa,h8,List.set_append_right _ _ (by simp[hb])];simp[hb]
theorem La(t:St)(o:Nat)(ch:List UInt8)(hb:t.ax.length=64)(ho:o+ch.length≤64):
  t.cells.toArray.toList.take (8+o)++((ch.map B8)++t.cells.toArray.toList.drop (8+o+(ch.map B8).length))=(St.mk t.ws (lay t.ax o ch) t.n).cells:=by
 rw[List.length_map];exact Px t.ws.agg.toList rfl t.ax ch _ o hb ho
theorem cN.count{s:St}(h:cN w g s)(m:Nat):cN (w.setCell ⟨g,72,none⟩ (.int .u64 (m:Nat))) g ⟨s.ws,s.ax,m⟩:=by refine⟨?_,h.len⟩;have e:s.cells.set 72 (.int .u64 (m:Nat))=(St.mk s.ws s.ax m).cells:=Py s.ws.agg.toList rfl s.ax _ _ h.len;unfold World.setCell;simp[Array.getElem?_modify,h.at_,e]
theorem cN.words{s:St}(h:cN w g s)(r:R8):cN (w.setCells g 0 r.agg.toList) g ⟨r,s.ax,s.n⟩:=by refine⟨?_,h.len⟩;have h0:=heap_set h.at_ 0 (ay r.a);have h1:=heap_set h0 1 (ay r.b);have h2:=heap_set h1 2 (ay r.c);have h3:=heap_set h2 3 (ay r.d);have h4:=heap_set h3 4 (ay r.e);have h5:=heap_set h4 5 (ay r.f);have h6:=heap_set h5 6 (ay r.g);have h7:=heap_set h6 7 (ay r.h);exact h7
theorem cN.BA{s:St}(h:cN w g s):w.rangeAt g 0 s.ws.agg.toList:=by
 intro j v hv;rw[Nat.zero_add,h.cellAt];have hj:j<s.ws.agg.toList.length:=by
  rcases Nat.lt_or_ge j s.ws.agg.toList.length with h | h;·exact h
  ·rw[List.getElem?_eq_none h]at hv;cases hv
 unfold St.cells;rw[List.getElem?_append_left hj];exact hv
theorem cN.tl{s:St}(h:cN w g s):w.rangeAt g 8 (s.ax.map B8):=by
 intro j v hv;rw[h.cellAt];have hj:j<(s.ax.map B8).length:=by
  rcases Nat.lt_or_ge j (s.ax.map B8).length with h | h;·exact h
  ·rw[List.getElem?_eq_none h]at hv;cases hv
 have h8:s.ws.agg.toList.length=8:=rfl;unfold St.cells;generalize s.ws.agg.toList=W8 at*;rw[List.getElem?_append_right aa,h8,show 8+j-8=j by omega,List.getElem?_append_left hj];exact hv
theorem cN.Pz{s:St}(h:cN w g s):w.there g 0 8:=by
 intro j hj;refine⟨?_,?_⟩;·rw[Nat.zero_add,h.cellAt,List.getElem?_eq_getElem (by rw[s.mw h.len];omega)];rfl
 ·simp[World.frozen?,h.at_]
theorem cN.BB{s:St}(h:cN w g s)(hb:Below B w w')(hg:g<B):cN w' g s:=⟨(hb.block g hg).trans h.at_,h.len⟩
theorem lg(g:Nat)(hg:g∈X): ∀(vs:List Value) (o:Nat) (b:World),az X a b→az X a (b.setCells g o vs)
 | [],_,_,h=>h
 | _::vs,o,_,h=>lg g hg vs (o+1) _ (h.setCell (p:=⟨g,o,none⟩) (.inl hg) _)
theorem qh(h:Below a.heap.size a b):az [] a b:=⟨h.os,h.tape,h.output,h.size,fun i hi _=>h.block i hi⟩
theorem mW(h:Below B a.drew b):Below B a b:=⟨h.os,h.tape,h.output,h.size,h.block⟩
theorem BC(D:List UInt8)(n:Nat):D.take (D.take n).length=D.take n:=by
 rw[List.length_take];rcases Nat.le_total n D.length with h | h;·rw[Nat.min_eq_left h]
 ·rw[Nat.min_eq_right h,List.take_length,List.take_of_length_le h]
theorem Lb(g o:Nat)(h:o<64)(w:World):(Instr.sliceAt 251 (.pointer (some ⟨g,8,none⟩)) (some (.int .i64 (o:Nat))) none none).run prog w= .ok (.slice (some ⟨g,8+o,none⟩) (64-o) (64-o)) w:=by have ha:prog.arrayLen 251=64:=ak;have hu:prog.underlying 251=some (.array (prog.arrayLen 251) (prog.elem 251)):=ak;have hs:(sizeOf (prog.elem 251)).run prog w= .ok 1 w:=ak;rw[run_sliceAt_array_l w 251 ⟨g,8,none⟩ hu .i64 (o:Nat) aa (by rw[ha];omega),hs,ha];simp only[Result.andThen,slicedAt,Int.toNat_natCast,Nat.mul_one];rw[if_neg aa,Addr.add_mid]
theorem zM(g:Nat)(s:St)(A:Option Addr)(l:List UInt8)(c:Nat)(w:World)(hH:cN w g s)(hB:Bytes w A l)(hA:0<l.length→ ∀a,A=some a→a.block≠g)(hg:g<w.heap.size)(hK: ∀i,i<64→w.cell? ⟨2,i,none⟩=some (ay (Kc i)))(h1:2<g)(hc:l.length≤c)(_hm:c≤9223372036854775807)(hn:s.n+l.length≤1000000000):
  Calls prog 130 #[.pointer (some ⟨g,0,none⟩),.slice A l.length c] w fun e w'=>e= .returned (.tuple #[])∧cN w' g (s.dZ l)∧az [g] w w':=by
 have HK:=hdd hK;have HN:=hdd hn;clear hK hn;go_enter func130,ntmps130;go_wp2_with fail;go_loopw [1] (fun v wr=> ∃(k:Nat) (Ak:Option Addr),k≤l.length∧v= .slice Ak (l.length-k) (c-k)∧Bytes wr Ak (l.drop k)∧(k<l.length→ ∀a,Ak=some a→a.block≠g)∧cN wr g (s.dZ (l.take k))∧az [g] w wr) (fun v _=>lenOf v);case atStart=>exact⟨0,A,aa,rfl,hB,hA,hH,az.refl _ _⟩
 case round=>
  obtain⟨k,Ak,hk,rfl,UG,hAk,hHk,bU⟩:=hrel;clear hB hA hH;by_cases aF:k<l.length
  ·have hlen:(l.drop k).length=l.length-k:=List.length_drop ..;obtain⟨bb,off,rfl,fF,hcell⟩:=UG.addr aa;have hbg:bb≠g:=hAk aF _ rfl;have htn:=St.Bz (l.take k) s;have htk:(l.take k).length=k:=qa;rw[htk]at htn;have HT:Hid (∀m,k+m≤l.length→s.dZ (l.take (k+m))=(s.dZ (l.take k)).dZ ((l.drop k).take m)):=hdd (fun m _=>by rw[List.take_add,St.nK]);generalize bJ:s.dZ (l.take k)=t at*;have DX:=hHk.len;have ac5:=(hHk.cellAt 72).trans (t.GO DX);have htb:t.n≤1000000000:=ar HN.out;have bx:=hHk.at_;have nL:(t.n:Int)%64=((t.n%64:Nat):Int):=aa;have ho:t.n%64<64:=aa;have hnn:(t.n:Int)≤1000000000:=aa;have vU:(0:Int)<((l.length-k:Nat):Int):=aa;have HTN:=hdd htn;have iE:=hdd bJ;clear htn bJ htk;generalize hD:l.drop k=D at*;have HD:=hdd hD;clear hD;generalize hL:l.length-k=L at*;have HL:=hdd hL;clear hL;generalize hCK:c-k=ck at*;have Uu:=hdd hCK;clear hCK;generalize hO:t.n%64=o at*;have HO:=hdd hO;clear hO;have hcut:=Lb g o ho;have fX:Nat.min L (64-o)=(D.take (64-o)).length:=(by rw[List.length_take,hlen,Nat.min_comm]);have ac6:=BC D (64-o);generalize FQ:D.take (64-o)=ch at*;have arr:ch.length≤64-o:=Gc;have ars:0<ch.length:=Gc;have fT: ∀j v,(ch.map B8)[j]? =some v→wr.cell? ((⟨bb,off,none⟩:Addr).add j)=some v:=by
    intro j v hv;rw[List.getElem?_map]at hv;have hj:j<ch.length:=by
     rcases Nat.lt_or_ge j ch.length with h | h;·exact h
     ·rw[List.getElem?_eq_none h]at hv;simp at hv
    have hjD:j<D.length:=(by have:ch.length≤D.length:=Gc;omega);rw[List.getElem?_eq_getElem hj]at hv;simp at hv;rw[Addr.add_mid,hcell j hjD,←hv];have:ch[j]=D[j]:=(by simp only[←FQ,List.getElem_take]);rw[this]
   have pG:=t.mw DX;have bt:8+o+(ch.map B8).length≤t.cells.toArray.size:=(by simp[pG];omega);have GR:Hid ((t.cells.toArray.toList.take (8+o)++((ch.map B8)++t.cells.toArray.toList.drop (8+o+(ch.map B8).length)))=(St.mk t.ws (lay t.ax o ch) t.n).cells):=hdd (La t o ch DX aa);have dE:=setRow_heap wr g t.cells.toArray (St.mk t.ws (lay t.ax o ch) t.n).cells.toArray _ _ bx;have PC:(lay t.ax o ch).length=64:=(by rw[GN _ _ _ aa,DX]);have hH1:cN (wr.setRow g (St.mk t.ws (lay t.ax o ch) t.n).cells.toArray) g (St.mk t.ws (lay t.ax o ch) t.n):=⟨dE,PC⟩
   have hO1:az [g] wr (wr.setRow g (St.mk t.ws (lay t.ax o ch) t.n).cells.toArray):=⟨rfl,rfl,rfl,by simp[World.setRow],fun i _ hi=>setRow_other wr g i _ jp⟩
   have c1:=(hH1.cellAt 72).trans ((St.mk t.ws (lay t.ax o ch) t.n).GO PC);have f1:(wr.setRow g (St.mk t.ws (lay t.ax o ch) t.n).cells.toArray).frozen? ⟨g,72,none⟩=false:=(by simp[World.frozen?,dE]);have GS:=hH1.count (t.n+ch.length);have UH:=hO1.setCell (p:=⟨g,72,none⟩) ae (.int .u64 ((t.n+ch.length:Nat):Int));have wO:(t.n:Int)+(ch.length:Int)=((t.n+ch.length:Nat):Int):=aa;have C1:=hdd (St.wL ch t DX (by rw[HO.out];omega));clear dE pG hnn wO;simp only at c1;generalize UI:(St.mk t.ws (lay t.ax o ch) t.n).cells=Zn at*;have hnn:(t.n:Int)≤1000000000:=aa;have KV:(ch.length:Int)≤64:=aa;have hLm:ch.length≤L:=(by rw[←hlen,←FQ,List.length_take];omega);by_cases J4:o+ch.length=64
   ·have pP:((o:Int)+(ch.length:Int)==64)=true:=(by simp;omega);have hq:=C1.out;rw[HO.out,if_pos J4]at hq;have HQ:Hid (s.dZ (l.take (k+ch.length))=⟨np t.ws (lay t.ax o ch),lay t.ax o ch,t.n+ch.length⟩):=hdd (by rw[HT.out ch.length (ar HL.out),ac6,hq]);clear hq FQ hcell;have qc:g<wr.heap.size:=Nat.lt_of_lt_of_le hg bU.size;have cC:=bU.trans UH ae;simp only[Int.natCast_add]at GS UH cC;have yY:g<(wr.setRow g Zn.toArray |>.setCell ⟨g,72,none⟩ (.int .u64 ((t.n:Int)+(ch.length:Int)))).heap.size:=Nat.lt_of_lt_of_le qc UH.size;have ac7:=hdd (fun(w':World) h h'=>UD t.ws (lay t.ax o ch) PC w' h h');generalize Uw:lay t.ax o ch=lb at*;by_cases tQ:ck=ch.length
    ·go_wp2_with (refine wpList_copy_own rfl (.tmp 21) (.tmp 22) 22 22 rfl 5 underlying22 J3 g (8+o) (64-o) (64-o) ⟨bb,off,none⟩ L ck rfl rfl t.cells.toArray 253 bx (ch.map B8) AX fT bt (la ch) ?_;rw[GR.out];generalize wr.setRow g Zn.toArray=w1 at*)
     generalize w1.setCell ⟨g,72,none⟩ (.int .u64 ((t.n:Int)+(ch.length:Int)))=w2 at*;have Zo:cN w2.drew g ⟨t.ws,lb,t.n+ch.length⟩:=⟨GS.at_,GS.len⟩
     have wP:w2.drew.rangeAt g 8 (lb.map B8):=GS.tl;have hKL:2<w2.drew.heap.size:=(by show 2<w2.heap.size;omega);have hKK: ∀i,i<64→w2.drew.cell? ⟨2,i,none⟩=some (ay (Kc i)):=fun i hi=>(by have e:w2.drew.cell? ⟨2,i,none⟩=w.cell? ⟨2,i,none⟩:=(by show World.cell? w2 _=_;unfold World.cell?;rw[cC.block 2 aa av]);rw[e];exact HK.out i hi);refine wp_region_held_drew (S:=fun w'=>w'.rangeAt g 8 (lb.map B8)) ak wP (fun hS=> ?_);refine af 0 hS (h:=af 1 hS (h:=af 2 hS (h:=af 3 hS (h:=af 5 hS (h:=af 6 hS (h:=af 7 hS (h:= ?_)))))));refine wpAnyH_take (i:=8) (v:= .agg (lb.map B8).toArray) rfl ak ak ak (fun _ _ _ h=>h) (yieldsIf_load_mid (by rfl) 251 (.tmp 47) rfl g 8 rfl (lb.map B8) _ (fun w h=>h) underlying251 rfl (by rw[GL,List.length_map,PC])) hS ?_;refine dR ?_;refine aG 4 (fun K hK=> ?_);refine wp_load_mid 250 (.tmp 43) rfl g 0 rfl t.ws.agg.toList _ GS.BA underlying250 rfl p9 ?_;refine dR ?_;refine hK.out _ _ hS (fun _=> ?_);clear hK K;refine aG 9 (fun K hK=> ?_);go_simp;refine(ac7.out _ hKK hKL).mono ?_;rintro e w3 ⟨rfl,aW⟩;have FX:=Zo.BB aW yY;have Zp:=FX.tl;go_wp2_with fail;refine hK.out _ _ Zp (fun _=> ?_);clear hK K;refine af 10 Zp (h:=af 11 Zp (h:= ?_));refine aG 12 (fun K hK=> ?_);refine wp_store_mid 250 (.tmp 51) (.tmp 49) rfl g 0 (np t.ws lb).agg rfl rfl FX.Pz p9 (wK _) ?_;simp only[Act.put];refine hK.out _ _ (FX.words _).tl (fun _=> ?_);clear hK K;refine wpAnyH_done ak ?_ _;have js:az [g] wr (w3.setCells g 0 (np t.ws lb).agg.toList):=lg g ae _ _ _ ((UH.trans (qh (show Below w2.heap.size w2 w3 from(mW aW))) ae));have PD:=FX.words (np t.ws lb);go_wp2_with fail;go_roundw;case rel=>
      refine⟨k+ch.length,some ⟨bb,off,none⟩,ar HL.out,?_,?_,?_,?_,?_⟩;·have:=HL.out;have:=Uu.out;rw[show l.length-(k+ch.length)=L-ch.length by omega,show c-(k+ch.length)=ck-ch.length by omega,show ck-ch.length=0 by omega]
      ·rw[List.drop_eq_nil_of_le (by have:=HL.out;have:=Uu.out;omega)];exact .nil
      ·intro _ a e;injection e with e;subst e;exact hbg
      ·rw[HQ.out];exact PD
      ·exact bU.trans js ae
     case measure=>simp[lenOf];omega
    ·go_wp2_with (refine wpList_copy_own rfl (.tmp 21) (.tmp 22) 22 22 rfl 5 underlying22 J3 g (8+o) (64-o) (64-o) ⟨bb,off,none⟩ L ck rfl rfl t.cells.toArray 253 bx (ch.map B8) AX fT bt (la ch) ?_;rw[GR.out];generalize wr.setRow g Zn.toArray=w1 at*)
     generalize w1.setCell ⟨g,72,none⟩ (.int .u64 ((t.n:Int)+(ch.length:Int)))=w2 at*;have Zo:cN w2.drew g ⟨t.ws,lb,t.n+ch.length⟩:=⟨GS.at_,GS.len⟩
     have wP:w2.drew.rangeAt g 8 (lb.map B8):=GS.tl;have hKL:2<w2.drew.heap.size:=(by show 2<w2.heap.size;omega);have hKK: ∀i,i<64→w2.drew.cell? ⟨2,i,none⟩=some (ay (Kc i)):=fun i hi=>(by have e:w2.drew.cell? ⟨2,i,none⟩=w.cell? ⟨2,i,none⟩:=(by show World.cell? w2 _=_;unfold World.cell?;rw[cC.block 2 aa av]);rw[e];exact HK.out i hi);refine wp_region_held_drew (S:=fun w'=>w'.rangeAt g 8 (lb.map B8)) ak wP (fun hS=> ?_);refine af 0 hS (h:=af 1 hS (h:=af 2 hS (h:=af 3 hS (h:=af 5 hS (h:=af 6 hS (h:=af 7 hS (h:= ?_)))))));refine wpAnyH_take (i:=8) (v:= .agg (lb.map B8).toArray) rfl ak ak ak (fun _ _ _ h=>h) (yieldsIf_load_mid (by rfl) 251 (.tmp 47) rfl g 8 rfl (lb.map B8) _ (fun w h=>h) underlying251 rfl (by rw[GL,List.length_map,PC])) hS ?_;refine dR ?_;refine aG 4 (fun K hK=> ?_);refine wp_load_mid 250 (.tmp 43) rfl g 0 rfl t.ws.agg.toList _ GS.BA underlying250 rfl p9 ?_;refine dR ?_;refine hK.out _ _ hS (fun _=> ?_);clear hK K;refine aG 9 (fun K hK=> ?_);go_simp;refine(ac7.out _ hKK hKL).mono ?_;rintro e w3 ⟨rfl,aW⟩;have FX:=Zo.BB aW yY;have Zp:=FX.tl;go_wp2_with fail;refine hK.out _ _ Zp (fun _=> ?_);clear hK K;refine af 10 Zp (h:=af 11 Zp (h:= ?_));refine aG 12 (fun K hK=> ?_);refine wp_store_mid 250 (.tmp 51) (.tmp 49) rfl g 0 (np t.ws lb).agg rfl rfl FX.Pz p9 (wK _) ?_;simp only[Act.put];refine hK.out _ _ (FX.words _).tl (fun _=> ?_);clear hK K;refine wpAnyH_done ak ?_ _;have js:az [g] wr (w3.setCells g 0 (np t.ws lb).agg.toList):=lg g ae _ _ _ ((UH.trans (qh (show Below w2.heap.size w2 w3 from(mW aW))) ae));have PD:=FX.words (np t.ws lb);go_wp2_with fail;go_roundw;case rel=>
      refine⟨k+ch.length,some ⟨bb,off+ch.length,none⟩,ar HL.out,?_,?_,?_,?_,?_⟩;·have:=HL.out;have:=Uu.out;rw[show l.length-(k+ch.length)=L-ch.length by omega,show c-(k+ch.length)=ck-ch.length by omega]
      ·rw[←List.drop_drop,HD.out];have h:=(UG.only js (fun a e=>by injection e with e;subst e;simpa using hbg)).cutFrom (k:=ch.length) aa (show D.length≤ck by have:=HL.out;have:=Uu.out;omega);rw[if_neg tQ]at h;simpa only[Option.map_some,Addr.add_mid]using h
      ·intro _ a e;injection e with e;subst e;exact hbg
      ·rw[HQ.out];exact PD
      ·exact bU.trans js ae
     case measure=>simp[lenOf];omega
   ·have pP:((o:Int)+(ch.length:Int)==64)=false:=(by simp;omega);have hq:=C1.out;rw[HO.out,if_neg J4]at hq;have HQ:Hid (s.dZ (l.take (k+ch.length))=⟨t.ws,lay t.ax o ch,t.n+ch.length⟩):=hdd (by rw[HT.out ch.length (ar HL.out),ac6,hq]);have Xq:=(UG.aI UH.size (fun p hp aF=>by
     have yU:bb=p.block:=(by simpa using hp);show World.cell? _ _=_;unfold World.cell?;rw[UH.block p.block aF av])).cutFrom (k:=ch.length) aa (show D.length≤ck by have:=HL.out;have:=Uu.out;omega)
    clear hq FQ UG hcell;by_cases tQ:ck=ch.length
    ·rw[if_pos tQ]at Xq;go_wp2_with (refine wpList_copy_own rfl (.tmp 21) (.tmp 22) 22 22 rfl 5 underlying22 J3 g (8+o) (64-o) (64-o) ⟨bb,off,none⟩ L ck rfl rfl t.cells.toArray 253 bx (ch.map B8) AX fT bt (la ch) ?_;rw[GR.out];generalize wr.setRow g Zn.toArray=w1 at*)
     go_roundw;case rel=>
      refine⟨k+ch.length,some ⟨bb,off,none⟩,ar HL.out,?_,?_,?_,?_,?_⟩;·have:=HL.out;have:=Uu.out;rw[show l.length-(k+ch.length)=L-ch.length by omega,show c-(k+ch.length)=ck-ch.length by omega,show ck-ch.length=0 by omega]
      ·rw[←List.drop_drop,HD.out];exact Xq
      ·intro _ a e;injection e with e;subst e;exact hbg
      ·rw[HQ.out];exact GS
      ·exact bU.trans UH ae
     case measure=>simp[lenOf];omega
    ·rw[if_neg tQ]at Xq;simp only[Option.map_some,Addr.add_mid]at Xq;go_wp2_with (refine wpList_copy_own rfl (.tmp 21) (.tmp 22) 22 22 rfl 5 underlying22 J3 g (8+o) (64-o) (64-o) ⟨bb,off,none⟩ L ck rfl rfl t.cells.toArray 253 bx (ch.map B8) AX fT bt (la ch) ?_;rw[GR.out];generalize wr.setRow g Zn.toArray=w1 at*)
     go_roundw;case rel=>
      refine⟨k+ch.length,some ⟨bb,off+ch.length,none⟩,ar HL.out,?_,?_,?_,?_,?_⟩;·have:=HL.out;have:=Uu.out;rw[show l.length-(k+ch.length)=L-ch.length by omega,show c-(k+ch.length)=ck-ch.length by omega]
      ·rw[←List.drop_drop,HD.out];exact Xq
      ·intro _ a e;injection e with e;subst e;exact hbg
      ·rw[HQ.out];exact GS
      ·exact bU.trans UH ae
     case measure=>simp[lenOf];omega
  ·obtain rfl:k=l.length:=(by omega);have bJ:s.dZ (l.take l.length)=s.dZ l:=(by rw[List.take_length]);rw[bJ]at hHk;go_wp2_with fail;go_end0;exact⟨rfl,hHk,bU⟩
def zN(x:BitVec 32):List UInt8:=[UInt8.ofNat (x.toNat/16777216%256),UInt8.ofNat (x.toNat/65536%256),UInt8.ofNat (x.toNat/256%256),UInt8.ofNat (x.toNat%256)]
theorem qi(n:Nat):((UInt8.ofNat (n%256)).toNat:Nat)=n%256:=by have:n%256<256:=aa;simp[Nat.mod_eq_of_lt this]
def uG(L:List Value)(o:Nat)(vs:List Value):List Value:=L.take o++(vs++L.drop (o+vs.length))
theorem UJ(R t:List Value)(a x:Value)(o:Nat)(h:R.length=o):(R++a::t).set o x=R++x::t:=by subst h;simp
theorem ai7(L:List Value)(o:Nat)(a b c d:Value)(h:o+4≤L.length):((((L.set o a).set (o+1) b).set (o+2) c).set (o+3) d)=uG L o [a,b,c,d]:=by
 have hl:(L.drop o).length=L.length-o:=List.length_drop ..;obtain⟨x0,x1,x2,x3,t,e⟩: ∃x0 x1 x2 x3 t,L.drop o=x0::x1::x2::x3::t:=by
  match hd:L.drop o with
  | x0::x1::x2::x3::t=>exact⟨x0,x1,x2,x3,t,rfl⟩
  | []=>rw[hd]at hl;simp at hl;omega
  | [_]=>rw[hd]at hl;simp at hl;omega
  | [_,_]=>rw[hd]at hl;simp at hl;omega
  | [_,_,_]=>rw[hd]at hl;simp at hl;omega
 have hL:L=L.take o++x0::x1::x2::x3::t:=by rw[←e,List.take_append_drop]
 have ht:(L.take o).length=o:=qa;have bE:L.drop (o+4)=t:=by rw[←List.drop_drop,e];rfl
 unfold uG;rw[show o+[a,b,c,d].length=o+4 from rfl,bE];generalize L.take o=R at*;subst hL;subst ht;simp
theorem DY(L vs:List Value)(o:Nat)(h:o+vs.length≤L.length):(uG L o vs).length=L.length:=by unfold uG;simp;omega
theorem nM(g off n c:Nat)(x:BitVec 32)(L:List Value)(t:TypeId)(w:World)(hg:w.heap[g]? =some (.cells L.toArray t (0,0)))(h4:off+4≤L.length)(hn:4≤n):
  Calls prog 170 #[.slice (some ⟨g,off,none⟩) n c,.int .u32 x.toNat] w fun e w'=>e= .returned (.tuple #[])∧w'.heap[g]? =some (.cells (uG L off ((zN x).map B8)).toArray t (0,0))∧az [g] w w':=by
 have hx:=x.isLt;have hc: ∀j,j<L.length→ ∃v,w.cell? ⟨g,j,none⟩=some v:=fun j hj=>⟨_,by rw[cell_of_row _ _ _ _ _ _ hg,List.getElem?_toArray,List.getElem?_eq_getElem hj]⟩
 have hf: ∀j,w.frozen? ⟨g,j,none⟩=false:=fun j=>by simp[World.frozen?,hg]
 obtain⟨y0,h0⟩:=hc off aa;obtain⟨y1,h1⟩:=hc (off+1) aa;obtain⟨y2,h2⟩:=hc (off+2) aa;obtain⟨y3,h3⟩:=hc (off+3) aa;have f0:=hf off;have f1:=hf (off+1);have f2:=hf (off+2);have f3:=hf (off+3);have hbe:zN x=[UInt8.ofNat (x.toNat/16777216%256),UInt8.ofNat (x.toNat/65536%256),UInt8.ofNat (x.toNat/256%256),UInt8.ofNat (x.toNat%256)]:=rfl;have e0:(x.toNat:Int)/16777216%256=((UInt8.ofNat (x.toNat/16777216%256)).toNat:Int):=by rw[qi (x.toNat/16777216)];omega
 have Zq:(x.toNat:Int)/16777216=((UInt8.ofNat (x.toNat/16777216%256)).toNat:Int):=by rw[qi (x.toNat/16777216)];omega
 have e1:(x.toNat:Int)/65536%256=((UInt8.ofNat (x.toNat/65536%256)).toNat:Int):=by rw[qi (x.toNat/65536)];omega
 have e2:(x.toNat:Int)/256%256=((UInt8.ofNat (x.toNat/256%256)).toNat:Int):=by rw[qi (x.toNat/256)];omega
 have e3:(x.toNat:Int)%256=((UInt8.ofNat (x.toNat%256)).toNat:Int):=by rw[qi x.toNat];omega
 generalize UInt8.ofNat (x.toNat/16777216%256)=b0 at*;generalize UInt8.ofNat (x.toNat/65536%256)=b1 at*;generalize UInt8.ofNat (x.toNat/256%256)=b2 at*;generalize UInt8.ofNat (x.toNat%256)=b3 at*;have q0:=heap_set hg off (B8 b0);have q1:=heap_set q0 (off+1) (B8 b1);have q2:=heap_set q1 (off+2) (B8 b2);have q3:=heap_set q2 (off+3) (B8 b3);rw[ai7 L off _ _ _ _ h4]at q3;have HQ:=hdd q3
 have bU:az [g] w ((((w.setCell ⟨g,off,none⟩ (B8 b0)).setCell ⟨g,off+1,none⟩ (B8 b1)).setCell ⟨g,off+2,none⟩ (B8 b2)).setCell ⟨g,off+3,none⟩ (B8 b3)):=
  ((((az.refl [g] w).setCell ae _).setCell ae _).setCell ae _).setCell ae _
 rw[hbe];clear hbe hc hf hg q0 q1 q2 q3;go_enter func170,ntmps170;go_wp2_with fail;go_end0;exact⟨rfl,HQ.out,bU⟩
def dm(n:Nat):Nat:=(119-n%64)%64
def padding(n:Nat):List UInt8:=128::(List.replicate (dm n) 0++(zN (BitVec.ofNat 32 (8*n/4294967296))++zN (BitVec.ofNat 32 (8*n))))
theorem qj(n:Nat):dm n<64:=by unfold dm;omega
theorem gv(x:BitVec 32):(zN x).length=4:=rfl
theorem j8(n:Nat):(padding n).length=9+dm n:=by unfold padding;simp[gv];omega
theorem rH{base:Nat}{xs:List Value}(h:w.ownsRow base t 1 (.slice (some ⟨g,0,none⟩) n n) n xs):w.heap[g]? =some (.cells xs.toArray t (0,0)):=by
 obtain⟨hl,⟨h,_⟩ | ⟨g',cap,cur,e,_,hg,_,_,dJ,ht⟩⟩:=h;·cases h
 ·injection e with e1 _ e3;injection e1 with e1;injection e1 with e1;subst e1;subst e3;rw[Nat.mul_one]at hl dJ ht;have:cur.toList=xs:=by rw[←ht,List.take_of_length_le av]
  rw[hg,←this]
theorem PE(n:Nat):(madeCells (Value.int .u8 0).cells (n*1)).toList=List.replicate n (Value.int .u8 0):=by rw[Nat.mul_one,show(Value.int .u8 0).cells= #[Value.int .u8 0]from rfl,toList_madeCells_one]
theorem PG(z:Nat)(x y:BitVec 32):uG (uG ((List.replicate (1+z+8) (Value.int .u8 0)).set 0 (.int .u8 128)) (1+z) ((zN x).map B8)) (1+z+4) ((zN y).map B8)=(128::(List.replicate z 0++(zN x++zN y)):List UInt8).map B8:=by
 have e:(List.replicate (1+z+8) (Value.int .u8 0)).set 0 (.int .u8 128)=(.int .u8 128:Value)::(List.replicate z (.int .u8 0)++List.replicate 8 (.int .u8 0)):=by rw[show 1+z+8=(z+8)+1 by omega,List.replicate_succ,List.set_cons_zero,←List.replicate_append_replicate]
 rw[e];have h1:uG ((.int .u8 128:Value)::(List.replicate z (.int .u8 0)++List.replicate 8 (.int .u8 0))) (1+z) ((zN x).map B8)=(.int .u8 128:Value)::(List.replicate z (.int .u8 0)++((zN x).map B8++List.replicate 4 (.int .u8 0))):=by unfold uG;rw[List.length_map,gv,show 1+z=z+1 by omega,show z+1+4=(z+4)+1 by omega,List.take_succ_cons,List.drop_succ_cons,List.take_append_of_le_length ae,List.drop_append];simp[List.take_of_length_le]
 rw[h1];unfold uG;rw[List.length_map,gv,show 1+z+4=(z+4)+1 by omega,show z+4+1+4=(z+8)+1 by omega,List.take_succ_cons,List.drop_succ_cons,List.take_append,List.drop_append];simp[gv,List.drop_eq_nil_of_le,List.take_of_length_le]
theorem Lc(h:w.heap[g]? =some (.cells (List.replicate n (Value.int .u8 0)).toArray t (0,0)))(hn:0<n):w.cell? ⟨g,0,none⟩=some (.int .u8 0):=by rw[cell_of_row _ _ _ _ _ _ h,List.getElem?_toArray,List.getElem?_replicate,if_pos hn]
theorem tZ{C:Array Value}(h:w.heap[g]? =some (.cells C t (0,0)))(j:Nat):w.frozen? ⟨g,j,none⟩=false:=by simp[World.frozen?,h]
theorem gx{o:Obj}(h:w.heap[g]? =some o):g<w.heap.size:=by
 rcases Nat.lt_or_ge g w.heap.size with h' | h';·exact h'
 ·rw[Array.getElem?_eq_none h']at h;cases h
theorem UK(g:Nat)(s:St)(w:World)(hH:cN w g s)(hg:g<w.heap.size)(hK: ∀i,i<64→w.cell? ⟨2,i,none⟩=some (ay (Kc i)))(h1:2<g)(hn:s.n≤100000000):
  Calls prog 169 #[.pointer (some ⟨g,0,none⟩)] w fun e w'=>e= .returned (.tuple #[])∧cN w' g (s.dZ (padding s.n))∧az [g] w w':=by
 obtain⟨i,hi,nE,gU,qR⟩:=info_parts pE;have ac5:=(hH.cellAt 72).trans (s.GO hH.len);have hz:(119-(s.n:Int)%64)%64=((dm s.n:Nat):Int):=by unfold dm;omega
 have Uv:=qj s.n;have rI:=j8 s.n;have BE:Hid (padding s.n=128::(List.replicate (dm s.n) 0++(zN (BitVec.ofNat 32 (8*s.n/4294967296))++zN (BitVec.ofNat 32 (8*s.n))))):=hdd rfl;have vl:((BitVec.ofNat 32 (8*s.n/4294967296)).toNat:Int)=(s.n:Int)*8/4294967296:=AY;have ly:((BitVec.ofNat 32 (8*s.n)).toNat:Int)=(s.n:Int)*8:=AY;generalize BitVec.ofNat 32 (8*s.n/4294967296)=x0 at*;generalize BitVec.ofNat 32 (8*s.n)=x1 at*;generalize dm s.n=z at*;have KS:=hdd vl;have YB:=hdd ly;have HK:=hdd hK;have HZ:=hdd hz;have hnn:(s.n:Int)≤100000000:=aa;have FY:(0:Int)≤(s.n:Int):=aa;have Ld:i.bytes*(1+z+8)≤281474976710656:=mc;have qS:1+z+8≤maxLen:=gD;clear vl ly hK hn;go_enter func169,ntmps169;go_wp2_with (refine wpList_make_full _ rfl _ _ 22 rfl w.heap.size 5 i (.int .u8 0) 1 underlying22 hi nE gU _ _ _ _ (1+z+8) rfl rfl aa aa Ld qS (Nat.le_refl _) ?_;intro w1 cE iY;rw[PE]at cE;have DZ:=rH cE;have c0:=Lc DZ aa;have f0:=tZ DZ 0)
 have aC:Below w.heap.size w w1:=am (Below.refl _ _) iY (Nat.le_refl _) ae;have hh2:=heap_set DZ 0 (.int .u8 128);have aE:=aC.setCell (p:=⟨w.heap.size,0,none⟩) (Nat.le_refl _) (.int .u8 128);have ro:w.heap.size<(w1.setCell ⟨w.heap.size,0,none⟩ (.int .u8 128)).heap.size:=gx hh2;clear DZ c0 f0 cE iY aC;generalize w1.setCell ⟨w.heap.size,0,none⟩ (.int .u8 128)=w2 at*;rw[←KS.out];refine(nM _ _ _ _ x0 _ _ w2 hh2 ae aa).mono ?_;rintro e w3 ⟨rfl,hh3,gW⟩;go_wp2_with fail;rw[←YB.out];refine(nM _ _ _ _ x1 _ _ w3 hh3 (by rw[DY _ _ _ (by simp[gv])];simp) aa).mono ?_;rintro e w4 ⟨rfl,hh4,cH⟩;rw[PG,←BE.out]at hh4;have aW:=aE.trans (gW.below aa ae);have bc:=aW.trans (cH.below aW.size ae);have PD:=hH.BB bc hg;have uH:Bytes w4 (some ⟨w.heap.size,0,none⟩) (padding s.n):=by refine .inr ⟨_,_,rfl,gx hh4,fun k hk=> ?_⟩;rw[cell_of_row _ _ _ _ _ _ hh4,Nat.zero_add,List.getElem?_toArray,List.getElem?_map,List.getElem?_eq_getElem hk];rfl
 have e9:1+z+8=(padding s.n).length:=aa;have HWR:=hdd (zM g s _ (padding s.n) (padding s.n).length w4 PD uH (fun _ a e=>by injection e with e;subst e;simp;omega) (Nat.lt_of_lt_of_le hg bc.size) (fun i hi=>(bc.cell (p:=⟨2,i,none⟩) (by show 2<w.heap.size;omega)).trans (HK.out i hi)) h1 (Nat.le_refl _) aa aa);have js:az [g] w w4:=⟨bc.os,bc.tape,bc.output,bc.size,fun i hi _=>bc.block i hi⟩
 have E9:=hdd e9;clear e9 hh3 hh4 gW cH aW hh2 aE ac5 rI BE uH PD;go_wp2_with fail;rw[E9.out];refine HWR.out.mono ?_;rintro e w5 ⟨rfl,hH5,iZ⟩;go_wp2_with fail;go_end0;exact⟨rfl,hH5,js.trans iZ ae⟩
def cV:R8:=⟨1779033703,3144134277,1013904242,2773480762,1359893119,2600822924,528734635,1541459225⟩
def St.new:St:=⟨cV,List.replicate 64 0,0⟩
def rJ:Array Value:=(List.replicate 8 (Value.int .u32 0)++(List.replicate 64 (Value.int .u8 0)++[Value.int .u64 0])).toArray
theorem Xr:(prog.info? 253).map (fun i=>(i.zero,i.size))=some (some (.agg rJ),73):=ak
theorem wQ:rJ.size=73:=by simp[rJ]
theorem Le:((((((((rJ.setIfInBounds 0 (ay cV.a)).setIfInBounds 1 (ay cV.b)).setIfInBounds 2 (ay cV.c)).setIfInBounds 3 (ay cV.d)).setIfInBounds 4 (ay cV.e)).setIfInBounds 5 (ay cV.f)).setIfInBounds 6 (ay cV.g)).setIfInBounds 7 (ay cV.h))=St.new.cells.toArray:=by simp[rJ,St.cells,St.new,B8,List.replicate]
theorem Lf(tt:TypeId)(fr:Nat×Nat)(w:World)(hf:w.heap[1]? =some (.cells cV.agg tt fr)):
  Calls prog 129 #[] w fun e w'=>e= .returned (.pointer (some ⟨w.heap.size,0,none⟩))∧cN w' w.heap.size St.new∧Below w.heap.size w w':=by
 have hz:=(zero_of_info Xr).1;have hzs:=wQ;have HNC:=hdd Le;generalize rJ=Z at*;go_enter func129,ntmps129;go_wp2_with (refine wpList_load_row rfl 250 _ rfl 1 rfl tt cV.agg _ _ hf underlying250 rfl p9 ?_)
 rw[HNC.out];go_ret;exact⟨rfl,⟨heap_alloc_last _ _,by simp[St.new]⟩,bF _ _⟩
def ft(r:R8):Nat→List UInt8
 | 0=>[]
 | k+1=>ft r k++zN (r.get k)
theorem im(r:R8)(k:Nat):(ft r k).length=4*k:=by
 induction k with
 | zero=>rfl
 | succ k ih=>simp only[ft,List.length_append,ih,gv];omega
def St.eW(s:St):List UInt8:=ft (s.dZ (padding s.n)).ws 8
theorem lh(s:St):s.eW.length=32:=im _ 8
def aV:Array Value:=(List.replicate 32 (Value.int .u8 0)).toArray
theorem wR:(prog.info? 124).map (fun i=>(i.zero,i.size))=some (some (.agg aV),32):=ak
theorem oU:(prog.info? 124).map (·.size)=some 32:=ak
theorem PH:(prog.info? 253).map (·.size)=some 73:=ak
theorem ac8(g o:Nat)(h:o<32)(w:World):(Instr.sliceAt 124 (.pointer (some ⟨g,0,none⟩)) (some (.int .i64 (o:Nat))) none none).run prog w= .ok (.slice (some ⟨g,o,none⟩) (32-o) (32-o)) w:=by have ha:prog.arrayLen 124=32:=ak;have hu:prog.underlying 124=some (.array (prog.arrayLen 124) (prog.elem 124)):=ak;have hs:(sizeOf (prog.elem 124)).run prog w= .ok 1 w:=ak;rw[run_sliceAt_array_l w 124 ⟨g,0,none⟩ hu .i64 (o:Nat) aa (by rw[ha];omega),hs,ha];simp only[Result.andThen,slicedAt,Int.toNat_natCast,Nat.mul_one];rw[if_neg aa,Addr.add_mid,Nat.zero_add]
theorem PI(r:R8)(k:Nat)(hk:k<8):uG ((ft r k).map B8++List.replicate (32-4*k) (Value.int .u8 0)) (4*k) ((zN (r.get k)).map B8)=(ft r (k+1)).map B8++List.replicate (32-4*(k+1)) (Value.int .u8 0):=by
 have hl:=im r k;obtain⟨m,hm⟩: ∃m,32-4*k=4+m:=⟨28-4*k,aa⟩
 unfold uG;rw[List.length_map,gv,List.take_append_of_le_length (by simp[hl]),List.take_of_length_le (by simp[hl]),List.drop_append,hm];simp only[ft,List.map_append,List.append_assoc,List.length_map,hl];rw[List.drop_eq_nil_of_le (by simp[hl]),show 4*k+4-4*k=4 by omega,show 32-4*(k+1)=m by omega];simp
theorem rK(g:Nat)(s:St)(w:World)(hH:cN w g s)(hg:g<w.heap.size)(hK: ∀i,i<64→w.cell? ⟨2,i,none⟩=some (ay (Kc i)))(h1:2<g)(hn:s.n≤100000000):
  Calls prog 131 #[.pointer (some ⟨g,0,none⟩)] w fun e w'=>e= .returned (.agg (s.eW.map B8).toArray)∧Below w.heap.size w w':=by
 have ac9:=(zero_of_info wR).1;have hzH:=(zero_of_info Xr).1;have pN:=bF w (.cells aV 124);have eA:(w.alloc (.cells aV 124)).heap.size=w.heap.size+1:=ae;have hcs:(w.alloc (.cells aV 124)).heap[g]? =some (.cells s.cells.toArray 253 (0,0)):=(pN.block g hg).trans hH.at_;have gF:=heap_alloc_last (w.alloc (.cells aV 124)) (.cells rJ 253);rw[eA]at gF;have FX:cN ((w.alloc (.cells aV 124)).alloc (.cells s.cells.toArray 253)) (w.heap.size+1) s:=by have h:=heap_alloc_last (w.alloc (.cells aV 124)) (.cells s.cells.toArray 253);rw[eA]at h;exact⟨h,hH.len⟩
 have yC:((w.alloc (.cells aV 124)).alloc (.cells s.cells.toArray 253)).heap[w.heap.size]? =some (.cells aV 124 (0,0)):=
  ((bF _ _).block _ (by rw[eA];omega)).trans (heap_alloc_last _ _)
 have aW:Below w.heap.size w ((w.alloc (.cells aV 124)).alloc (.cells s.cells.toArray 253)):=pN.trans ((bF _ _).mono pN.size);have PJ:((w.alloc (.cells aV 124)).alloc (.cells s.cells.toArray 253)).heap.size=w.heap.size+1+1:=ae;have rL:=World.setRow_alloc_new (w.alloc (.cells aV 124)) rJ s.cells.toArray 253;rw[eA]at rL;have wS:=hdd rL;have UL:=s.mw hH.len;have ku:s.cells.toArray.all (·.oneCell')=true:=all_oneCell_toArray s.one;have Zr:=hdd (fun(w':World) (h:cN w' (w.heap.size+1) s) h2 h3=>UK (w.heap.size+1) s w' h h2 h3 aa hn);have HK:=hdd hK;clear rL pN eA hK hn hH;go_enter func131,ntmps131;go_wp2_with (first | (refine wpList_load_row rfl 253 _ rfl g rfl 253 s.cells.toArray _ _ hcs underlying253 rfl (by rw[PH];simp[UL]) ?_) | (refine wpList_store_row rfl 253 _ _ rfl (w.heap.size+1) s.cells.toArray rfl rfl 253 rJ gF (by rw[PH];simp[UL]) (by rw[wQ];simp[UL]) ku ?_;rw[wS.out]))
 have hKW: ∀i,i<64→((w.alloc (.cells aV 124)).alloc (.cells s.cells.toArray 253)).cell? ⟨2,i,none⟩=some (ay (Kc i)):=fun i hi=>(aW.cell (p:=⟨2,i,none⟩) (by show 2<w.heap.size;omega)).trans (HK.out i hi);have HKW:=hdd hKW;have CM:=hdd PJ;have HN:Hid (s.dZ (padding s.n)=s.dZ (padding s.n)):=hdd rfl;generalize(w.alloc (.cells aV 124)).alloc (.cells s.cells.toArray 253)=w3 at*;clear PJ hcs gF wS hKW ku UL;refine(Zr.out w3 FX (ar CM.out) HKW.out).mono ?_;rintro e w4 ⟨rfl,PD,cH⟩;have Zs:w4.heap[w.heap.size]? =some (.cells aV 124 (0,0)):=(cH.block _ (ar CM.out) ae).trans yC;have bc:Below w.heap.size w w4:=aW.trans (cH.below aW.size ae);have yD:=gx PD.at_;have HD:Hid (s.eW=ft (s.dZ (padding s.n)).ws 8):=hdd rfl;generalize hP:s.dZ (padding s.n)=P at*;clear hP Zr HKW yC aW cH HN;have hR0:=PD.BA;have e0:(w4.alloc (.cells aV 124)).heap.size=w4.heap.size+1:=ae;have iy:(w4.alloc (.cells aV 124)).rangeAt (w.heap.size+1) 0 P.ws.agg.toList:=(PD.BB (bF _ _) yD).BA;have J5:(w4.alloc (.cells aV 124)).heap[w.heap.size]? =some (.cells aV 124 (0,0)):=((bF _ _).block _ aa).trans Zs;have UM:(w4.alloc (.cells aV 124)).heap[w4.heap.size]? =some (.cells aV 124 (0,0)):=heap_alloc_last _ _;have fj:Below w.heap.size w (w4.alloc (.cells aV 124)):=bc.trans ((bF _ _).mono bc.size);have iz:=hdd bc.size;clear e0 bc Zs hR0;go_wp2_with (refine wpList_load_mid rfl 250 _ rfl (w.heap.size+1) 0 rfl P.ws.agg.toList _ iy underlying250 rfl p9 ?_)
 generalize w4.alloc (.cells aV 124)=w5 at*;go_loopw [17] (fun v wr=> ∃k:Nat,k≤8∧v= .int .i64 k∧wr.heap[w4.heap.size]? =some (.cells ((ft P.ws k).map B8++List.replicate (32-4*k) (Value.int .u8 0)).toArray 124 (0,0))∧wr.heap[w.heap.size]? =some (.cells aV 124 (0,0))∧Below w.heap.size w wr) (fun v _=>(8-intOf v).toNat);case atStart=>exact⟨0,aa,rfl,by simpa [ft,aV]using UM,J5,fj⟩
 case round=>
  obtain⟨k,hk,rfl,hd,hr,hb⟩:=hrel;clear UM J5 fj iy PD FX;by_cases aF:k<8
  ·have GQ: ∀w,(Instr.index 250 (.agg P.ws.agg) (.int .i64 (k:Nat))).run prog w= .ok (ay (P.ws.get k)) w:=fun w=>ew P.ws k aF w;have hlen:((ft P.ws k).map B8++List.replicate (32-4*k) (Value.int .u8 0)).length=32:=(by simp[im];omega);have hcut: ∀w,(Instr.sliceAt 124 (.pointer (some ⟨w4.heap.size,0,none⟩)) (some (.int .i64 (4*(k:Int)))) none none).run prog w= .ok (.slice (some ⟨w4.heap.size,4*k,none⟩) (32-4*k) (32-4*k)) w:=fun w=>ac8 w4.heap.size (4*k) aa w;have jb:=hdd (PI P.ws k aF);have C4:=hdd (fun wx hx=>nM w4.heap.size (4*k) (32-4*k) (32-4*k) (P.ws.get k) _ 124 wx hx (by rw[hlen];omega) aa);clear hlen;go_wp2_with fail;refine(C4.out wr hd).mono ?_;rintro e w6 ⟨rfl,hd6,mV⟩;rw[jb.out]at hd6;have zO:=(mV.block _ (gx hr) (by have:=iz.out;simp;omega)).trans hr;have oV:=hb.trans (mV.below hb.size (by simp;exact iz.out));clear C4 hd mV;go_wp2_with fail;go_roundw;case rel=>exact⟨k+1,aa,aq,hd6,zO,oV⟩
   case measure=>simp[intOf];omega
  ·obtain rfl:k=8:=(by omega);have hD8:((ft P.ws 8).map B8++List.replicate (32-4*8) (Value.int .u8 0))=(ft P.ws 8).map B8:=ae;rw[hD8]at hd;have J6:((ft P.ws 8).map B8).length=32:=(by rw[List.length_map,im]);have ku:((ft P.ws 8).map B8).toArray.all (·.oneCell')=true:=all_oneCell_toArray (la _);have hDD:s.eW.map B8=(ft P.ws 8).map B8:=(by rw[HD.out]);have N6:=hdd hDD;clear hDD;generalize(ft P.ws 8).map B8=D8 at*;clear hD8;go_wp2_with (first | (refine wpList_load_row rfl 124 _ rfl w4.heap.size rfl 124 D8.toArray _ _ hd underlying124 rfl ?c1 ?_) | (refine wpList_store_row rfl 124 _ _ rfl w.heap.size D8.toArray rfl rfl 124 aV hr ?c2 ?c3 ?c4 ?_))
   case c1=>rw[oU];simp[J6]
   case c2=>rw[oU];simp[J6]
   case c3=>simp[J6,aV]
   case c4=>exact ku
   refine bodyPost_ret (results_cell_row rfl _ _ w.heap.size 124 D8.toArray _ _ rfl (setRow_heap _ _ _ _ _ _ hr) underlying124 rfl (by rw[oU];simp[J6])) rfl ?_;exact⟨by rw[N6.out],below_setRow hb aa _⟩
theorem Bytes.ax{A:Option Addr}{l:List UInt8}(h:Bytes w A l)(hl:0<l.length)(a:Addr)(e:A=some a):a.block<w.heap.size:=by obtain⟨b,off,rfl,hb,_⟩:=h.addr hl;injection e with e;subst e;exact hb
structure nN(w:World):Prop where
 first: ∃tt fr,w.heap[1]? =some (.cells cV.agg tt fr)
 round: ∀i,i<64→w.cell? ⟨2,i,none⟩=some (ay (Kc i))
 two:2<w.heap.size
theorem nN.only(h:nN w)(ho:az X w w')(hX: ∀i∈X,2<i):nN w':=by
 refine⟨?_,fun i hi=> ?_,Nat.lt_of_lt_of_le h.two ho.size⟩;·obtain⟨tt,fr,hf⟩:=h.first;exact⟨tt,fr,(ho.block 1 (ar h.two) (fun hm=>ar (hX 1 hm))).trans hf⟩
 ·rw[←h.round i hi];unfold World.cell?;rw[ho.block 2 h.two (fun hm=>ar (hX 2 hm))]
theorem nN.below(h:nN w)(hb:Below w.heap.size w w'):nN w':=h.only (qh hb) ae
theorem Lg(A:Option Addr)(l:List UInt8)(c:Nat)(w:World)(hT:nN w)(hB:Bytes w A l)(hc:l.length≤c)(hm:c≤9223372036854775807)(hn:l.length≤100000000):
  Calls prog 88 #[.slice A l.length c] w fun e w'=>e= .returned (.agg ((St.new.dZ l).eW.map B8).toArray)∧Below w.heap.size w w':=by
 obtain⟨tt,fr,hf⟩:=hT.first;have ac9:=(zero_of_info wR).1;have HT:=hdd hT;have pN:=bF w (.cells aV 124);have eA:(w.alloc (.cells aV 124)).heap.size=w.heap.size+1:=ae;have jZ:(w.alloc (.cells aV 124)).heap[w.heap.size]? =some (.cells aV 124 (0,0)):=heap_alloc_last _ _;have h2:=hT.two;have KT:(w.alloc (.cells aV 124)).heap[1]? =some (.cells cV.agg tt fr):=(pN.block 1 aa).trans hf;have iH:=hB.below pN;have ada:=hB.ax;have FZ:=hdd jZ;have HF1:=hdd KT;have C5:=hdd pN;have UN:=hdd eA;clear hT pN eA jZ KT hf hB;have KR:Hid (nN (w.alloc (.cells aV 124))):=hdd (HT.out.below C5.out);go_enter func88,ntmps88;go_wp2_with fail;generalize w.alloc (.cells aV 124)=w1 at*;refine(Lf tt fr w1 HF1.out).mono ?_;rintro e w2 ⟨rfl,GS,aE⟩;have rx:=KR.out.below aE;have oP:w2.heap[w.heap.size]? =some (.cells aV 124 (0,0)):=(aE.block _ (by rw[UN.out];omega)).trans FZ.out;have fg:Below w.heap.size w w2:=C5.out.trans (aE.mono (by rw[UN.out];omega));have aF:=gx GS.at_;have gX:=iH.below aE;have HWR:=hdd (zM w1.heap.size St.new A l c w2 GS gX (fun h a e=>by have:=ada h a e;have:=UN.out;omega) aF rx.round (ar UN.out) hc hm (by show 0+l.length≤_;omega));have Tu:Hid (w.heap.size<w2.heap.size):=hdd (ar UN.out);have pK:=hdd oP;have kZ:=hdd rx;have yI:=hdd aF;clear GS aE oP gX iH ada rx aF;go_wp2_with fail;refine HWR.out.mono ?_;rintro e w3 ⟨rfl,FX,gW⟩;have hT3:=kZ.out.only gW (by simp;have:=UN.out;omega);have yC:=(gW.block _ Tu.out (by simp;have:=UN.out;omega)).trans pK.out;have aW:Below w.heap.size w w3:=fg.trans (gW.below (Nat.le_of_lt Tu.out) (by simp;have:=UN.out;omega));have PJ:=gW.size;have HS:=hdd (rK w1.heap.size (St.new.dZ l) w3 FX (gx FX.at_) hT3.round (ar UN.out) (by rw[St.Bz];show 0+l.length≤_;omega));have Lh:=hdd yC;have HL3:Hid (w.heap.size<w3.heap.size):=hdd (ar Tu.out);clear FX gW yC fg;go_wp2_with fail;refine HS.out.mono ?_;rintro e w4 ⟨rfl,bc⟩;have Zs:=(bc.block _ HL3.out).trans Lh.out;have J6:((St.new.dZ l).eW.map B8).length=32:=by rw[List.length_map,lh]
 have ku:((St.new.dZ l).eW.map B8).toArray.all (·.oneCell')=true:=all_oneCell_toArray (la _);have fj:Below w.heap.size w w4:=aW.trans (bc.mono (Nat.le_of_lt HL3.out));generalize hD:(St.new.dZ l).eW.map B8=D8 at*;have HD:=hdd hD;clear hD aW bc PJ;go_wp2_with (refine wpList_store_row rfl 124 _ _ rfl w.heap.size D8.toArray rfl rfl 124 aV Zs ?c2 ?c3 ?c4 ?_)
 case c2=>rw[oU];simp[J6]
 case c3=>simp[J6,aV]
 case c4=>exact ku
 refine bodyPost_ret (results_cell_row rfl _ _ w.heap.size 124 D8.toArray _ _ rfl (setRow_heap _ _ _ _ _ _ Zs) underlying124 rfl (by rw[oU];simp[J6])) rfl ?_;exact⟨by rw[HD.out],below_setRow fj aa _⟩
section
open Go.ChangeShapes Go.WideShapes Go.ChangeAt Go.RowKit
theorem pQ{H:Type}{enc:TypeId×Value→H}{W:World}{base:Nat}{sp:Nat→Bool}{held:Bool}{fuel:Nat}{t e:TypeId}{cs:List Value}{k:IntKind}{n:Nat}{ls:List Int}{ps:List MemPlace}
  (ht:prog.underlying t=some (.array n e)) (he:prog.underlying e=some (.int k)) (ce:prog.cellsOf e=1) (ct:prog.cellsOf t=n)
  (h:DataW.trod enc prog W base sp held fuel t cs=some (.agg (ls.map fun x=> .lit (.int k x)),ps)):cs=ls.map fun x=> .int k x:=by
 obtain⟨xs,m,rfl,hx,hlen,hn,hel⟩:=DataW.trod_array ht h;rw[ct]at hlen;simp only[Prod.mk.injEq,DataW.agg.injEq]at hx;have sN:ls.length=n:=by have:=congrArg List.length hx.1;simpa [hn]using this
 refine List.ext_getElem (by simp[hlen,sN]) fun i h1 h2=> ?_;have hi:=hel i aa;rw[ce,Nat.mul_one,List.getElem?_eq_getElem aa]at hi;obtain⟨z,e1,e2,_⟩:=DataW.trod_int he hi;have h3:xs[i].1= .lit (.int k ls[i]):=by have:=congrArg (fun l:List (DataW H)=>l[i]?) hx.1;simp only[List.getElem?_map]at this;rw[List.getElem?_eq_getElem (show i<ls.length by omega),List.getElem?_eq_getElem (show i<xs.length by omega)]at this;simpa using this.symm
 rw[e2]at h3;have hz:z=ls[i]:=by simpa using h3
 have h4:(cs.drop i).take 1=[cs[i]]:=by rw[List.drop_eq_getElem_cons h1];rfl
 rw[h4]at e1;rw[List.getElem_map,←hz];simpa using e1
theorem Zt:prog.globalNamed "winepress/sha256.firstWords" =some 1:=ak
theorem Zu:prog.globalNamed "winepress/sha256.roundWords" =some 2:=ak
theorem Zv:(prog.globals[1]?).map (·.type)=some 250:=ak
theorem Zw:(prog.globals[2]?).map (·.type)=some 277:=ak
abbrev D0:List (String×DataW Unit):=[("winepress/sha256.firstWords",Rows.laid_winepress_sha256_firstWords),("winepress/sha256.roundWords",Rows.laid_winepress_sha256_roundWords)]
def PK:List Int:=[1779033703,3144134277,1013904242,2773480762,1359893119,2600822924,528734635,1541459225]
theorem lens:cV.agg.toList=PK.map fun x=> .int .u32 x:=by rfl
theorem adc:Rows.laid_winepress_sha256_firstWords (H:=Unit)= .agg (PK.map fun x=> .lit (.int .u32 x)):=by rfl
def GT:List Int:=wI.map fun x=>(x.toNat:Int)
theorem ade:Rows.laid_winepress_sha256_roundWords (H:=Unit)= .agg (GT.map fun x=> .lit (.int .u32 x)):=by rfl
theorem BF{W:World}(h:laidMet prog D0 W):nN W:=by
 obtain⟨ps,⟨g0,t0,cs0,f0,p0,q0,uI,ht0,uJ,hd0,⟨g1,t1,Zn,f1,p1,q1,iY,ht1,PM,ky,_,_⟩,_⟩,_,_⟩:=h;obtain rfl:=Option.some.inj (Zt.symm.trans uI);obtain rfl:=Option.some.inj (Zu.symm.trans iY);obtain rfl:=Option.some.inj (Zv.symm.trans ht0);obtain rfl:=Option.some.inj (Zw.symm.trans ht1);rw[adc]at hd0;rw[ade]at ky;have uB:=pQ (n:=8) ak underlying24 ak ak hd0;have fY:=pQ (n:=64) ak underlying24 ak ak ky;refine⟨?_,fun i hi=> ?_,?_⟩
 ·unfold World.var? at uJ;rw[uI]at uJ;simp only[Option.bind_some]at uJ;split at uJ;·rename_i cs t fr hh;refine⟨t,fr,?_⟩;rw[hh];injection uJ with uJ;subst uJ;rw[←lens]at uB;rw[show cs=cV.agg from Array.toList_inj.1 uB]
  ·cases uJ
 ·rw[World.var?_cell iY PM i];obtain⟨l⟩:=Zn;simp only at fY;subst fY;unfold GT;have hk:i<wI.length:=hi;simp only[List.getElem?_toArray,List.getElem?_map,List.getElem?_eq_getElem hk,Option.map_some];unfold Kc;rw[List.getD_eq_getElem?_getD,List.getElem?_eq_getElem hk];rfl
 ·unfold World.var? at PM;rw[iY]at PM;simp only[Option.bind_some]at PM;split at PM;·rename_i hh;exact gx hh
  ·cases PM
noncomputable def zP(os:Os):World:=
 let w0:=World.holding prog os ⟨#[],#[],[]⟩
 let lay (l:List Int):Obj→Obj
  | .cells _ t frozen=> .cells (l.map fun x=> .int .u32 x).toArray t frozen
  | o=>o
 {w0 with heap:=(w0.heap.modify 1 (lay PK)).modify 2 (lay GT)}
theorem yZ(os:Os)(args:Array Value):laidMet prog D0 ((zP os).forCall (fun _ _=>0) ⟨#[],args,[]⟩).memory:=
 laidMet_of_run' 8 ak ak
end
def bS(w:World)(L:List UInt8)(e:Ending)(w':World):Prop:= ∃A c,e= .returned (.slice A L.length c)∧L.length≤c∧c≤9223372036854775807∧Bytes w' A L∧Below w.heap.size w w'
def Oi(i:Nat):Nat:=if i<8 then 256^(7-i)else 0
theorem V2(i:Nat)(h:i<8):Oi i/256=Oi (i+1):=by
 match i,h with
 | 0,_ | 1,_ | 2,_ | 3,_ | 4,_ | 5,_ | 6,_ | 7,_=>rfl
theorem V3(i:Nat)(h:i<8):0<Oi i∧Oi i≤72057594037927936:=by
 match i,h with
 | 0,_ | 1,_ | 2,_ | 3,_ | 4,_ | 5,_ | 6,_ | 7,_=>decide
def Oj(M:Nat):List UInt8:=(List.range 8).map fun i=>UInt8.ofNat (M/Oi i%256)
theorem RW(M i:Nat)(h:i<8):(Oj M).take (i+1)=(Oj M).take i++[UInt8.ofNat (M/Oi i%256)]:=by rw[List.take_succ_eq_append_getElem (by simpa [Oj]using h)];simp[Oj]
theorem z_(M:Nat):Oj M=zN (BitVec.ofNat 32 (M/4294967296))++zN (BitVec.ofNat 32 M):=by
 have key: ∀a b:Nat,a%256=b%256→UInt8.ofNat a=UInt8.ofNat b:=fun a b h=>by apply UInt8.toNat_inj.1;simp[UInt8.toNat_ofNat'];exact h
 have e:Oj M=[UInt8.ofNat (M/72057594037927936%256),UInt8.ofNat (M/281474976710656%256),UInt8.ofNat (M/1099511627776%256),UInt8.ofNat (M/4294967296%256),UInt8.ofNat (M/16777216%256),UInt8.ofNat (M/65536%256),UInt8.ofNat (M/256%256),UInt8.ofNat (M/1%256)]:=rfl;rw[e];unfold zN;simp only[BitVec.toNat_ofNat,List.cons_append,List.nil_append];simp only[List.cons.injEq,and_true];refine⟨key _ _ ?_,key _ _ ?_,key _ _ ?_,key _ _ ?_,key _ _ ?_,key _ _ ?_,key _ _ ?_,key _ _ ?_⟩<;>omega
theorem Is(n:Nat):padding n=128::(List.replicate (dm n) 0++Oj (8*n)):=by unfold padding;rw[z_]
def m9(l:List UInt8)(z:Nat):List UInt8:=l++[128]++List.replicate z 0
theorem sm(l:List UInt8)(z:Nat):(m9 l z).length=l.length+1+z:=by simp[m9];omega
theorem It(l:List UInt8)(z:Nat):m9 l (z+1)=m9 l z++[0]:=by simp[m9,List.replicate_succ']
theorem MI(l:List UInt8):m9 l (dm l.length)++(Oj (8*l.length)).take 8=l++padding l.length:=by rw[Is,List.take_of_length_le (by simp[Oj])];simp[m9]
theorem Iu(A:Option Addr)(l:List UInt8)(c:Nat)(w:World)(hB:Bytes w A l)(hn:l.length≤100000000):
  Calls prog 104 #[.slice A l.length c] w (bS w (l++padding l.length)):=by
 have HE:=hdd (MI l);have HZ:=hdd (qj l.length);have eH:=bF w (.cells #[] 5);have Fb:Own w.heap.size (w.alloc (.cells #[] 5)) (.slice (some ⟨w.heap.size,0,none⟩) 0 0) []:=Own.lit (base:=w.heap.size) w [] (Nat.le_refl _) ae;have Kr:=hB.below eH;have HN:=hdd hn;have Iv:([]:List UInt8).length+l.length≤140737488355328:=av;have sO:(l.length:Int)≤100000000:=aa;clear hn hB;go_enter func104,ntmps104
 go_wp2_with (first
  | (refine aj rfl _ _ rfl w.heap.size _ (.slice (some ⟨w.heap.size,0,none⟩) 0 0) [] rfl Fb A l c rfl Kr Iv eH.size ?_;intro v1 w1 cE iY;have aC:=am eH iY eH.size (fun g e=>(World.ownsRow.lt Fb g e).1);rw[List.nil_append]at cE;have bM:=cE.alloc (.cells #[.int .u8 128] 5);have gX:Bytes (w1.alloc (.cells #[.int .u8 128] 5)) (some ⟨w1.heap.size,0,none⟩) [128]:=Bytes.one w1 128;have aE:=aC.alloc aC.size (.cells #[.int .u8 128] 5);clear cE)
  | (refine aj rfl _ _ rfl w.heap.size _ v1 l rfl bM _ [128] 1 rfl gX (by have:=HN.out;simp;omega) aE.size ?_;intro v2 w2 bj l5;have aW:=am aE l5 aE.size (fun g e=>(World.ownsRow.lt bM g e).1)))
 go_loopw [3] (fun v wr=> ∃z:Nat,z≤dm l.length∧Own w.heap.size wr v (m9 l z)∧Below w.heap.size w wr) (fun v _=>dm l.length+l.length+1-(match v with | .slice _ n _=>n | _=>0));case atStart=>exact⟨0,aa,by simpa [m9]using bj,aW⟩
 case round=>
  obtain⟨z,hz,aD,hb⟩:=hrel;clear bj l5 aW gX bM aE iY aC Fb eH Kr;obtain⟨Az,cz,rfl,hcz,hmz,hBz⟩:=aD.read;have hlen:=sm l z;rw[hlen]at hcz aD ⊢;have ZK:(z:Int)≤(dm l.length:Int):=aa;have hNN:=HN.out;have nL:((l.length+1+z:Nat):Int)%64=56↔z=dm l.length:=by unfold dm at hz ⊢;omega
  have Zh:=HZ.out;by_cases aF:z<dm l.length
  ·have dr:((l.length+1+z:Nat):Int)%64≠56:=fun h=>ar (nL.1 h);have HS:=hdd (It l z);have HLN:=hdd hlen;have bM:=aD.alloc (.cells #[.int .u8 0] 5);have gX:Bytes (wr.alloc (.cells #[.int .u8 0] 5)) (some ⟨wr.heap.size,0,none⟩) [0]:=Bytes.one wr 0;have aE:=hb.alloc hb.size (.cells #[.int .u8 0] 5);have dJ:(m9 l z).length+[(0:UInt8)].length≤140737488355328:=(by rw[hlen];simp;omega);have⟨m,hm⟩:=ex (l.length+1+z);rw[hm]at dr aD bM hcz ⊢;have HM:=hdd hm;have th:(m:Int)≤100000100:=aa;have adE:((m:Int)%64==56)=false:=(by simpa using dr);clear nL hlen dr hm Zh hNN;generalize m9 l z=L at*;go_wp2_with (refine aj rfl _ _ rfl w.heap.size _ (.slice Az m cz) L rfl bM _ [0] 1 rfl gX dJ aE.size ?_;intro v2 w2 bj l5;rw[←HS.out]at bj;have aW:=am aE l5 aE.size (fun g e=>(World.ownsRow.lt bM g e).1))
   obtain⟨A3,c3,rfl,_,_,_⟩:=bj.read;have rR:=sm l (z+1);go_roundw;case rel=>exact⟨z+1,aa,bj,aW⟩
   case measure=>have:=HM.out;simp[rR];omega
  ·obtain rfl:z=dm l.length:=(by omega);have heq:=nL.2 rfl;clear nL;have⟨m,hm⟩:=ex (l.length+1+dm l.length);rw[hm]at heq aD hcz hlen ⊢;have HM:=hdd hm;have HLN:=hdd hlen;have th:(m:Int)≤100000100:=aa;clear hlen hm;have HEO:=HE.out;generalize m9 l (dm l.length)=L at*;generalize l++padding l.length=LL at*;have HEE:=hdd HEO;clear HEO HE;have A_:=hdd (fun i h=>RW (8*l.length) i h);have hM:(8:Int)*(l.length:Int)=((8*l.length:Nat):Int):=aa;have hMb:8*l.length≤800000000:=aa;have Xo:Hid ((Oj (8*l.length)).length=8):=hdd (by simp[Oj]);generalize 8*l.length=M at*;generalize Oj M=E at*;go_wp2_with fail;clear heq;go_loopw [3,5,6] (fun v p i wx=> ∃k:Nat,k≤8∧i= .int .i64 k∧p= .int .u64 (Oi k:Nat)∧Own w.heap.size wx v (L++E.take k)∧Below w.heap.size w wx) (fun _ _ i _=>(8-intOf i).toNat);case atStart=>exact⟨0,aa,rfl,rfl,by simpa using aD,hb⟩
   case round=>
    obtain⟨k,hk,rfl,rfl,RX,ni⟩:=hrel;by_cases hk8:k<8
    ·obtain⟨p0,p1⟩:=V3 k hk8;have Qv:=V2 k hk8;obtain⟨p2,oO⟩: ∃p,Oi (k+1)=p:=⟨_,rfl⟩
     rw[oO]at Qv;have V':=hdd oO;have HS:=hdd (A_.out k hk8);obtain⟨B,hB⟩: ∃b,UInt8.ofNat (M/Oi k%256)=b:=⟨_,rfl⟩
     rw[hB]at HS;have Xq:(M:Int)/(Oi k:Int)%256=(B.toNat:Int):=(by rw[←hB,UInt8.toNat_ofNat'];rw[←Int.natCast_ediv];omega);have TM:=Nat.div_le_self M (Oi k);clear oO hB;generalize Oi k=p at*;have G9:(M:Int)/(p:Int)=((M/p:Nat):Int):=(Int.natCast_ediv M p).symm;generalize M/p=q at*;have hp0:(0:Int)<(p:Int):=aa;have hpm:(p:Int)≤72057594037927936:=aa;have hq:(q:Int)≤800000000:=aa;have ae5:(p:Int)/256=(p2:Int):=aa;rw[G9]at Xq;have atY:IntKind.u8.wrap ((q:Int)%256)=(B.toNat:Int):=(by rw[IntKind.wrap_u8,Xq];have:=B.toNat_lt;omega);have bM:=RX.alloc (.cells #[B8 B] 5);have gX:Bytes (wr.alloc (.cells #[B8 B] 5)) (some ⟨wr.heap.size,0,none⟩) [B]:=Bytes.one wr B;have aE:=ni.alloc ni.size (.cells #[B8 B] 5);have dJ:(L++E.take k).length+[B].length≤140737488355328:=(by rw[List.length_append,HLN.out,List.length_take];simp;omega);have Zr:=hdd ae5;clear Qv ae5;go_wp2_with (refine aj rfl _ _ rfl w.heap.size _ u3 _ rfl bM _ [B] 1 rfl gX dJ aE.size ?_;intro v2 w2 bj l5;rw[List.append_assoc,←HS.out]at bj;have aW:=am aE l5 aE.size (fun g e=>(World.ownsRow.lt bM g e).1))
     go_roundw;case rel=>exact⟨k+1,aa,aq,by rw[V'.out,←Zr.out],bj,aW⟩
     case measure=>simp[intOf];omega
    ·obtain rfl:k=8:=(by omega);rw[HEE.out]at RX;obtain⟨Aw,cw,rfl,hcw,B_,hBw⟩:=RX.read;go_wp2_with fail;go_ret;exact⟨Aw,cw,rfl,hcw,B_,hBw,ni⟩
def ji(v:Nat):Nat→List UInt8
 | 0=>[]
 | n+1=>UInt8.ofNat (v%256)::ji (v/256) n
theorem jk(n:Nat): ∀v,(ji v n).length=n:=by
 induction n with
 | zero=>intro v;rfl
 | succ n ih=>intro v;simp[ji,ih]
theorem RY(n:Nat): ∀(v i:Nat) (h:i<(ji v n).length),(ji v n)[i]=UInt8.ofNat (v/2^(8*i)%256):=by
 induction n with
 | zero=>intro v i h;simp[ji]at h
 | succ n ih=>
  intro v i h;cases i with
  | zero=>simp[ji]
  | succ i=>
   simp only[ji,List.getElem_cons_succ];rw[ih (v/256) i (by simpa [ji]using h),Nat.div_div_eq_div_mul,show 8*(i+1)=8*i+8 by omega,Nat.pow_add,Nat.mul_comm]
def jR(w:World)(L:List UInt8)(e:Ending)(w':World):Prop:= ∃v,e= .returned v∧Own w.heap.size w' v L∧Below w.heap.size w w'
theorem jR.bytes{e:Ending}(h:jR w L e w'):bS w L e w':=by obtain⟨v,rfl,ho,hb⟩:=h;obtain⟨A,c,rfl,h1,h2,h3⟩:=ho.read;exact⟨A,c,rfl,h1,h2,h3,hb⟩
theorem RZ{k:Nat}(h:w.heap[g]? =some (.cells ((L.take k).map B8++List.replicate (n-k) (Value.int .u8 0)).toArray 5 (0,0)))(hL:L.length=n)(hk:k<n):
  (w.setCell ⟨g,k,none⟩ (B8 (L[k]'aa))).heap[g]? =some (.cells ((L.take (k+1)).map B8++List.replicate (n-(k+1)) (Value.int .u8 0)).toArray 5 (0,0)):=by
 rw[heap_set h k];congr 3;have hl:((L.take k).map B8).length=k:=by rw[List.length_map,List.length_take];omega
 obtain⟨m,hm⟩: ∃m,n-k=m+1:=⟨n-k-1,aa⟩
 rw[hm,List.replicate_succ,show n-(k+1)=m by omega,List.take_succ_eq_append_getElem aa,List.map_append,List.append_assoc];have:=UJ ((L.take k).map B8) (List.replicate m (Value.int .u8 0)) (.int .u8 0) (B8 (L[k]'aa)) k hl;rw[this];rfl
theorem oq(v n:Nat)(hv:v<18446744073709551616)(hn:n≤8)(w:World):
  Calls prog 83 #[.int .u64 (v:Nat),.int .i64 (n:Nat)] w (jR w (ji v n)):=by
 obtain⟨i,hi,nE,gU,qR⟩:=info_parts pE;have Ld:i.bytes*n≤281474976710656:=mc;have qS:n≤maxLen:=gD;have HG:=hdd (RY n v);have HL:=hdd (jk n v);generalize hLL:ji v n=L at*;clear hLL;have sO:(n:Int)≤8:=aa;have uJ:(0:Int)≤(v:Int):=aa;have PM:(v:Int)<18446744073709551616:=aa;go_enter func83,ntmps83;go_wp2_with (refine wpList_make_full _ rfl _ _ 22 rfl w.heap.size 5 i (.int .u8 0) 1 underlying22 hi nE gU _ _ _ _ n rfl rfl aa aa Ld qS (Nat.le_refl _) ?_;intro w1 cE iY;rw[PE]at cE;have DZ:=rH cE)
 have aC:Below w.heap.size w w1:=am (Below.refl _ _) iY (Nat.le_refl _) ae;go_loopw [11] (fun a wr=> ∃k:Nat,k≤n∧a= .int .i64 k∧wr.heap[w.heap.size]? =some (.cells ((L.take k).map B8++List.replicate (n-k) (Value.int .u8 0)).toArray 5 (0,0))∧Below w.heap.size w wr) (fun a _=>(n-intOf a).toNat);case atStart=>exact⟨0,aa,rfl,by simpa using DZ,aC⟩
 case round=>
  clear DZ cE iY aC;obtain⟨k,hk,rfl,hh,hb⟩:=hrel;by_cases aF:k<n
  ·have iK:=RZ hh HL.out aF;have Ds:=HG.out k (by rw[HL.out];exact aF);rw[Ds]at iK;have⟨b,z'⟩:=ex (UInt8.ofNat (v/2^(8*k)%256));rw[z']at iK;have hx:(v:Int)/2^(8*k)%256=(b.toNat:Int):=(by rw[←z',UInt8.toNat_ofNat'];have e:((2:Int)^(8*k))=((2^(8*k):Nat):Int):=(by rw[Int.natCast_pow];rfl);rw[e,←Int.natCast_ediv];generalize v/2^(8*k)=q;omega);have hc:wr.cell? ⟨w.heap.size,k,none⟩=some (.int .u8 0):=(by rw[cell_of_row _ _ _ _ _ _ hh,List.getElem?_toArray,List.getElem?_append_right av];simp only[List.length_map,List.length_take];rw[Nat.min_eq_left (by rw[HL.out];omega),Nat.sub_self,List.getElem?_replicate,if_pos aa]);have hf:=tZ hh k;have aE:=hb.setCell (p:=⟨w.heap.size,k,none⟩) (Nat.le_refl _) (B8 b);have jb:=hdd iK;have BI:(k:Int)<(n:Int):=aa;have ht:(8*(k:Int)).toNat=8*k:=aa;have h64:8*(k:Int)≤64:=aa;have at0:0≤8*(k:Int):=aa;clear iK Ds z' hh;go_wp2_with fail;go_roundw;case rel=>exact⟨k+1,aa,aq,jb.out,aE⟩
   case measure=>simp[intOf];omega
  ·obtain rfl:k=n:=(by omega);have J4:(L.take k).map B8++List.replicate (k-k) (Value.int .u8 0)=L.map B8:=(by rw[List.take_of_length_le (by rw[HL.out];exact Nat.le_refl _)];simp);rw[J4]at hh;go_wp2_with fail;go_ret;refine⟨_,rfl,⟨?_,.inr ⟨w.heap.size,k,(L.map B8).toArray,?_,Nat.le_refl _,hh,?_,qS,?_,?_⟩⟩,hb⟩;·simp
   ·rw[HL.out];rfl
   ·rw[HL.out];exact Nat.le_refl _
   ·simp[HL.out]
   ·rw[List.take_of_length_le ae]
theorem Ks(n:Nat): ∀(v:Nat) (w:World),v<18446744073709551616→n≤8→Calls prog 61 #[.int .u64 (v:Nat),.int .i64 (n:Nat)] w (jR w (ji v n)):=by
 induction n with
 | zero=>
  intro v w _ _;go_enter func61,ntmps61;go_wp2_with fail;go_ret;exact⟨_,rfl,Own.nil _ _,Below.refl _ _⟩
 | succ n ih=>
  intro v w hv hn;have sO:((n+1:Nat):Int)≤8:=aa;have hnz:(((n+1:Nat):Int)==0)=false:=av;have⟨b,hb⟩:=ex (UInt8.ofNat (v%256));obtain⟨v2,Pw⟩: ∃x,v/256=x:=⟨_,rfl⟩
  have z':(v:Int)%256=(b.toNat:Int):=by rw[←hb,UInt8.toNat_ofNat'];omega
  have hvv:(v:Int)/256=(v2:Int):=aa;have fX:((n+1:Nat):Int)-1=(n:Int):=aa;have HL:Hid (ji v (n+1)=[b]++ji v2 n):=hdd (by rw[←hb,←Pw];rfl);have yJ:=hdd (jk n v2);have HIH:=hdd (fun w=>ih v2 w aa aa);have Fb:Own w.heap.size (w.alloc (.cells #[B8 b] 5)) (.slice (some ⟨w.heap.size,0,none⟩) 1 1) [b]:=Own.lit (base:=w.heap.size) w [b] (Nat.le_refl _) ae;have eH:=bF w (.cells #[B8 b] 5);have uJ:(0:Int)≤(v:Int):=aa;have PM:(v:Int)<18446744073709551616:=aa;generalize hN:((n+1:Nat):Int)=N at*;clear hN hb Pw ih;go_enter func61,ntmps61;go_wp2_with fail;refine(HIH.out _).mono ?_;rintro e w1 ⟨v1,rfl,m6,aC⟩;obtain⟨A1,c1,rfl,fY,at2,iH⟩:=m6.read;have cE:=Fb.below aC;have fg:=aO eH aC;have dJ:[b].length+(ji v2 n).length≤140737488355328:=by rw[yJ.out];simp;omega
  go_wp2_with (refine aj rfl _ _ rfl w.heap.size _ (.slice (some ⟨w.heap.size,0,none⟩) 1 1) [b] rfl cE A1 (ji v2 n) c1 rfl iH dJ fg.size ?_;intro v' w2 bM iV)
  go_ret;exact⟨_,rfl,by rw[HL.out];exact bM,am fg iV fg.size (fun g e=>(World.ownsRow.lt cE g e).1)⟩
def tG(k x:Nat):Nat:=x/2^k+x%2^k*2^(32-k)
theorem MJ(x:Nat):tG 0 x=x:=by simp[tG,Nat.mod_one]
theorem V4(k x:Nat)(hk:k<32)(hx:x<4294967296):tG k x<4294967296:=by
 unfold tG;have e:2^k*2^(32-k)=4294967296:=by rw[←Nat.pow_add,show k+(32-k)=32 by omega]
 have hP:0<2^k:=Nat.pow_pos aa;have h1:x/2^k<2^(32-k):=by rw[Nat.div_lt_iff_lt_mul hP,Nat.mul_comm,e];exact hx
 have h2:x%2^k<2^k:=Nat.mod_lt _ hP;generalize 2^k=P at*;generalize 2^(32-k)=Q at*;have h3:(x%P+1)*Q≤P*Q:=Nat.mul_le_mul_right Q h2;rw[Nat.add_mul,e]at h3;omega
theorem MK(k x:Nat)(hk:k<31):tG k x/2+tG k x%2*2147483648=tG (k+1) x:=by
 unfold tG;have e:2^k*2^(32-(k+1))=2147483648:=by rw[←Nat.pow_add,show k+(32-(k+1))=31 by omega]
 have eQ:2^(32-k)=2*2^(32-(k+1)):=by rw[show 32-k=(32-(k+1))+1 by omega,Nat.pow_succ];omega
 rw[eQ,Nat.pow_succ];have hP:0<2^k:=Nat.pow_pos aa;generalize 2^k=P at*;generalize 2^(32-(k+1))=Q at*;have h1:x/(P*2)=x/P/2:=by rw[Nat.div_div_eq_div_mul]
 have h2:x%(P*2)=x%P+P*(x/P%2):=Nat.mod_mul;rw[h1,h2];generalize x/P=d at*;generalize x%P=c at*;have h3:(d+c*(2*Q))/2=d/2+c*Q:=by rw[show c*(2*Q)=2*(c*Q) by rw[Nat.mul_left_comm]];omega
 have h4:(d+c*(2*Q))%2=d%2:=by rw[show c*(2*Q)=2*(c*Q) by rw[Nat.mul_left_comm]];omega
 rw[h3,h4,Nat.add_mul,←e];have h5:P*(d%2)*Q=d%2*(P*Q):=by rw[Nat.mul_comm P,Nat.mul_assoc]
 rw[h5];omega
theorem ML(n:Nat)(hn:n<32)(x:BitVec 32):(jn n x).toNat=tG n x.toNat:=by
 have hx:=x.isLt;unfold jn tG;rw[BitVec.toNat_or,BitVec.toNat_shiftLeft,BitVec.toNat_ushiftRight,Nat.shiftLeft_eq,Nat.shiftRight_eq_div_pow];have e:2^n*2^(32-n)=2^32:=by rw[←Nat.pow_add,show n+(32-n)=32 by omega]
 have hP:0<2^n:=Nat.pow_pos aa;have h1:x.toNat/2^n<2^(32-n):=by rw[Nat.div_lt_iff_lt_mul hP,Nat.mul_comm,e];exact hx
 have h2:x.toNat*2^(32-n)%2^32=x.toNat%2^n*2^(32-n):=by rw[←e,Nat.mul_mod_mul_right]
 rw[h2,rF _ _ (32-n) h1];omega
theorem i9(n:Nat)(hn:n<32)(x:BitVec 32)(w:World):Calls prog 106 #[.int .u32 x.toNat,.int .i64 n] w fun e w'=>e= .returned (.int .u32 (jn n x).toNat)∧w=w':=by
 have hx:=x.isLt;have HN:=hdd (ML n hn x);have HZ:=hdd (MJ x.toNat);have HB:=hdd (fun k hk=>V4 k x.toNat hk hx);have HS:=hdd (fun k hk=>MK k x.toNat hk);go_enter func106,ntmps106;go_wp2_with fail;go_loop [0,5] (fun v i=> ∃k:Nat,k≤n∧i= .int .i64 k∧v= .int .u32 (tG k x.toNat:Nat)) (fun _ i=>n-(intOf i).toNat);case atStart=>exact⟨0,aa,rfl,by rw[HZ.out]⟩
 case round=>
  obtain⟨k,hk,rfl,rfl⟩:=hrel;by_cases aF:k<n
  ·have hb:=HB.out k aa;have hs:=HS.out k aa;obtain⟨r2,oP⟩: ∃r,tG (k+1) x.toNat=r:=⟨_,rfl⟩
   rw[oP]at hs;have pK:=hdd oP;have BI:(k:Int)<(n:Int):=aa;generalize tG k x.toNat=r at*;have hri:(r:Int)<4294967296:=aa;have wP:(0:Int)≤(r:Int):=aa;have Zy:(r:Int)/2+(r:Int)%2*2147483648=(r2:Int):=aa;have HSI:=hdd Zy;clear hs oP Zy;go_wp2_with fail;go_round;case rel=>exact⟨k+1,aa,aq,by rw[pK.out,←HSI.out]⟩
   case measure=>simp[intOf];omega
  ·obtain rfl:k=n:=(by omega);go_wp2_with fail;go_ret;exact⟨sW,rfl⟩
end Go.Proofs.YtgfpocdiojifoaaGreatDoor
