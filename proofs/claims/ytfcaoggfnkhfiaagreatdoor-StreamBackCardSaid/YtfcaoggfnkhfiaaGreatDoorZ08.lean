import Derived.Test.YtfcaoggfnkhfiaaGreatDoorZ06
import Derived.Test.YtfcaoggfnkhfiaaGreatDoorZ07
import Derived.Deep.RegionHeld3
import Derived.ChangeKeysEq
import Derived.Laws.NewBlocks
import Derived.OpenShut
import Derived.LaidMore
import Derived.Laws.BitsAllLaws
import Derived.Test.YtfcaoggfnkhfiaaGreatDoorRows
import Derived.WalkKit
import Derived.WalkSpells
import Derived.WalkLawsBesides
import Derived.Lib.Hide
import Derived.Deep.QuietTactic
import Derived.BigQuiet
import Derived.Deep.OwnRows
import Derived.Deep.WholeRow
import Derived.Deep.MidRow
import Derived.Laws.CopyOwn
namespace Go.Proofs.YtfcaoggfnkhfiaaGreatDoor
set_option maxRecDepth 100000
set_option maxHeartbeats 8000000
open Go.RowKit Go.Proofs.Tryz
variable{cs:Array Value}{X:List Nat}{L:List UInt8}{B g k n:Nat}{t:TypeId}{a b w w':World}
def lenOf(v:Value):Nat:=match v with | .slice _ n _=>n | _=>0
theorem LD:(prog.info? 5).map (·.size)=some 1:=ai
theorem RF(W8:List Value)(h8:W8.length=8)(ay ch:List UInt8)(x:Value)(o:Nat)(hb:ay.length=64)(ho:o+ch.length≤64):
  (W8++(ay.map B8++[x])).take (8+o)++(ch.map B8++(W8++(ay.map B8++[x])).drop (8+o+ch.length))=W8++((lay ay o ch).map B8++[x]):=by
 unfold lay;rw[List.take_append,List.drop_append,h8];rw[List.take_of_length_le aa,show 8+o-8=o by omega,List.drop_eq_nil_of_le aa,show 8+o+ch.length-8=o+ch.length by omega];rw[List.take_append_of_le_length av,List.drop_append_of_le_length av];simp
theorem RG(W8:List Value)(h8:W8.length=8)(ay:List UInt8)(x y:Value)(hb:ay.length=64):(W8++(ay.map B8++[x])).set 72 y=W8++(ay.map B8++[y]):=by rw[List.set_append_right _ _ aa,h8,List.set_append_right _ _ (by simp[hb])];simp[hb]
theorem M7(t:St)(o:Nat)(ch:List UInt8)(hb:t.ay.length=64)(ho:o+ch.length≤64):
  t.cells.toArray.toList.take (8+o)++((ch.map B8)++t.cells.toArray.toList.drop (8+o+(ch.map B8).length))=(St.mk t.ws (lay t.ay o ch) t.n).cells:=by
 rw[List.length_map];exact RF t.ws.agg.toList rfl t.ay ch _ o hb ho
theorem cG.count{s:St}(h:cG w g s)(m:Nat):cG (w.setCell ⟨g,72,none⟩ (.int .u64 (m:Nat))) g ⟨s.ws,s.ay,m⟩:=by refine⟨?_,h.len⟩;have e:s.cells.set 72 (.int .u64 (m:Nat))=(St.mk s.ws s.ay m).cells:=RG s.ws.agg.toList rfl s.ay _ _ h.len;unfold World.setCell;simp[Array.getElem?_modify,h.at_,e]
theorem cG.words{s:St}(h:cG w g s)(r:R8):cG (w.setCells g 0 r.agg.toList) g ⟨r,s.ay,s.n⟩:=by refine⟨?_,h.len⟩;have h0:=heap_set h.at_ 0 (aX r.a);have h1:=heap_set h0 1 (aX r.b);have h2:=heap_set h1 2 (aX r.c);have h3:=heap_set h2 3 (aX r.d);have h4:=heap_set h3 4 (aX r.e);have h5:=heap_set h4 5 (aX r.f);have h6:=heap_set h5 6 (aX r.g);have h7:=heap_set h6 7 (aX r.h);exact h7
theorem cG.DE{s:St}(h:cG w g s):w.rangeAt g 0 s.ws.agg.toList:=by
 intro j v hv;rw[Nat.zero_add,h.cellAt];have hj:j<s.ws.agg.toList.length:=by
  rcases Nat.lt_or_ge j s.ws.agg.toList.length with h | h;·exact h
  ·rw[List.getElem?_eq_none h]at hv;cases hv
 unfold St.cells;rw[List.getElem?_append_left hj];exact hv
theorem cG.uv{s:St}(h:cG w g s):w.rangeAt g 8 (s.ay.map B8):=by
 intro j v hv;rw[h.cellAt];have hj:j<(s.ay.map B8).length:=by
  rcases Nat.lt_or_ge j (s.ay.map B8).length with h | h;·exact h
  ·rw[List.getElem?_eq_none h]at hv;cases hv
 have h8:s.ws.agg.toList.length=8:=rfl;unfold St.cells;generalize s.ws.agg.toList=W8 at*;rw[List.getElem?_append_right aa,h8,show 8+j-8=j by omega,List.getElem?_append_left hj];exact hv
theorem cG.RH{s:St}(h:cG w g s):w.there g 0 8:=by
 intro j hj;refine⟨?_,?_⟩;·rw[Nat.zero_add,h.cellAt,List.getElem?_eq_getElem (by rw[s.nc h.len];omega)];rfl
 ·simp[World.frozen?,h.at_]
theorem cG.DF{s:St}(h:cG w g s)(hb:Below B w w')(hg:g<B):cG w' g s:=⟨(hb.block g hg).trans h.at_,h.len⟩
theorem lY(g:Nat)(hg:g∈X): ∀(vs:List Value) (o:Nat) (b:World),aw X a b→aw X a (b.setCells g o vs)
 | [],_,_,h=>h
 | _::vs,o,_,h=>lY g hg vs (o+1) _ (h.setCell (p:=⟨g,o,none⟩) (.inl hg) _)
theorem ry(h:Below a.heap.size a b):aw [] a b:=⟨h.os,h.tape,h.output,h.size,fun i hi _=>h.block i hi⟩
theorem nU(h:Below B a.drew b):Below B a b:=⟨h.os,h.tape,h.output,h.size,h.block⟩
theorem DG(D:List UInt8)(n:Nat):D.take (D.take n).length=D.take n:=by
 rw[List.length_take];rcases Nat.le_total n D.length with h | h;·rw[Nat.min_eq_left h]
 ·rw[Nat.min_eq_right h,List.take_length,List.take_of_length_le h]
theorem M8(g o:Nat)(h:o<64)(w:World):(Instr.sliceAt 277 (.pointer (some ⟨g,8,none⟩)) (some (.int .i64 (o:Nat))) none none).run prog w= .ok (.slice (some ⟨g,8+o,none⟩) (64-o) (64-o)) w:=by have ha:prog.arrayLen 277=64:=ai;have hu:prog.underlying 277=some (.array (prog.arrayLen 277) (prog.elem 277)):=ai;have hs:(sizeOf (prog.elem 277)).run prog w= .ok 1 w:=ai;rw[run_sliceAt_array_l w 277 ⟨g,8,none⟩ hu .i64 (o:Nat) aa (by rw[ha];omega),hs,ha];simp only[Result.andThen,slicedAt,Int.toNat_natCast,Nat.mul_one];rw[if_neg aa,Addr.add_mid]
theorem Ca(g:Nat)(s:St)(A:Option Addr)(l:List UInt8)(c:Nat)(w:World)(hH:cG w g s)(hB:Bytes w A l)(hA:0<l.length→ ∀a,A=some a→a.block≠g)(hg:g<w.heap.size)(hK: ∀i,i<64→w.cell? ⟨2,i,none⟩=some (aX (Kc i)))(h1:2<g)(hc:l.length≤c)(_hm:c≤9223372036854775807)(hn:s.n+l.length≤1000000000):
  Calls prog 157 #[.pointer (some ⟨g,0,none⟩),.slice A l.length c] w fun e w'=>e= .returned (.tuple #[])∧cG w' g (s.fK l)∧aw [g] w w':=by
 have HK:=ae hK;have HN:=ae hn;clear hK hn;go_enter func157,ntmps157;go_wp2_with fail;go_loopw [1] (fun v wr=> ∃(k:Nat) (Ak:Option Addr),k≤l.length∧v= .slice Ak (l.length-k) (c-k)∧Bytes wr Ak (l.drop k)∧(k<l.length→ ∀a,Ak=some a→a.block≠g)∧cG wr g (s.fK (l.take k))∧aw [g] w wr) (fun v _=>lenOf v);case atStart=>exact⟨0,A,aa,rfl,hB,hA,hH,aw.refl _ _⟩
 case round=>
  obtain⟨k,Ak,hk,rfl,hBk,hAk,hHk,ci⟩:=hrel;clear hB hA hH;by_cases aH:k<l.length
  ·have hlen:(l.drop k).length=l.length-k:=List.length_drop ..;obtain⟨bb,off,rfl,gZ,hcell⟩:=hBk.addr aa;have hbg:bb≠g:=hAk aH _ rfl;have htn:=St.RB (l.take k) s;have Z1:(l.take k).length=k:=mV;rw[Z1]at htn;have HT:Hid (∀m,k+m≤l.length→s.fK (l.take (k+m))=(s.fK (l.take k)).fK ((l.drop k).take m)):=ae (fun m _=>by rw[List.take_add,St.FK]);generalize bQ:s.fK (l.take k)=t at*;have FM:=hHk.len;have ae0:=(hHk.cellAt 72).trans (t.Ja FM);have htb:t.n≤1000000000:=am HN.out;have dm:=hHk.at_;have ae1:(t.n:Int)%64=((t.n%64:Nat):Int):=aa;have ho:t.n%64<64:=aa;have hnn:(t.n:Int)≤1000000000:=aa;have AK:(0:Int)<((l.length-k:Nat):Int):=aa;have HTN:=ae htn;have gl:=ae bQ;clear htn bQ Z1;generalize hD:l.drop k=D at*;have HD:=ae hD;clear hD;generalize hL:l.length-k=L at*;have HL:=ae hL;clear hL;generalize hCK:c-k=ck at*;have M1:=ae hCK;clear hCK;generalize hO:t.n%64=o at*;have HO:=ae hO;clear hO;have hcut:=M8 g o ho;have i9:Nat.min L (64-o)=(D.take (64-o)).length:=(by rw[List.length_take,hlen,Nat.min_comm]);have ae2:=DG D (64-o);generalize BK:D.take (64-o)=ch at*;have atT:ch.length≤64-o:=Iq;have atU:0<ch.length:=Iq;have kf: ∀j v,(ch.map B8)[j]? =some v→wr.cell? ((⟨bb,off,none⟩:Addr).add j)=some v:=by
    intro j v hv;rw[List.getElem?_map]at hv;have hj:j<ch.length:=by
     rcases Nat.lt_or_ge j ch.length with h | h;·exact h
     ·rw[List.getElem?_eq_none h]at hv;simp at hv
    have hjD:j<D.length:=(by have:ch.length≤D.length:=Iq;omega);rw[List.getElem?_eq_getElem hj]at hv;simp at hv;rw[Addr.add_mid,hcell j hjD,←hv];have:ch[j]=D[j]:=(by simp only[←BK,List.getElem_take]);rw[this]
   have eS:=t.nc FM;have dw:8+o+(ch.map B8).length≤t.cells.toArray.size:=(by simp[eS];omega);have VK:Hid ((t.cells.toArray.toList.take (8+o)++((ch.map B8)++t.cells.toArray.toList.drop (8+o+(ch.map B8).length)))=(St.mk t.ws (lay t.ay o ch) t.n).cells):=ae (M7 t o ch FM aa);have fv:=setRow_heap wr g t.cells.toArray (St.mk t.ws (lay t.ay o ch) t.n).cells.toArray _ _ dm;have RI:(lay t.ay o ch).length=64:=(by rw[I8 _ _ _ aa,FM]);have hH1:cG (wr.setRow g (St.mk t.ws (lay t.ay o ch) t.n).cells.toArray) g (St.mk t.ws (lay t.ay o ch) t.n):=⟨fv,RI⟩
   have hO1:aw [g] wr (wr.setRow g (St.mk t.ws (lay t.ay o ch) t.n).cells.toArray):=⟨rfl,rfl,rfl,by simp[World.setRow],fun i _ hi=>setRow_other wr g i _ iZ⟩
   have c1:=(hH1.cellAt 72).trans ((St.mk t.ws (lay t.ay o ch) t.n).Ja RI);have f1:(wr.setRow g (St.mk t.ws (lay t.ay o ch) t.n).cells.toArray).frozen? ⟨g,72,none⟩=false:=(by simp[World.frozen?,fv]);have Jc:=hH1.count (t.n+ch.length);have Xh:=hO1.setCell (p:=⟨g,72,none⟩) ag (.int .u64 ((t.n+ch.length:Nat):Int));have rq:(t.n:Int)+(ch.length:Int)=((t.n+ch.length:Nat):Int):=aa;have EV:=ae (St.I9 ch t FM (by rw[HO.out];omega));clear fv eS hnn rq;simp only at c1;generalize Xi:(St.mk t.ws (lay t.ay o ch) t.n).cells=cs1 at*;have hnn:(t.n:Int)≤1000000000:=aa;have IH:(ch.length:Int)≤64:=aa;have hLm:ch.length≤L:=(by rw[←hlen,←BK,List.length_take];omega);by_cases LF:o+ch.length=64
   ·have qK:((o:Int)+(ch.length:Int)==64)=true:=(by simp;omega);have hq:=EV.out;rw[HO.out,if_pos LF]at hq;have HQ:Hid (s.fK (l.take (k+ch.length))=⟨rx t.ws (lay t.ay o ch),lay t.ay o ch,t.n+ch.length⟩):=ae (by rw[HT.out ch.length (am HL.out),ae2,hq]);clear hq BK hcell;have tT:g<wr.heap.size:=Nat.lt_of_lt_of_le hg ci.size;have fV:=ci.trans Xh ag;simp only[Int.natCast_add]at Jc Xh fV;have ae3:g<(wr.setRow g cs1.toArray |>.setCell ⟨g,72,none⟩ (.int .u64 ((t.n:Int)+(ch.length:Int)))).heap.size:=Nat.lt_of_lt_of_le tT Xh.size;have ae4:=ae (fun(w':World) h h'=>Xf t.ws (lay t.ay o ch) RI w' h h');generalize hlb:lay t.ay o ch=lb at*;by_cases tR:ck=ch.length
    ·go_wp2_with (refine wpList_copy_own rfl (.tmp 21) (.tmp 22) 22 22 rfl 5 underlying22 LD g (8+o) (64-o) (64-o) ⟨bb,off,none⟩ L ck rfl rfl t.cells.toArray 279 dm (ch.map B8) CX kf dw (lU ch) ?_;rw[VK.out];generalize wr.setRow g cs1.toArray=w1 at*)
     generalize w1.setCell ⟨g,72,none⟩ (.int .u64 ((t.n:Int)+(ch.length:Int)))=w2 at*;have aaO:cG w2.drew g ⟨t.ws,lb,t.n+ch.length⟩:=⟨Jc.at_,Jc.len⟩
     have DH:w2.drew.rangeAt g 8 (lb.map B8):=Jc.uv;have hKL:2<w2.drew.heap.size:=(by show 2<w2.heap.size;omega);have hKK: ∀i,i<64→w2.drew.cell? ⟨2,i,none⟩=some (aX (Kc i)):=fun i hi=>(by have e:w2.drew.cell? ⟨2,i,none⟩=w.cell? ⟨2,i,none⟩:=(by show World.cell? w2 _=_;unfold World.cell?;rw[fV.block 2 aa av]);rw[e];exact HK.out i hi);refine wp_region_held_drew (S:=fun w'=>w'.rangeAt g 8 (lb.map B8)) ai DH (fun hS=> ?_);refine af 0 hS (h:=af 1 hS (h:=af 2 hS (h:=af 3 hS (h:=af 5 hS (h:=af 6 hS (h:=af 7 hS (h:= ?_)))))));refine wpAnyH_take (i:=8) (v:= .agg (lb.map B8).toArray) rfl ai ai ai (fun _ _ _ h=>h) (yieldsIf_load_mid (by rfl) 277 (.tmp 47) rfl g 8 rfl (lb.map B8) _ (fun w h=>h) underlying277 rfl (by rw[I6,List.length_map,RI])) hS ?_;refine dM ?_;refine aC 4 (fun K hK=> ?_);refine wp_load_mid 276 (.tmp 43) rfl g 0 rfl t.ws.agg.toList _ Jc.DE underlying276 rfl ri ?_;refine dM ?_;refine hK.out _ _ hS (fun _=> ?_);clear hK K;refine aC 9 (fun K hK=> ?_);go_simp;refine(ae4.out _ hKK hKL).mono ?_;rintro e w3 ⟨rfl,bA⟩;have Hz:=aaO.DF bA ae3;have hS3:=Hz.uv;go_wp2_with fail;refine hK.out _ _ hS3 (fun _=> ?_);clear hK K;refine af 10 hS3 (h:=af 11 hS3 (h:= ?_));refine aC 12 (fun K hK=> ?_);refine wp_store_mid 276 (.tmp 51) (.tmp 49) rfl g 0 (rx t.ws lb).agg rfl rfl Hz.RH ri (yb _) ?_;simp only[Act.put];refine hK.out _ _ (Hz.words _).uv (fun _=> ?_);clear hK K;refine wpAnyH_done ai ?_ _;have jd:aw [g] wr (w3.setCells g 0 (rx t.ws lb).agg.toList):=lY g ag _ _ _ ((Xh.trans (ry (show Below w2.heap.size w2 w3 from(nU bA))) ag));have RJ:=Hz.words (rx t.ws lb);go_wp2_with fail;go_roundw;case rel=>
      refine⟨k+ch.length,some ⟨bb,off,none⟩,am HL.out,?_,?_,?_,?_,?_⟩;·have:=HL.out;have:=M1.out;rw[show l.length-(k+ch.length)=L-ch.length by omega,show c-(k+ch.length)=ck-ch.length by omega,show ck-ch.length=0 by omega]
      ·rw[List.drop_eq_nil_of_le (by have:=HL.out;have:=M1.out;omega)];exact .nil
      ·intro _ a e;injection e with e;subst e;exact hbg
      ·rw[HQ.out];exact RJ
      ·exact ci.trans jd ag
     case measure=>simp[lenOf];omega
    ·go_wp2_with (refine wpList_copy_own rfl (.tmp 21) (.tmp 22) 22 22 rfl 5 underlying22 LD g (8+o) (64-o) (64-o) ⟨bb,off,none⟩ L ck rfl rfl t.cells.toArray 279 dm (ch.map B8) CX kf dw (lU ch) ?_;rw[VK.out];generalize wr.setRow g cs1.toArray=w1 at*)
     generalize w1.setCell ⟨g,72,none⟩ (.int .u64 ((t.n:Int)+(ch.length:Int)))=w2 at*;have aaO:cG w2.drew g ⟨t.ws,lb,t.n+ch.length⟩:=⟨Jc.at_,Jc.len⟩
     have DH:w2.drew.rangeAt g 8 (lb.map B8):=Jc.uv;have hKL:2<w2.drew.heap.size:=(by show 2<w2.heap.size;omega);have hKK: ∀i,i<64→w2.drew.cell? ⟨2,i,none⟩=some (aX (Kc i)):=fun i hi=>(by have e:w2.drew.cell? ⟨2,i,none⟩=w.cell? ⟨2,i,none⟩:=(by show World.cell? w2 _=_;unfold World.cell?;rw[fV.block 2 aa av]);rw[e];exact HK.out i hi);refine wp_region_held_drew (S:=fun w'=>w'.rangeAt g 8 (lb.map B8)) ai DH (fun hS=> ?_);refine af 0 hS (h:=af 1 hS (h:=af 2 hS (h:=af 3 hS (h:=af 5 hS (h:=af 6 hS (h:=af 7 hS (h:= ?_)))))));refine wpAnyH_take (i:=8) (v:= .agg (lb.map B8).toArray) rfl ai ai ai (fun _ _ _ h=>h) (yieldsIf_load_mid (by rfl) 277 (.tmp 47) rfl g 8 rfl (lb.map B8) _ (fun w h=>h) underlying277 rfl (by rw[I6,List.length_map,RI])) hS ?_;refine dM ?_;refine aC 4 (fun K hK=> ?_);refine wp_load_mid 276 (.tmp 43) rfl g 0 rfl t.ws.agg.toList _ Jc.DE underlying276 rfl ri ?_;refine dM ?_;refine hK.out _ _ hS (fun _=> ?_);clear hK K;refine aC 9 (fun K hK=> ?_);go_simp;refine(ae4.out _ hKK hKL).mono ?_;rintro e w3 ⟨rfl,bA⟩;have Hz:=aaO.DF bA ae3;have hS3:=Hz.uv;go_wp2_with fail;refine hK.out _ _ hS3 (fun _=> ?_);clear hK K;refine af 10 hS3 (h:=af 11 hS3 (h:= ?_));refine aC 12 (fun K hK=> ?_);refine wp_store_mid 276 (.tmp 51) (.tmp 49) rfl g 0 (rx t.ws lb).agg rfl rfl Hz.RH ri (yb _) ?_;simp only[Act.put];refine hK.out _ _ (Hz.words _).uv (fun _=> ?_);clear hK K;refine wpAnyH_done ai ?_ _;have jd:aw [g] wr (w3.setCells g 0 (rx t.ws lb).agg.toList):=lY g ag _ _ _ ((Xh.trans (ry (show Below w2.heap.size w2 w3 from(nU bA))) ag));have RJ:=Hz.words (rx t.ws lb);go_wp2_with fail;go_roundw;case rel=>
      refine⟨k+ch.length,some ⟨bb,off+ch.length,none⟩,am HL.out,?_,?_,?_,?_,?_⟩;·have:=HL.out;have:=M1.out;rw[show l.length-(k+ch.length)=L-ch.length by omega,show c-(k+ch.length)=ck-ch.length by omega]
      ·rw[←List.drop_drop,HD.out];have h:=(hBk.only jd (fun a e=>by injection e with e;subst e;simpa using hbg)).cutFrom (k:=ch.length) aa (show D.length≤ck by have:=HL.out;have:=M1.out;omega);rw[if_neg tR]at h;simpa only[Option.map_some,Addr.add_mid]using h
      ·intro _ a e;injection e with e;subst e;exact hbg
      ·rw[HQ.out];exact RJ
      ·exact ci.trans jd ag
     case measure=>simp[lenOf];omega
   ·have qK:((o:Int)+(ch.length:Int)==64)=false:=(by simp;omega);have hq:=EV.out;rw[HO.out,if_neg LF]at hq;have HQ:Hid (s.fK (l.take (k+ch.length))=⟨t.ws,lay t.ay o ch,t.n+ch.length⟩):=ae (by rw[HT.out ch.length (am HL.out),ae2,hq]);have hBn:=(hBk.aA Xh.size (fun p hp aH=>by
     have wn:bb=p.block:=(by simpa using hp);show World.cell? _ _=_;unfold World.cell?;rw[Xh.block p.block aH av])).cutFrom (k:=ch.length) aa (show D.length≤ck by have:=HL.out;have:=M1.out;omega)
    clear hq BK hBk hcell;by_cases tR:ck=ch.length
    ·rw[if_pos tR]at hBn;go_wp2_with (refine wpList_copy_own rfl (.tmp 21) (.tmp 22) 22 22 rfl 5 underlying22 LD g (8+o) (64-o) (64-o) ⟨bb,off,none⟩ L ck rfl rfl t.cells.toArray 279 dm (ch.map B8) CX kf dw (lU ch) ?_;rw[VK.out];generalize wr.setRow g cs1.toArray=w1 at*)
     go_roundw;case rel=>
      refine⟨k+ch.length,some ⟨bb,off,none⟩,am HL.out,?_,?_,?_,?_,?_⟩;·have:=HL.out;have:=M1.out;rw[show l.length-(k+ch.length)=L-ch.length by omega,show c-(k+ch.length)=ck-ch.length by omega,show ck-ch.length=0 by omega]
      ·rw[←List.drop_drop,HD.out];exact hBn
      ·intro _ a e;injection e with e;subst e;exact hbg
      ·rw[HQ.out];exact Jc
      ·exact ci.trans Xh ag
     case measure=>simp[lenOf];omega
    ·rw[if_neg tR]at hBn;simp only[Option.map_some,Addr.add_mid]at hBn;go_wp2_with (refine wpList_copy_own rfl (.tmp 21) (.tmp 22) 22 22 rfl 5 underlying22 LD g (8+o) (64-o) (64-o) ⟨bb,off,none⟩ L ck rfl rfl t.cells.toArray 279 dm (ch.map B8) CX kf dw (lU ch) ?_;rw[VK.out];generalize wr.setRow g cs1.toArray=w1 at*)
     go_roundw;case rel=>
      refine⟨k+ch.length,some ⟨bb,off+ch.length,none⟩,am HL.out,?_,?_,?_,?_,?_⟩;·have:=HL.out;have:=M1.out;rw[show l.length-(k+ch.length)=L-ch.length by omega,show c-(k+ch.length)=ck-ch.length by omega]
      ·rw[←List.drop_drop,HD.out];exact hBn
      ·intro _ a e;injection e with e;subst e;exact hbg
      ·rw[HQ.out];exact Jc
      ·exact ci.trans Xh ag
     case measure=>simp[lenOf];omega
  ·obtain rfl:k=l.length:=(by omega);have bQ:s.fK (l.take l.length)=s.fK l:=(by rw[List.take_length]);rw[bQ]at hHk;go_wp2_with fail;go_end0;exact⟨rfl,hHk,ci⟩
def Jd(x:BitVec 32):List UInt8:=[UInt8.ofNat (x.toNat/16777216%256),UInt8.ofNat (x.toNat/65536%256),UInt8.ofNat (x.toNat/256%256),UInt8.ofNat (x.toNat%256)]
theorem yc(n:Nat):((UInt8.ofNat (n%256)).toNat:Nat)=n%256:=by have:n%256<256:=aa;simp[Nat.mod_eq_of_lt this]
def wz(L:List Value)(o:Nat)(vs:List Value):List Value:=L.take o++(vs++L.drop (o+vs.length))
theorem Xj(R t:List Value)(a x:Value)(o:Nat)(h:R.length=o):(R++a::t).set o x=R++x::t:=by subst h;simp
theorem alN(L:List Value)(o:Nat)(a b c d:Value)(h:o+4≤L.length):((((L.set o a).set (o+1) b).set (o+2) c).set (o+3) d)=wz L o [a,b,c,d]:=by
 have hl:(L.drop o).length=L.length-o:=List.length_drop ..;obtain⟨x0,x1,x2,x3,t,e⟩: ∃x0 x1 x2 x3 t,L.drop o=x0::x1::x2::x3::t:=by
  match hd:L.drop o with
  | x0::x1::x2::x3::t=>exact⟨x0,x1,x2,x3,t,rfl⟩
  | []=>rw[hd]at hl;simp at hl;omega
  | [_]=>rw[hd]at hl;simp at hl;omega
  | [_,_]=>rw[hd]at hl;simp at hl;omega
  | [_,_,_]=>rw[hd]at hl;simp at hl;omega
 have hL:L=L.take o++x0::x1::x2::x3::t:=by rw[←e,List.take_append_drop]
 have ht:(L.take o).length=o:=mV;have bw:L.drop (o+4)=t:=by rw[←List.drop_drop,e];rfl
 unfold wz;rw[show o+[a,b,c,d].length=o+4 from rfl,bw];generalize L.take o=R at*;subst hL;subst ht;simp
theorem FN(L vs:List Value)(o:Nat)(h:o+vs.length≤L.length):(wz L o vs).length=L.length:=by unfold wz;simp;omega
theorem oY(g off n c:Nat)(x:BitVec 32)(L:List Value)(t:TypeId)(w:World)(hg:w.heap[g]? =some (.cells L.toArray t (0,0)))(h4:off+4≤L.length)(hn:4≤n):
  Calls prog 201 #[.slice (some ⟨g,off,none⟩) n c,.int .u32 x.toNat] w fun e w'=>e= .returned (.tuple #[])∧w'.heap[g]? =some (.cells (wz L off ((Jd x).map B8)).toArray t (0,0))∧aw [g] w w':=by
 have hx:=x.isLt;have hc: ∀j,j<L.length→ ∃v,w.cell? ⟨g,j,none⟩=some v:=fun j hj=>⟨_,by rw[cell_of_row _ _ _ _ _ _ hg,List.getElem?_toArray,List.getElem?_eq_getElem hj]⟩
 have hf: ∀j,w.frozen? ⟨g,j,none⟩=false:=fun j=>by simp[World.frozen?,hg]
 obtain⟨y0,h0⟩:=hc off aa;obtain⟨y1,h1⟩:=hc (off+1) aa;obtain⟨y2,h2⟩:=hc (off+2) aa;obtain⟨y3,h3⟩:=hc (off+3) aa;have f0:=hf off;have f1:=hf (off+1);have f2:=hf (off+2);have f3:=hf (off+3);have hbe:Jd x=[UInt8.ofNat (x.toNat/16777216%256),UInt8.ofNat (x.toNat/65536%256),UInt8.ofNat (x.toNat/256%256),UInt8.ofNat (x.toNat%256)]:=rfl;have e0:(x.toNat:Int)/16777216%256=((UInt8.ofNat (x.toNat/16777216%256)).toNat:Int):=by rw[yc (x.toNat/16777216)];omega
 have e0':(x.toNat:Int)/16777216=((UInt8.ofNat (x.toNat/16777216%256)).toNat:Int):=by rw[yc (x.toNat/16777216)];omega
 have e1:(x.toNat:Int)/65536%256=((UInt8.ofNat (x.toNat/65536%256)).toNat:Int):=by rw[yc (x.toNat/65536)];omega
 have e2:(x.toNat:Int)/256%256=((UInt8.ofNat (x.toNat/256%256)).toNat:Int):=by rw[yc (x.toNat/256)];omega
 have e3:(x.toNat:Int)%256=((UInt8.ofNat (x.toNat%256)).toNat:Int):=by rw[yc x.toNat];omega
 generalize UInt8.ofNat (x.toNat/16777216%256)=b0 at*;generalize UInt8.ofNat (x.toNat/65536%256)=b1 at*;generalize UInt8.ofNat (x.toNat/256%256)=b2 at*;generalize UInt8.ofNat (x.toNat%256)=b3 at*;have q0:=heap_set hg off (B8 b0);have q1:=heap_set q0 (off+1) (B8 b1);have q2:=heap_set q1 (off+2) (B8 b2);have q3:=heap_set q2 (off+3) (B8 b3);rw[alN L off _ _ _ _ h4]at q3;have HQ:=ae q3
 have ci:aw [g] w ((((w.setCell ⟨g,off,none⟩ (B8 b0)).setCell ⟨g,off+1,none⟩ (B8 b1)).setCell ⟨g,off+2,none⟩ (B8 b2)).setCell ⟨g,off+3,none⟩ (B8 b3)):=
  ((((aw.refl [g] w).setCell ag _).setCell ag _).setCell ag _).setCell ag _
 rw[hbe];clear hbe hc hf hg q0 q1 q2 q3;go_enter func201,ntmps201;go_wp2_with fail;go_end0;exact⟨rfl,HQ.out,ci⟩
def lH(n:Nat):Nat:=(119-n%64)%64
def padding(n:Nat):List UInt8:=128::(List.replicate (lH n) 0++(Jd (BitVec.ofNat 32 (8*n/4294967296))++Jd (BitVec.ofNat 32 (8*n))))
theorem Je(n:Nat):lH n<64:=by unfold lH;omega
theorem ia(x:BitVec 32):(Jd x).length=4:=rfl
theorem yd(n:Nat):(padding n).length=9+lH n:=by unfold padding;simp[ia];omega
theorem sJ{base:Nat}{xs:List Value}(h:w.ownsRow base t 1 (.slice (some ⟨g,0,none⟩) n n) n xs):w.heap[g]? =some (.cells xs.toArray t (0,0)):=by
 obtain⟨hl,⟨h,_⟩ | ⟨g',cap,cur,e,_,hg,_,_,dl,ht⟩⟩:=h;·cases h
 ·injection e with e1 _ e3;injection e1 with e1;injection e1 with e1;subst e1;subst e3;rw[Nat.mul_one]at hl dl ht;have:cur.toList=xs:=by rw[←ht,List.take_of_length_le av]
  rw[hg,←this]
theorem LG(n:Nat):(madeCells (Value.int .u8 0).cells (n*1)).toList=List.replicate n (Value.int .u8 0):=by rw[Nat.mul_one,show(Value.int .u8 0).cells= #[Value.int .u8 0]from rfl,toList_madeCells_one]
theorem RK(z:Nat)(x y:BitVec 32):wz (wz ((List.replicate (1+z+8) (Value.int .u8 0)).set 0 (.int .u8 128)) (1+z) ((Jd x).map B8)) (1+z+4) ((Jd y).map B8)=(128::(List.replicate z 0++(Jd x++Jd y)):List UInt8).map B8:=by
 have e:(List.replicate (1+z+8) (Value.int .u8 0)).set 0 (.int .u8 128)=(.int .u8 128:Value)::(List.replicate z (.int .u8 0)++List.replicate 8 (.int .u8 0)):=by rw[show 1+z+8=(z+8)+1 by omega,List.replicate_succ,List.set_cons_zero,←List.replicate_append_replicate]
 rw[e];have h1:wz ((.int .u8 128:Value)::(List.replicate z (.int .u8 0)++List.replicate 8 (.int .u8 0))) (1+z) ((Jd x).map B8)=(.int .u8 128:Value)::(List.replicate z (.int .u8 0)++((Jd x).map B8++List.replicate 4 (.int .u8 0))):=by unfold wz;rw[List.length_map,ia,show 1+z=z+1 by omega,show z+1+4=(z+4)+1 by omega,List.take_succ_cons,List.drop_succ_cons,List.take_append_of_le_length ag,List.drop_append];simp[List.take_of_length_le]
 rw[h1];unfold wz;rw[List.length_map,ia,show 1+z+4=(z+4)+1 by omega,show z+4+1+4=(z+8)+1 by omega,List.take_succ_cons,List.drop_succ_cons,List.take_append,List.drop_append];simp[ia,List.drop_eq_nil_of_le,List.take_of_length_le]
theorem M9(h:w.heap[g]? =some (.cells (List.replicate n (Value.int .u8 0)).toArray t (0,0)))(hn:0<n):w.cell? ⟨g,0,none⟩=some (.int .u8 0):=by rw[cell_of_row _ _ _ _ _ _ h,List.getElem?_toArray,List.getElem?_replicate,if_pos hn]
theorem vx{C:Array Value}(h:w.heap[g]? =some (.cells C t (0,0)))(j:Nat):w.frozen? ⟨g,j,none⟩=false:=by simp[World.frozen?,h]
theorem ib{o:Obj}(h:w.heap[g]? =some o):g<w.heap.size:=by
 rcases Nat.lt_or_ge g w.heap.size with h' | h';·exact h'
 ·rw[Array.getElem?_eq_none h']at h;cases h
theorem Xk(g:Nat)(s:St)(w:World)(hH:cG w g s)(hg:g<w.heap.size)(hK: ∀i,i<64→w.cell? ⟨2,i,none⟩=some (aX (Kc i)))(h1:2<g)(hn:s.n≤100000000):
  Calls prog 200 #[.pointer (some ⟨g,0,none⟩)] w fun e w'=>e= .returned (.tuple #[])∧cG w' g (s.fK (padding s.n))∧aw [g] w w':=by
 obtain⟨i,hi,kw,eQ,oC⟩:=info_parts oK;have ae0:=(hH.cellAt 72).trans (s.Ja hH.len);have hz:(119-(s.n:Int)%64)%64=((lH s.n:Nat):Int):=by unfold lH;omega
 have VG:=Je s.n;have qp:=yd s.n;have Jf:Hid (padding s.n=128::(List.replicate (lH s.n) 0++(Jd (BitVec.ofNat 32 (8*s.n/4294967296))++Jd (BitVec.ofNat 32 (8*s.n))))):=ae rfl;have nV:((BitVec.ofNat 32 (8*s.n/4294967296)).toNat:Int)=(s.n:Int)*8/4294967296:=by rw[BitVec.toNat_ofNat];omega
 have jA:((BitVec.ofNat 32 (8*s.n)).toNat:Int)=(s.n:Int)*8:=by rw[BitVec.toNat_ofNat];omega
 generalize BitVec.ofNat 32 (8*s.n/4294967296)=x0 at*;generalize BitVec.ofNat 32 (8*s.n)=x1 at*;generalize lH s.n=z at*;have Na:=ae nV;have HX1:=ae jA;have HK:=ae hK;have HZ:=ae hz;have hnn:(s.n:Int)≤100000000:=aa;have Bc:(0:Int)≤(s.n:Int):=aa;have Nb:i.bytes*(1+z+8)≤281474976710656:=mW;have un:1+z+8≤maxLen:=fF;clear nV jA hK hn;go_enter func200,ntmps200;go_wp2_with (refine wpList_make_full _ rfl _ _ 22 rfl w.heap.size 5 i (.int .u8 0) 1 underlying22 hi kw eQ _ _ _ _ (1+z+8) rfl rfl aa aa Nb un (Nat.le_refl _) ?_;intro w1 d7 kz;rw[LG]at d7;have H7:=sJ d7;have c0:=M9 H7 aa;have f0:=vx H7 0)
 have az:Below w.heap.size w w1:=ao (Below.refl _ _) kz (Nat.le_refl _) ag;have hh2:=heap_set H7 0 (.int .u8 128);have aD:=az.setCell (p:=⟨w.heap.size,0,none⟩) (Nat.le_refl _) (.int .u8 128);have Dk:w.heap.size<(w1.setCell ⟨w.heap.size,0,none⟩ (.int .u8 128)).heap.size:=ib hh2;clear H7 c0 f0 d7 kz az;generalize w1.setCell ⟨w.heap.size,0,none⟩ (.int .u8 128)=w2 at*;rw[←Na.out];refine(oY _ _ _ _ x0 _ _ w2 hh2 ag aa).mono ?_;rintro e w3 ⟨rfl,hh3,fE⟩;go_wp2_with fail;rw[←HX1.out];refine(oY _ _ _ _ x1 _ _ w3 hh3 (by rw[FN _ _ _ (by simp[ia])];simp) aa).mono ?_;rintro e w4 ⟨rfl,hh4,cY⟩;rw[RK,←Jf.out]at hh4;have bA:=aD.trans (fE.below aa ag);have bm:=bA.trans (cY.below bA.size ag);have RJ:=hH.DF bm hg;have uw:Bytes w4 (some ⟨w.heap.size,0,none⟩) (padding s.n):=by refine .inr ⟨_,_,rfl,ib hh4,fun k hk=> ?_⟩;rw[cell_of_row _ _ _ _ _ _ hh4,Nat.zero_add,List.getElem?_toArray,List.getElem?_map,List.getElem?_eq_getElem hk];rfl
 have e9:1+z+8=(padding s.n).length:=aa;have HWR:=ae (Ca g s _ (padding s.n) (padding s.n).length w4 RJ uw (fun _ a e=>by injection e with e;subst e;simp;omega) (Nat.lt_of_lt_of_le hg bm.size) (fun i hi=>(bm.cell (p:=⟨2,i,none⟩) (by show 2<w.heap.size;omega)).trans (HK.out i hi)) h1 (Nat.le_refl _) aa aa);have jd:aw [g] w w4:=⟨bm.os,bm.tape,bm.output,bm.size,fun i hi _=>bm.block i hi⟩
 have E9:=ae e9;clear e9 hh3 hh4 fE cY bA hh2 aD ae0 qp Jf uw RJ;go_wp2_with fail;rw[E9.out];refine HWR.out.mono ?_;rintro e w5 ⟨rfl,hH5,lZ⟩;go_wp2_with fail;go_end0;exact⟨rfl,hH5,jd.trans lZ ag⟩
def ic:R8:=⟨1779033703,3144134277,1013904242,2773480762,1359893119,2600822924,528734635,1541459225⟩
def St.new:St:=⟨ic,List.replicate 64 0,0⟩
def sK:Array Value:=(List.replicate 8 (Value.int .u32 0)++(List.replicate 64 (Value.int .u8 0)++[Value.int .u64 0])).toArray
theorem Z3:(prog.info? 279).map (fun i=>(i.zero,i.size))=some (some (.agg sK),73):=ai
theorem ye:sK.size=73:=by simp[sK]
theorem Nc:((((((((sK.setIfInBounds 0 (aX ic.a)).setIfInBounds 1 (aX ic.b)).setIfInBounds 2 (aX ic.c)).setIfInBounds 3 (aX ic.d)).setIfInBounds 4 (aX ic.e)).setIfInBounds 5 (aX ic.f)).setIfInBounds 6 (aX ic.g)).setIfInBounds 7 (aX ic.h))=St.new.cells.toArray:=by simp[sK,St.cells,St.new,B8,List.replicate]
theorem Nd(tt:TypeId)(fr:Nat×Nat)(w:World)(hf:w.heap[1]? =some (.cells ic.agg tt fr)):
  Calls prog 156 #[] w fun e w'=>e= .returned (.pointer (some ⟨w.heap.size,0,none⟩))∧cG w' w.heap.size St.new∧Below w.heap.size w w':=by
 have hz:=(zero_of_info Z3).1;have hzs:=ye;have HNC:=ae Nc;generalize sK=Z at*;go_enter func156,ntmps156;go_wp2_with (refine wpList_load_row rfl 276 _ rfl 1 rfl tt ic.agg _ _ hf underlying276 rfl ri ?_)
 rw[HNC.out];go_ret;exact⟨rfl,⟨heap_alloc_last _ _,by simp[St.new]⟩,bt _ _⟩
def jB(r:R8):Nat→List UInt8
 | 0=>[]
 | k+1=>jB r k++Jd (r.get k)
theorem kh(r:R8)(k:Nat):(jB r k).length=4*k:=by
 induction k with
 | zero=>rfl
 | succ k ih=>simp only[jB,List.length_append,ih,ia];omega
def St.jf(s:St):List UInt8:=jB (s.fK (padding s.n)).ws 8
theorem l5(s:St):s.jf.length=32:=kh _ 8
def aZ:Array Value:=(List.replicate 32 (Value.int .u8 0)).toArray
theorem yg:(prog.info? 148).map (fun i=>(i.zero,i.size))=some (some (.agg aZ),32):=ai
theorem p9:(prog.info? 148).map (·.size)=some 32:=ai
theorem RL:(prog.info? 279).map (·.size)=some 73:=ai
theorem ae6(g o:Nat)(h:o<32)(w:World):(Instr.sliceAt 148 (.pointer (some ⟨g,0,none⟩)) (some (.int .i64 (o:Nat))) none none).run prog w= .ok (.slice (some ⟨g,o,none⟩) (32-o) (32-o)) w:=by have ha:prog.arrayLen 148=32:=ai;have hu:prog.underlying 148=some (.array (prog.arrayLen 148) (prog.elem 148)):=ai;have hs:(sizeOf (prog.elem 148)).run prog w= .ok 1 w:=ai;rw[run_sliceAt_array_l w 148 ⟨g,0,none⟩ hu .i64 (o:Nat) aa (by rw[ha];omega),hs,ha];simp only[Result.andThen,slicedAt,Int.toNat_natCast,Nat.mul_one];rw[if_neg aa,Addr.add_mid,Nat.zero_add]
theorem RM(r:R8)(k:Nat)(hk:k<8):wz ((jB r k).map B8++List.replicate (32-4*k) (Value.int .u8 0)) (4*k) ((Jd (r.get k)).map B8)=(jB r (k+1)).map B8++List.replicate (32-4*(k+1)) (Value.int .u8 0):=by
 have hl:=kh r k;obtain⟨m,hm⟩: ∃m,32-4*k=4+m:=⟨28-4*k,aa⟩
 unfold wz;rw[List.length_map,ia,List.take_append_of_le_length (by simp[hl]),List.take_of_length_le (by simp[hl]),List.drop_append,hm];simp only[jB,List.map_append,List.append_assoc,List.length_map,hl];rw[List.drop_eq_nil_of_le (by simp[hl]),show 4*k+4-4*k=4 by omega,show 32-4*(k+1)=m by omega];simp
theorem sL(g:Nat)(s:St)(w:World)(hH:cG w g s)(hg:g<w.heap.size)(hK: ∀i,i<64→w.cell? ⟨2,i,none⟩=some (aX (Kc i)))(h1:2<g)(hn:s.n≤100000000):
  Calls prog 158 #[.pointer (some ⟨g,0,none⟩)] w fun e w'=>e= .returned (.agg (s.jf.map B8).toArray)∧Below w.heap.size w w':=by
 have ae7:=(zero_of_info yg).1;have hzH:=(zero_of_info Z3).1;have vw:=bt w (.cells aZ 148);have eA:(w.alloc (.cells aZ 148)).heap.size=w.heap.size+1:=ag;have hcs:(w.alloc (.cells aZ 148)).heap[g]? =some (.cells s.cells.toArray 279 (0,0)):=(vw.block g hg).trans hH.at_;have ij:=heap_alloc_last (w.alloc (.cells aZ 148)) (.cells sK 279);rw[eA]at ij;have Hz:cG ((w.alloc (.cells aZ 148)).alloc (.cells s.cells.toArray 279)) (w.heap.size+1) s:=by have h:=heap_alloc_last (w.alloc (.cells aZ 148)) (.cells s.cells.toArray 279);rw[eA]at h;exact⟨h,hH.len⟩
 have Cb:((w.alloc (.cells aZ 148)).alloc (.cells s.cells.toArray 279)).heap[w.heap.size]? =some (.cells aZ 148 (0,0)):=
  ((bt _ _).block _ (by rw[eA];omega)).trans (heap_alloc_last _ _)
 have bA:Below w.heap.size w ((w.alloc (.cells aZ 148)).alloc (.cells s.cells.toArray 279)):=vw.trans ((bt _ _).mono vw.size);have FO:((w.alloc (.cells aZ 148)).alloc (.cells s.cells.toArray 279)).heap.size=w.heap.size+1+1:=ag;have nd:=World.setRow_alloc_new (w.alloc (.cells aZ 148)) sK s.cells.toArray 279;rw[eA]at nd;have yh:=ae nd;have Xl:=s.nc hH.len;have oR:s.cells.toArray.all (·.oneCell')=true:=all_oneCell_toArray s.one;have VL:=ae (fun(w':World) (h:cG w' (w.heap.size+1) s) h2 h3=>Xk (w.heap.size+1) s w' h h2 h3 aa hn);have HK:=ae hK;clear nd vw eA hK hn hH;go_enter func158,ntmps158;go_wp2_with (first | (refine wpList_load_row rfl 279 _ rfl g rfl 279 s.cells.toArray _ _ hcs underlying279 rfl (by rw[RL];simp[Xl]) ?_) | (refine wpList_store_row rfl 279 _ _ rfl (w.heap.size+1) s.cells.toArray rfl rfl 279 sK ij (by rw[RL];simp[Xl]) (by rw[ye];simp[Xl]) oR ?_;rw[yh.out]))
 have hKW: ∀i,i<64→((w.alloc (.cells aZ 148)).alloc (.cells s.cells.toArray 279)).cell? ⟨2,i,none⟩=some (aX (Kc i)):=fun i hi=>(bA.cell (p:=⟨2,i,none⟩) (by show 2<w.heap.size;omega)).trans (HK.out i hi);have HKW:=ae hKW;have Ht:=ae FO;have HN:Hid (s.fK (padding s.n)=s.fK (padding s.n)):=ae rfl;generalize(w.alloc (.cells aZ 148)).alloc (.cells s.cells.toArray 279)=w3 at*;clear FO hcs ij yh hKW oR Xl;refine(VL.out w3 Hz (am Ht.out) HKW.out).mono ?_;rintro e w4 ⟨rfl,RJ,cY⟩;have Qd:w4.heap[w.heap.size]? =some (.cells aZ 148 (0,0)):=(cY.block _ (am Ht.out) ag).trans Cb;have bm:Below w.heap.size w w4:=bA.trans (cY.below bA.size ag);have wP:=ib RJ.at_;have HD:Hid (s.jf=jB (s.fK (padding s.n)).ws 8):=ae rfl;generalize hP:s.fK (padding s.n)=P at*;clear hP VL HKW Cb bA cY HN;have hR0:=RJ.DE;have e0:(w4.alloc (.cells aZ 148)).heap.size=w4.heap.size+1:=ag;have iE:(w4.alloc (.cells aZ 148)).rangeAt (w.heap.size+1) 0 P.ws.agg.toList:=(RJ.DF (bt _ _) wP).DE;have RN:(w4.alloc (.cells aZ 148)).heap[w.heap.size]? =some (.cells aZ 148 (0,0)):=((bt _ _).block _ aa).trans Qd;have Xm:(w4.alloc (.cells aZ 148)).heap[w4.heap.size]? =some (.cells aZ 148 (0,0)):=heap_alloc_last _ _;have eu:Below w.heap.size w (w4.alloc (.cells aZ 148)):=bm.trans ((bt _ _).mono bm.size);have iV:=ae bm.size;clear e0 bm Qd hR0;go_wp2_with (refine wpList_load_mid rfl 276 _ rfl (w.heap.size+1) 0 rfl P.ws.agg.toList _ iE underlying276 rfl ri ?_)
 generalize w4.alloc (.cells aZ 148)=w5 at*;go_loopw [17] (fun v wr=> ∃k:Nat,k≤8∧v= .int .i64 k∧wr.heap[w4.heap.size]? =some (.cells ((jB P.ws k).map B8++List.replicate (32-4*k) (Value.int .u8 0)).toArray 148 (0,0))∧wr.heap[w.heap.size]? =some (.cells aZ 148 (0,0))∧Below w.heap.size w wr) (fun v _=>(8-intOf v).toNat);case atStart=>exact⟨0,aa,rfl,by simpa [jB,aZ]using Xm,RN,eu⟩
 case round=>
  obtain⟨k,hk,rfl,hd,hr,hb⟩:=hrel;clear Xm RN eu iE RJ Hz;by_cases aH:k<8
  ·have Jb: ∀w,(Instr.index 276 (.agg P.ws.agg) (.int .i64 (k:Nat))).run prog w= .ok (aX (P.ws.get k)) w:=fun w=>eV P.ws k aH w;have hlen:((jB P.ws k).map B8++List.replicate (32-4*k) (Value.int .u8 0)).length=32:=(by simp[kh];omega);have hcut: ∀w,(Instr.sliceAt 148 (.pointer (some ⟨w4.heap.size,0,none⟩)) (some (.int .i64 (4*(k:Int)))) none none).run prog w= .ok (.slice (some ⟨w4.heap.size,4*k,none⟩) (32-4*k) (32-4*k)) w:=fun w=>ae6 w4.heap.size (4*k) aa w;have mg:=ae (RM P.ws k aH);have LH:=ae (fun wx hx=>oY w4.heap.size (4*k) (32-4*k) (32-4*k) (P.ws.get k) _ 148 wx hx (by rw[hlen];omega) aa);clear hlen;go_wp2_with fail;refine(LH.out wr hd).mono ?_;rintro e w6 ⟨rfl,hd6,sF⟩;rw[mg.out]at hd6;have AJ:=(sF.block _ (ib hr) (by have:=iV.out;simp;omega)).trans hr;have lI:=hb.trans (sF.below hb.size (by simp;exact iV.out));clear LH hd sF;go_wp2_with fail;go_roundw;case rel=>exact⟨k+1,aa,aE,hd6,AJ,lI⟩
   case measure=>simp[intOf];omega
  ·obtain rfl:k=8:=(by omega);have hD8:((jB P.ws 8).map B8++List.replicate (32-4*8) (Value.int .u8 0))=(jB P.ws 8).map B8:=ag;rw[hD8]at hd;have Z4:((jB P.ws 8).map B8).length=32:=(by rw[List.length_map,kh]);have oR:((jB P.ws 8).map B8).toArray.all (·.oneCell')=true:=all_oneCell_toArray (lU _);have hDD:s.jf.map B8=(jB P.ws 8).map B8:=(by rw[HD.out]);have LI:=ae hDD;clear hDD;generalize(jB P.ws 8).map B8=D8 at*;clear hD8;go_wp2_with (first | (refine wpList_load_row rfl 148 _ rfl w4.heap.size rfl 148 D8.toArray _ _ hd underlying148 rfl ?c1 ?_) | (refine wpList_store_row rfl 148 _ _ rfl w.heap.size D8.toArray rfl rfl 148 aZ hr ?c2 ?c3 ?c4 ?_))
   case c1=>rw[p9];simp[Z4]
   case c2=>rw[p9];simp[Z4]
   case c3=>simp[Z4,aZ]
   case c4=>exact oR
   refine bodyPost_ret (results_cell_row rfl _ _ w.heap.size 148 D8.toArray _ _ rfl (setRow_heap _ _ _ _ _ _ hr) underlying148 rfl (by rw[p9];simp[Z4])) rfl ?_;exact⟨by rw[LI.out],below_setRow hb aa _⟩
theorem Bytes.ay{A:Option Addr}{l:List UInt8}(h:Bytes w A l)(hl:0<l.length)(a:Addr)(e:A=some a):a.block<w.heap.size:=by obtain⟨b,off,rfl,hb,_⟩:=h.addr hl;injection e with e;subst e;exact hb
structure jg(w:World):Prop where
 first: ∃tt fr,w.heap[1]? =some (.cells ic.agg tt fr)
 round: ∀i,i<64→w.cell? ⟨2,i,none⟩=some (aX (Kc i))
 two:2<w.heap.size
theorem jg.only(h:jg w)(ho:aw X w w')(hX: ∀i∈X,2<i):jg w':=by
 refine⟨?_,fun i hi=> ?_,Nat.lt_of_lt_of_le h.two ho.size⟩;·obtain⟨tt,fr,hf⟩:=h.first;exact⟨tt,fr,(ho.block 1 (am h.two) (fun hm=>am (hX 1 hm))).trans hf⟩
 ·rw[←h.round i hi];unfold World.cell?;rw[ho.block 2 h.two (fun hm=>am (hX 2 hm))]
theorem jg.below(h:jg w)(hb:Below w.heap.size w w'):jg w':=h.only (ry hb) ag
theorem Nf(A:Option Addr)(l:List UInt8)(c:Nat)(w:World)(hT:jg w)(hB:Bytes w A l)(hc:l.length≤c)(hm:c≤9223372036854775807)(hn:l.length≤100000000):
  Calls prog 117 #[.slice A l.length c] w fun e w'=>e= .returned (.agg ((St.new.fK l).jf.map B8).toArray)∧Below w.heap.size w w':=by
 obtain⟨tt,fr,hf⟩:=hT.first;have ae7:=(zero_of_info yg).1;have HT:=ae hT;have vw:=bt w (.cells aZ 148);have eA:(w.alloc (.cells aZ 148)).heap.size=w.heap.size+1:=ag;have mf:(w.alloc (.cells aZ 148)).heap[w.heap.size]? =some (.cells aZ 148 (0,0)):=heap_alloc_last _ _;have h2:=hT.two;have ud:(w.alloc (.cells aZ 148)).heap[1]? =some (.cells ic.agg tt fr):=(vw.block 1 aa).trans hf;have eW:=hB.below vw;have ae8:=hB.ay;have wZ:=ae mf;have HF1:=ae ud;have RO:=ae vw;have Xn:=ae eA;clear hT vw eA mf ud hf hB;have HT1:Hid (jg (w.alloc (.cells aZ 148))):=ae (HT.out.below RO.out);go_enter func117,ntmps117;go_wp2_with fail;generalize w.alloc (.cells aZ 148)=w1 at*;refine(Nd tt fr w1 HF1.out).mono ?_;rintro e w2 ⟨rfl,Jc,aD⟩;have m7:=HT1.out.below aD;have wm:w2.heap[w.heap.size]? =some (.cells aZ 148 (0,0)):=(aD.block _ (by rw[Xn.out];omega)).trans wZ.out;have jS:Below w.heap.size w w2:=RO.out.trans (aD.mono (by rw[Xn.out];omega));have aH:=ib Jc.at_;have fC:=eW.below aD;have HWR:=ae (Ca w1.heap.size St.new A l c w2 Jc fC (fun h a e=>by have:=ae8 h a e;have:=Xn.out;omega) aH m7.round (am Xn.out) hc hm (by show 0+l.length≤_;omega));have HL2:Hid (w.heap.size<w2.heap.size):=ae (am Xn.out);have AX:=ae wm;have qD:=ae m7;have AG:=ae aH;clear Jc aD wm fC eW ae8 m7 aH;go_wp2_with fail;refine HWR.out.mono ?_;rintro e w3 ⟨rfl,Hz,fE⟩;have lh:=qD.out.only fE (by simp;have:=Xn.out;omega);have Cb:=(fE.block _ HL2.out (by simp;have:=Xn.out;omega)).trans AX.out;have bA:Below w.heap.size w w3:=jS.trans (fE.below (Nat.le_of_lt HL2.out) (by simp;have:=Xn.out;omega));have FO:=fE.size;have HS:=ae (sL w1.heap.size (St.new.fK l) w3 Hz (ib Hz.at_) lh.round (am Xn.out) (by rw[St.RB];show 0+l.length≤_;omega));have RP:=ae Cb;have HL3:Hid (w.heap.size<w3.heap.size):=ae (am HL2.out);clear Hz fE Cb jS;go_wp2_with fail;refine HS.out.mono ?_;rintro e w4 ⟨rfl,bm⟩;have Qd:=(bm.block _ HL3.out).trans RP.out;have Z4:((St.new.fK l).jf.map B8).length=32:=by rw[List.length_map,l5]
 have oR:((St.new.fK l).jf.map B8).toArray.all (·.oneCell')=true:=all_oneCell_toArray (lU _);have eu:Below w.heap.size w w4:=bA.trans (bm.mono (Nat.le_of_lt HL3.out));generalize hD:(St.new.fK l).jf.map B8=D8 at*;have HD:=ae hD;clear hD bA bm FO;go_wp2_with (refine wpList_store_row rfl 148 _ _ rfl w.heap.size D8.toArray rfl rfl 148 aZ Qd ?c2 ?c3 ?c4 ?_)
 case c2=>rw[p9];simp[Z4]
 case c3=>simp[Z4,aZ]
 case c4=>exact oR
 refine bodyPost_ret (results_cell_row rfl _ _ w.heap.size 148 D8.toArray _ _ rfl (setRow_heap _ _ _ _ _ _ Qd) underlying148 rfl (by rw[p9];simp[Z4])) rfl ?_;exact⟨by rw[HD.out],below_setRow eu aa _⟩
section
open Go.ChangeShapes Go.WideShapes Go.ChangeAt Go.RowKit
theorem qL{H:Type}{enc:TypeId×Value→H}{W:World}{base:Nat}{sp:Nat→Bool}{held:Bool}{fuel:Nat}{t e:TypeId}{cs:List Value}{k:IntKind}{n:Nat}{ls:List Int}{ps:List MemPlace}
  (ht:prog.underlying t=some (.array n e)) (he:prog.underlying e=some (.int k)) (ce:prog.cellsOf e=1) (ct:prog.cellsOf t=n)
  (h:DataW.trod enc prog W base sp held fuel t cs=some (.agg (ls.map fun x=> .lit (.int k x)),ps)):cs=ls.map fun x=> .int k x:=by
 obtain⟨xs,m,rfl,hx,hlen,hn,hel⟩:=DataW.trod_array ht h;rw[ct]at hlen;simp only[Prod.mk.injEq,DataW.agg.injEq]at hx;have Di:ls.length=n:=by have:=congrArg List.length hx.1;simpa [hn]using this
 refine List.ext_getElem (by simp[hlen,Di]) fun i h1 h2=> ?_;have hi:=hel i aa;rw[ce,Nat.mul_one,List.getElem?_eq_getElem aa]at hi;obtain⟨z,e1,e2,_⟩:=DataW.trod_int he hi;have h3:xs[i].1= .lit (.int k ls[i]):=by have:=congrArg (fun l:List (DataW H)=>l[i]?) hx.1;simp only[List.getElem?_map]at this;rw[List.getElem?_eq_getElem (show i<ls.length by omega),List.getElem?_eq_getElem (show i<xs.length by omega)]at this;simpa using this.symm
 rw[e2]at h3;have hz:z=ls[i]:=by simpa using h3
 have h4:(cs.drop i).take 1=[cs[i]]:=by rw[List.drop_eq_getElem_cons h1];rfl
 rw[h4]at e1;rw[List.getElem_map,←hz];simpa using e1
theorem aaR:prog.globalNamed "winepress/sha256.firstWords" =some 1:=ai
theorem aaS:prog.globalNamed "winepress/sha256.roundWords" =some 2:=ai
theorem aaT:(prog.globals[1]?).map (·.type)=some 276:=ai
theorem aaU:(prog.globals[2]?).map (·.type)=some 305:=ai
abbrev FP:List (String×DataW Unit):=[("winepress/sha256.firstWords",Rows.laid_winepress_sha256_firstWords),("winepress/sha256.roundWords",Rows.laid_winepress_sha256_roundWords)]
def RT:List Int:=[1779033703,3144134277,1013904242,2773480762,1359893119,2600822924,528734635,1541459225]
theorem lens:ic.agg.toList=RT.map fun x=> .int .u32 x:=by rfl
theorem afb:Rows.laid_winepress_sha256_firstWords (H:=Unit)= .agg (RT.map fun x=> .lit (.int .u32 x)):=by rfl
def Jg:List Int:=Rx.map fun x=>(x.toNat:Int)
theorem afc:Rows.laid_winepress_sha256_roundWords (H:=Unit)= .agg (Jg.map fun x=> .lit (.int .u32 x)):=by rfl
theorem DI{W:World}(h:laidMet prog FP W):jg W:=by
 obtain⟨ps,⟨g0,t0,cs0,f0,p0,q0,Az,Wl,Bd,hd0,⟨g1,t1,cs1,f1,p1,q1,kz,ht1,Ia,iz,_,_⟩,_⟩,_,_⟩:=h;obtain rfl:=Option.some.inj (aaR.symm.trans Az);obtain rfl:=Option.some.inj (aaS.symm.trans kz);obtain rfl:=Option.some.inj (aaT.symm.trans Wl);obtain rfl:=Option.some.inj (aaU.symm.trans ht1);rw[afb]at hd0;rw[afc]at iz;have Dz:=qL (n:=8) ai underlying24 ai ai hd0;have cC:=qL (n:=64) ai underlying24 ai ai iz;refine⟨?_,fun i hi=> ?_,?_⟩
 ·unfold World.var? at Bd;rw[Az]at Bd;simp only[Option.bind_some]at Bd;split at Bd;·rename_i cs t fr hh;refine⟨t,fr,?_⟩;rw[hh];injection Bd with Bd;subst Bd;rw[←lens]at Dz;rw[show cs=ic.agg from Array.toList_inj.1 Dz]
  ·cases Bd
 ·rw[World.var?_cell kz Ia i];obtain⟨l⟩:=cs1;simp only at cC;subst cC;unfold Jg;have hk:i<Rx.length:=hi;simp only[List.getElem?_toArray,List.getElem?_map,List.getElem?_eq_getElem hk,Option.map_some];unfold Kc;rw[List.getD_eq_getElem?_getD,List.getElem?_eq_getElem hk];rfl
 ·unfold World.var? at Ia;rw[kz]at Ia;simp only[Option.bind_some]at Ia;split at Ia;·rename_i hh;exact ib hh
  ·cases Ia
noncomputable def Cc(os:Os):World:=
 let w0:=World.holding prog os ⟨#[],#[],[]⟩
 let lay (l:List Int):Obj→Obj
  | .cells _ t frozen=> .cells (l.map fun x=> .int .u32 x).toArray t frozen
  | o=>o
 {w0 with heap:=(w0.heap.modify 1 (lay RT)).modify 2 (lay Jg)}
theorem Be(os:Os)(args:Array Value):laidMet prog FP ((Cc os).forCall (fun _ _=>0) ⟨#[],args,[]⟩).memory:=
 laidMet_of_run' 8 ai ai
end
def bF(w:World)(L:List UInt8)(e:Ending)(w':World):Prop:= ∃A c,e= .returned (.slice A L.length c)∧L.length≤c∧c≤9223372036854775807∧Bytes w' A L∧Below w.heap.size w w'
def iP(v:Nat):Nat→List UInt8
 | 0=>[]
 | n+1=>UInt8.ofNat (v%256)::iP (v/256) n
theorem fO(n:Nat): ∀v,(iP v n).length=n:=by
 induction n with
 | zero=>intro v;rfl
 | succ n ih=>intro v;simp[iP,ih]
theorem TC(n:Nat): ∀(v i:Nat) (h:i<(iP v n).length),(iP v n)[i]=UInt8.ofNat (v/2^(8*i)%256):=by
 induction n with
 | zero=>intro v i h;simp[iP]at h
 | succ n ih=>
  intro v i h;cases i with
  | zero=>simp[iP]
  | succ i=>
   simp only[iP,List.getElem_cons_succ];rw[ih (v/256) i (by simpa [iP]using h),Nat.div_div_eq_div_mul,show 8*(i+1)=8*i+8 by omega,Nat.pow_add,Nat.mul_comm]
def Ej:List UInt8→Nat
 | []=>0
 | b::l=>b.toNat+256*Ej l
def qh(w:World)(L:List UInt8)(e:Ending)(w':World):Prop:= ∃v,e= .returned v∧Own w.heap.size w' v L∧Below w.heap.size w w'
theorem qh.bytes{e:Ending}(h:qh w L e w'):bF w L e w':=by obtain⟨v,rfl,ho,hb⟩:=h;obtain⟨A,c,rfl,h1,h2,h3⟩:=ho.read;exact⟨A,c,rfl,h1,h2,h3,hb⟩
theorem TD(h:w.heap[g]? =some (.cells ((L.take k).map B8++List.replicate (n-k) (Value.int .u8 0)).toArray 5 (0,0)))(hL:L.length=n)(hk:k<n):
  (w.setCell ⟨g,k,none⟩ (B8 (L[k]'aa))).heap[g]? =some (.cells ((L.take (k+1)).map B8++List.replicate (n-(k+1)) (Value.int .u8 0)).toArray 5 (0,0)):=by
 rw[heap_set h k];congr 3;have hl:((L.take k).map B8).length=k:=by rw[List.length_map,List.length_take];omega
 obtain⟨m,hm⟩: ∃m,n-k=m+1:=⟨n-k-1,aa⟩
 rw[hm,List.replicate_succ,show n-(k+1)=m by omega,List.take_succ_eq_append_getElem aa,List.map_append,List.append_assoc];have:=Xj ((L.take k).map B8) (List.replicate m (Value.int .u8 0)) (.int .u8 0) (B8 (L[k]'aa)) k hl;rw[this];rfl
theorem kX(v n:Nat)(hv:v<18446744073709551616)(hn:n≤8)(w:World):
  Calls prog 47 #[.int .u64 (v:Nat),.int .i64 (n:Nat)] w (qh w (iP v n)):=by
 obtain⟨i,hi,kw,eQ,oC⟩:=info_parts oK;have Nb:i.bytes*n≤281474976710656:=mW;have un:n≤maxLen:=fF;have HG:=ae (TC n v);have HL:=ae (fO n v);generalize hLL:iP v n=L at*;clear hLL;have pX:(n:Int)≤8:=aa;have Bd:(0:Int)≤(v:Int):=aa;have Ia:(v:Int)<18446744073709551616:=aa;go_enter func47,ntmps47;go_wp2_with (refine wpList_make_full _ rfl _ _ 22 rfl w.heap.size 5 i (.int .u8 0) 1 underlying22 hi kw eQ _ _ _ _ n rfl rfl aa aa Nb un (Nat.le_refl _) ?_;intro w1 d7 kz;rw[LG]at d7;have H7:=sJ d7)
 have az:Below w.heap.size w w1:=ao (Below.refl _ _) kz (Nat.le_refl _) ag;go_loopw [11] (fun a wr=> ∃k:Nat,k≤n∧a= .int .i64 k∧wr.heap[w.heap.size]? =some (.cells ((L.take k).map B8++List.replicate (n-k) (Value.int .u8 0)).toArray 5 (0,0))∧Below w.heap.size w wr) (fun a _=>(n-intOf a).toNat);case atStart=>exact⟨0,aa,rfl,by simpa using H7,az⟩
 case round=>
  clear H7 d7 kz az;obtain⟨k,hk,rfl,hh,hb⟩:=hrel;by_cases aH:k<n
  ·have mv:=TD hh HL.out aH;have Fg:=HG.out k (by rw[HL.out];exact aH);rw[Fg]at mv;have⟨b,hbv⟩:=ex (UInt8.ofNat (v/2^(8*k)%256));rw[hbv]at mv;have hx:(v:Int)/2^(8*k)%256=(b.toNat:Int):=(by rw[←hbv,UInt8.toNat_ofNat'];have e:((2:Int)^(8*k))=((2^(8*k):Nat):Int):=(by rw[Int.natCast_pow];rfl);rw[e,←Int.natCast_ediv];generalize v/2^(8*k)=q;omega);have hc:wr.cell? ⟨w.heap.size,k,none⟩=some (.int .u8 0):=(by rw[cell_of_row _ _ _ _ _ _ hh,List.getElem?_toArray,List.getElem?_append_right av];simp only[List.length_map,List.length_take];rw[Nat.min_eq_left (by rw[HL.out];omega),Nat.sub_self,List.getElem?_replicate,if_pos aa]);have hf:=vx hh k;have aD:=hb.setCell (p:=⟨w.heap.size,k,none⟩) (Nat.le_refl _) (B8 b);have mg:=ae mv;have Js:(k:Int)<(n:Int):=aa;have ht:(8*(k:Int)).toNat=8*k:=aa;have h64:8*(k:Int)≤64:=aa;have avY:0≤8*(k:Int):=aa;clear mv Fg hbv hh;go_wp2_with fail;go_roundw;case rel=>exact⟨k+1,aa,aE,mg.out,aD⟩
   case measure=>simp[intOf];omega
  ·obtain rfl:k=n:=(by omega);have LF:(L.take k).map B8++List.replicate (k-k) (Value.int .u8 0)=L.map B8:=(by rw[List.take_of_length_le (by rw[HL.out];exact Nat.le_refl _)];simp);rw[LF]at hh;go_wp2_with fail;go_ret;refine⟨_,rfl,⟨?_,.inr ⟨w.heap.size,k,(L.map B8).toArray,?_,Nat.le_refl _,hh,?_,un,?_,?_⟩⟩,hb⟩;·simp
   ·rw[HL.out];rfl
   ·rw[HL.out];exact Nat.le_refl _
   ·simp[HL.out]
   ·rw[List.take_of_length_le ag]

def zn(a b:Int):Int:=a*b/18446744073709551616
def TE(a b:Int):Int:=a*b%18446744073709551616
def l_(y:Int):Int:=(TE (zn y y) y+zn (TE y y) y)%18446744073709551616
def abM(y:Int):Int:=if l_ y<TE (zn y y) y then zn (zn y y) y+1 else zn (zn y y) y
def cb(n:Int):Nat→Int
 | 0=>0
 | k+1=>if abM (cb n k+2^(35-k))=0∧l_ (cb n k+2^(35-k))/4294967296<n then cb n k+2^(35-k)else cb n k




theorem iI{ops:Array Oper}{o:Oper}{a:Act}{K:Act→World→Prop}{Q:Exit→Act→World→Prop}(mb:o.guard=none)(s x:Operand)
  (ho:o.op= .call {callee:= .builtin .append,args:= #[s,x],argTypes:= #[22,22]})
  (base:Nat) (w:World) (v:Value) (xs:List UInt8) (hs:a.eval s=v) (aK:Own base w v xs) (A:Option Addr) (l:List UInt8) (c:Nat) (hx:a.eval x= .slice A l.length c) (hB:Bytes w A l)
  (dl:xs.length+l.length≤140737488355328) (bR:base≤w.heap.size)
  (h: ∀v' w',Own base w' v' (xs++l)→w.grownBy w' v.ownBlock→K (a.put o.dst v') w'):if Region.wanted o (yielded ops a.tmps)=true then Oper.wp prog o a w K Q else K (a.put o.dst undef) w:=by
 rw[if_pos tY];obtain⟨v',w',hr,h2,h3⟩:=fT base o.type w v xs aK A l c hB dl bR;unfold Oper.wp execOp;simp only[ho,resolve,invoke,builtin,Sem.run_bind,Sem.run_pure,Result.andThen_ok,List.map_toArray,List.map_cons,List.map_nil,hs,hx,hr];exact h v' w' h2 h3
namespace cK
def s1(p x:BitVec n):BitVec n:=(x >>> 1) ^^^ (if x.getLsbD 0 then p else 0#n)
def sn(p:BitVec n):Nat→BitVec n→BitVec n
 | 0,x=>x
 | k+1,x=>sn p k (s1 p x)
theorem zo(p:BitVec n)(j k:Nat)(x:BitVec n):sn p (j+k) x=sn p k (sn p j x):=by
 induction j generalizing x with
 | zero=>simp[sn]
 | succ j ih=>rw[Nat.succ_add];simp only[sn];exact ih _
theorem GA(p:BitVec n)(k:Nat)(x:BitVec n):sn p (k+1) x=s1 p (sn p k x):=by rw[zo];rfl
theorem abN(p x y:BitVec n):s1 p (x ^^^ y)=s1 p x ^^^ s1 p y:=by unfold s1;apply BitVec.eq_of_getLsbD_eq;intro i hi;cases hx:x.getLsbD 0<;>cases hy:y.getLsbD 0<;>simp[hx,hy]<;>(first | done | (cases x.getLsbD (1+i)<;>cases y.getLsbD (1+i)<;>cases p.getLsbD i<;>rfl))
theorem J6(p:BitVec n)(k:Nat)(x y:BitVec n):sn p k (x ^^^ y)=sn p k x ^^^ sn p k y:=by
 induction k generalizing x y with
 | zero=>rfl
 | succ k ih=>simp only[sn];rw[abN,ih]
theorem Yy(p:BitVec n)(k:Nat):sn p k 0#n=0#n:=by
 induction k with
 | zero=>rfl
 | succ k ih=>
  have h:s1 p 0#n=0#n:=by unfold s1;simp
  simp only[sn];rw[h];exact ih
theorem Ma(p:BitVec n)(k:Nat)(x:BitVec n)(h: ∀i,i<k→x.getLsbD i=false):sn p k x=x >>> k:=by
 induction k generalizing x with
 | zero=>simp[sn]
 | succ k ih=>
  have h0:=h 0 aa;have h1:s1 p x=x >>> 1:=by unfold s1;simp[h0]
  simp only[sn];rw[h1,ih (x >>> 1) (by intro i hi;simp only[BitVec.getLsbD_ushiftRight];exact h _ aa)];rw[Nat.add_comm k 1,BitVec.shiftRight_add]
def low(x:BitVec n):BitVec n:=(x.setWidth 8).setWidth n
theorem Mb(x:BitVec n)(i:Nat):(low x).getLsbD i=(decide (i<8)&&x.getLsbD i):=by
 unfold low;rw[BitVec.getLsbD_setWidth,BitVec.getLsbD_setWidth];by_cases h:i<n;·simp[h]
 ·simp[h,BitVec.getLsbD_of_ge _ _ (Nat.le_of_not_lt h)]
theorem xg(p x:BitVec n):sn p 8 x=(x >>> 8) ^^^ sn p 8 (low x):=by
 have e:x=(x ^^^ low x) ^^^ low x:=by rw[BitVec.xor_assoc,BitVec.xor_self,BitVec.xor_zero]
 have h:sn p 8 (x ^^^ low x)=(x ^^^ low x) >>> 8:=Ma p 8 _ (by
  intro i hi;rw[BitVec.getLsbD_xor,Mb];simp[hi])
 have h2:(x ^^^ low x) >>> 8=x >>> 8:=by apply BitVec.eq_of_getLsbD_eq;intro i hi;simp only[BitVec.getLsbD_ushiftRight,BitVec.getLsbD_xor,Mb];simp[show ¬8+i<8 by omega]
 conv=>lhs;rw[e]
 rw[J6,h,h2]
def ext(n:Nat)(b:UInt8):BitVec n:=b.toBitVec.setWidth n
def V8(p:BitVec n)(x:BitVec n)(b:UInt8):BitVec n:=sn p 8 (x ^^^ ext n b)
def iQ(p:BitVec n)(x:BitVec n)(l:List UInt8):BitVec n:=l.foldl (V8 p) x
theorem vU(p x:BitVec n)(a b:List UInt8):iQ p x (a++b)=iQ p (iQ p x a) b:=by unfold iQ;rw[List.foldl_append]
theorem Ek(n:Nat)(b:UInt8)(i:Nat)(hi:8≤i):(ext n b).getLsbD i=false:=by unfold ext;rw[BitVec.getLsbD_setWidth,BitVec.getLsbD_of_ge _ _ hi];simp
end cK
namespace C3
def l9:BitVec 32:=3988292384#32
theorem GB(a b:BitVec 32):bits .xor .u32 (a.toNat:Int) (b.toNat:Int)=((a ^^^ b).toNat:Int):=by rw[u32_xor_nat _ _ a.isLt b.isLt,BitVec.toNat_xor]
theorem TF(a:BitVec 32):bits .and .u32 (a.toNat:Int) 1=((a.toNat%2:Nat):Int):=by rw[show(1:Int)=((1:Nat):Int)from rfl,u32_and_nat _ _ a.isLt aa,nat_mask1]
theorem TG(a:BitVec 32):a.getLsbD 0=decide (a.toNat%2=1):=by rw[BitVec.getLsbD,Nat.testBit_zero]
theorem TH(a:BitVec 32):(a.toNat:Int)/(2:Int)=((a >>> 1).toNat:Int):=by rw[BitVec.toNat_ushiftRight,Nat.shiftRight_eq_div_pow];simp
theorem J7(x:BitVec 32)(h:(bits .and .u32 (x.toNat:Int) 1==1)=true):bits .xor .u32 ((x.toNat:Int)/2) 3988292384=((cK.s1 l9 x).toNat:Int):=by
 have h1:x.getLsbD 0=true:=by rw[TF]at h;rw[TG];simp at h ⊢;omega
 rw[TH,show(3988292384:Int)=((l9.toNat:Nat):Int)from rfl,GB];unfold cK.s1;rw[h1];simp
theorem TI(x:BitVec 32)(h:(bits .and .u32 (x.toNat:Int) 1==1)=false):(x.toNat:Int)/2=((cK.s1 l9 x).toNat:Int):=by
 have h1:x.getLsbD 0=false:=by rw[TF]at h;rw[TG];simp at h ⊢;omega
 rw[TH];unfold cK.s1;rw[h1];simp
theorem Bt(r:BitVec 32)(w:World):
  Calls prog 237 #[.int .u32 r.toNat] w fun e w'=>e= .returned (.int .u32 (cK.sn l9 8 r).toNat)∧w=w':=by
 go_enter func237,ntmps237;go_wp2;go_loop [0,4] (fun a i=> ∃(k:Nat),k≤8∧i= .int .i64 k∧a= .int .u32 (cK.sn l9 k r).toNat) (fun _ i=>8-(intOf i).toNat);case atStart=>exact⟨0,aa,rfl,rfl⟩
 case round=>
  obtain⟨k,hk,rfl,rfl⟩:=hrel;by_cases h:k<8
  ·have hs:=ae (cK.GA l9 k r);generalize cK.sn l9 k r=x at*;go_wp2
   ·go_round;case rel=>exact⟨k+1,aa,aE,by rw[hs.out,←J7 x rk]⟩
    case measure=>simp[intOf];omega
   ·go_round;case rel=>exact⟨k+1,aa,aE,by rw[hs.out,←TI x rk]⟩
    case measure=>simp[intOf];omega
  ·obtain rfl:k=8:=(by omega);go_wp2;go_ret;exact⟨rfl,rfl⟩
end C3
namespace C3
def fP:Array Value:=Array.replicate 1024 (.int .u32 0)
theorem TJ:(prog.info? 270).map (fun i=>(i.zero,i.size))=some (some (.agg fP),1024):=ai
theorem yg:(prog.info? 268).map (·.size)=some 256:=ai
def T(j:Nat):BitVec 32:=cK.sn l9 (8*(j/256+1)) (BitVec.ofNat 32 (j%256))
def tabs:Array Value:=((List.range 1024).map fun i=>Value.int .u32 (T i).toNat).toArray
theorem xh:(prog.info? 270).map (·.size)=some 1024:=ai
def ga(k j:Nat):Value:=if j<k then .int .u32 (T j).toNat else .int .u32 0
theorem Bu(n:Nat)(hn:n<4294967296)(w:World):
  Calls prog 237 #[.int .u32 n] w fun e w'=>e= .returned (.int .u32 (cK.sn l9 8 (BitVec.ofNat 32 n)).toNat)∧w=w':=by
 have h:=Bt (BitVec.ofNat 32 n) w;have e:(BitVec.ofNat 32 n).toNat=n:=av;rwa [e]at h
theorem tj(k:Nat): ∀i,(if i=k then Value.int .u32 (T k).toNat else ga k i)=ga (k+1) i:=by
 intro i;unfold ga;by_cases h:i=k;·subst h;simp
 ·by_cases h2:i<k;·simp[h,h2,show i<k+1 by omega]
  ·simp[h,h2,show ¬i<k+1 by omega]
theorem TK(k:Nat)(h:k<256):T k=cK.sn l9 8 (BitVec.ofNat 32 k):=by unfold T;rw[Nat.div_eq_of_lt h,Nat.mod_eq_of_lt h]
def seg(k:Nat):List Value:=(List.range 256).map fun i=>ga (256*k) (256*(k-1)+i)
theorem Oo(r:w.rowIs g 270 1024 (ga (256*k)))(h1:1≤k)(h:k<4):w.rangeAt g ((k-1)*256) (seg k):=by
 intro j v hv;unfold seg at hv;rw[List.getElem?_map]at hv;by_cases hj:j<256;·rw[List.getElem?_range hj]at hv;simp at hv;subst hv;rw[Nat.mul_comm (k-1) 256];exact r.cell aa
 ·rw[List.getElem?_eq_none av]at hv;simp at hv
theorem pA{j:Nat}(h:j<k):ga k j= .int .u32 (T j).toNat:=by unfold ga;rw[if_pos h]
theorem Oq(k j:Nat)(hj:j<256)(hk:1≤k)(w:World):(Instr.index 268 (.agg (seg k).toArray) (.int .i64 j)).run prog w= .ok (.int .u32 (T (256*(k-1)+j)).toNat) w:=by
 have hs:(prog.info? 24).map (·.size)=some 1:=ai;have hg:(seg k)[j]? =some (.int .u32 (T (256*(k-1)+j)).toNat):=by unfold seg;rw[List.getElem?_map,List.getElem?_range hj];simp[pA (show 256*(k-1)+j<256*k by omega)]
 cases hq:prog.info? 24 with
 | none=>rw[hq]at hs;simp at hs
 | some i=>
  have dl:i.size=1:=by rw[hq]at hs;simpa using hs
  simp[Instr.index,asIntOf,run_underlying underlying268,Sem.run_bind,sizeOf,typeInfo,hq,dl,part,hg,hj]
theorem Yz(v:BitVec 32): ∃m:Nat,m<256∧m=v.toNat%256∧IntKind.u8.wrap (v.toNat:Int)=(m:Int):=
 ⟨v.toNat%256,Nat.mod_lt _ aa,rfl,Db⟩
theorem abP(k j:Nat)(hk:1≤k):T (256*k+j)=(T (256*(k-1)+j) >>> 8) ^^^ T ((T (256*(k-1)+j)).toNat%256):=by
 have e1:T (256*k+j)=cK.sn l9 8 (T (256*(k-1)+j)):=by unfold T;rw[←cK.zo,show(256*(k-1)+j)%256=(256*k+j)%256 by omega];congr 1;omega
 generalize T (256*(k-1)+j)=v at*;rw[e1,cK.xg,TK _ (Nat.mod_lt _ aa)];congr 2;unfold cK.low;apply BitVec.eq_of_toNat_eq;simp only[BitVec.toNat_setWidth,BitVec.toNat_ofNat]
theorem tk(w:World):(w.alloc (.cells fP 270)).rowIs w.heap.size 270 1024 (ga 0):=by
 have h:=World.rowIs_alloc w fP 270 (ga 0) (fun i hi=>by
  unfold fP at hi ⊢;rw[Array.getElem?_replicate,if_pos iZ];simp[ga])
 have e:fP.size=1024:=by simp[fP]
 rwa [e]at h
theorem xj(hn:cs.size=1024)(hv: ∀i,i<1024→cs[i]? =some (ga (256*4) i)):cs=tabs:=by
 apply Array.ext_getElem?;intro i;by_cases hi:i<1024;·rw[hv i hi,pA aa];unfold tabs;rw[List.getElem?_toArray,List.getElem?_map,List.getElem?_range hi];rfl
 ·rw[Array.getElem?_eq_none aa,Array.getElem?_eq_none (by simp[tabs];omega)]
theorem TL(hn:cs.size=1024)(hv: ∀i,i<1024→cs[i]? =some (ga (256*4) i)):cs.all (·.oneCell')=true:=by rw[xj hn hv];unfold tabs;rw[List.all_toArray,List.all_map,List.all_eq_true];intro x _;rfl
theorem J8(w:World):
  Calls prog 196 #[] w fun e w'=>e= .returned (.agg tabs)∧Below w.heap.size w w':=by
 have hz:=(zero_of_info TJ).1;go_enter func196,ntmps196;go_wp2_with fail;have h0:((w.alloc (.cells fP 270)).alloc (.cells fP 270)).rowIs w.heap.size 270 1024 (ga 0):=(tk w).alloc _;have h1:((w.alloc (.cells fP 270)).alloc (.cells fP 270)).rowIs (w.heap.size+1) 270 1024 (ga 0):=by have:=tk (w.alloc (.cells fP 270));simpa using this
 have hb:Below w.heap.size w ((w.alloc (.cells fP 270)).alloc (.cells fP 270)):=(ar).alloc ag _;generalize(w.alloc (.cells fP 270)).alloc (.cells fP 270)=w1 at*;generalize hg:w.heap.size+1=g at*;have kz:w.heap.size<g:=aa;have HG:=ae hg;clear hg;go_loopw [6] (fun i wr=> ∃k:Nat,k≤256∧i= .int .i64 k∧wr.rowIs w.heap.size 270 1024 (ga 0)∧wr.rowIs g 270 1024 (ga k)∧Below w.heap.size w wr) (fun i _=>256-(intOf i).toNat);case atStart=>exact⟨0,aa,rfl,h0,h1,hb⟩
 case round=>
  obtain⟨k,hk,rfl,r0,r1,rb⟩:=hrel;by_cases h:k<256
  ·have hc:=r1.cell (i:=k) aa;have hf:=r1.frozen k;go_wp2_with fail;refine(Bu k aa _).mono ?_;rintro e w' ⟨rfl,rfl⟩;go_wp2_with fail;go_roundw;case rel=>refine⟨k+1,aa,aE,r0.setOther av _,?_,rb.setCell av _⟩;refine(r1.set k _).congr fun i _=> ?_;rw[←TK k h];exact tj k i
   case measure=>simp[intOf];omega
  ·obtain rfl:k=256:=(by omega);go_wp2_with fail;clear h0 h1 hb hk h;go_loopw [3] (fun i wr=> ∃k:Nat,1≤k∧k≤4∧i= .int .i64 k∧wr.rowIs w.heap.size 270 1024 (ga 0)∧wr.rowIs g 270 1024 (ga (256*k))∧Below w.heap.size w wr) (fun i _=>4-(intOf i).toNat);case atStart=>exact⟨1,aa,aa,rfl,r0,r1,rb⟩
   case round=>
    obtain⟨k,iy,hk,rfl,r0,r1,rb⟩:=hrel;by_cases h:k<4
    ·have ru:=Oo r1 iy h;go_wp2_with (refine wpList_load_mid rfl 268 _ rfl g ((k-1)*256) rfl (seg k) _ ru underlying268 rfl ?c0 ?_)
     case c0=>rw[yg];simp[seg]
     clear ru;obtain⟨wo,rfl⟩: ∃wo:World,wo=wr:=⟨_,rfl⟩
     go_loopw [24] (fun i wr=> ∃j:Nat,j≤256∧i= .int .i64 j∧wr.rowIs w.heap.size 270 1024 (ga 0)∧wr.rowIs g 270 1024 (ga (256*k+j))∧Below w.heap.size w wr) (fun i _=>256-(intOf i).toNat);case atStart=>exact⟨0,aa,rfl,r0,r1,rb⟩
     case round=>
      clear r0 r1 rb;obtain⟨j,hj,rfl,r0,r1,rb⟩:=hrel;by_cases aH:j<256
      ·have Jb:=Oq k j aH iy;have hm:=Yz (T (256*(k-1)+j));have hT:=ae (abP k j iy);generalize T (256*(k-1)+j)=v at*;obtain⟨m,BV,wT,hmw⟩:=hm;have cC:=r1.cell (i:=m) aa;have cU:=r1.cell (i:=k*256+j) aa;have hf:=r1.frozen (k*256+j);rw[pA aa]at cC;have Hmv:=ae wT;clear wT;go_wp2_with fail;go_region
       all_goals
        go_wp2_with fail;go_roundw;case rel=>refine⟨j+1,aa,aE,r0.drew.setOther av _,?_,rb.drew.setCell av _⟩;refine(r1.drew.set _ _).congr fun i _=> ?_;have e:(v.toNat:Int)/(256:Int)=((v >>> 8).toNat:Int):=(by rw[BitVec.toNat_ushiftRight,Nat.shiftRight_eq_div_pow];simp);rw[←Nat.add_assoc,←tj,hT.out,←Hmv.out,e,GB,Nat.mul_comm k 256]
        case measure=>simp[intOf];omega
      ·obtain rfl:j=256:=(by omega);go_wp2_with fail;go_roundw;case rel=>
        (repeat apply Exists.intro)
        exact⟨⟨k+1,aa,aa,aE,r0,by rw[Nat.mul_add];exact r1,rb⟩,rfl⟩
       case measure=>simp[intOf];omega
    ·obtain rfl:k=4:=(by omega);obtain⟨cs,hcs,hn,hv⟩:=r1;obtain⟨os,B6,ya,hvo⟩:=r0;go_wp2_with (first | (refine wpList_load_row rfl 270 _ rfl g rfl 270 cs _ _ hcs underlying270 rfl ?c1 ?_) | (refine wpList_store_row rfl 270 _ _ rfl w.heap.size cs rfl rfl 270 os B6 ?c2 ?c3 ?c4 ?_))
     case c1=>rw[xh,hn]
     case c2=>rw[xh,hn]
     case c3=>rw[ya,hn]
     case c4=>exact TL hn hv
     refine bodyPost_ret (results_cell_row rfl _ _ w.heap.size 270 cs _ _ rfl (setRow_heap _ _ _ _ _ _ B6) underlying270 rfl (by rw[xh,hn])) rfl ?_;refine⟨?_,?_⟩;·rw[xj hn hv]
     ·have aH:w.heap.size≤w.heap.size:=Nat.le_refl _;exact below_setRow rb aH _
end C3
end Go.Proofs.YtfcaoggfnkhfiaaGreatDoor
