/- BlockPacks: for every input the law returns true, and its arguments read as before. -/
import Derived.Test.YtgfpocdiojifoaaGreatDoorCards
import Derived.Test.YtgfpocdiojifoaaGreatDoorTie
import Derived.SevenTiedAt
import Derived.Test.YtgfpocdiojifoaaGreatDoorZ31
namespace Go.Proofs.YtgfpocdiojifoaaGreatDoor
set_option maxRecDepth 100000
set_option maxHeartbeats 8000000
open Go.RowKit Go.Proofs.Tryz
section
open Go.ChangeShapes Go.WideShapes Go.ChangeAt Go.RowKit
theorem blockPacks_lifted(os:Os)(started:os.Started)(H:Type)(enc:TypeId×Value→H):
  ReturnsInHanded {} checked os 3 .any (fun w args=>(Rows.blockPacksSpec.pre enc prog Tryz.f3 [] false w args∧laidMet prog D0 w)∧sizedMet enc prog Tryz.f3 (OpenSpec.ofChange Rows.blockPacksSpec) false w args) (Rows.blockPacksSpec.post enc prog Tryz.f3 false true false false):=by
 refine returnsInHanded_of_change_and (C:=checked) (X:=fun w _=>laidMet prog D0 w) (fun _ _ _ hh h=>h.of_heap hh) Tryz.own started ak func3
  (ChangeSpec.witness_at (enc:=enc) (C:=checked) (os:=os) (X:=fun w _=>laidMet prog D0 w) false (zP os) #[.slice none 0 0,.agg #[.int .i64 0,.int .i64 0,.int .i64 0,.int .i64 0,.int .i64 0,.int .i64 0,.int .i64 0,.slice none 0 0,.int .u32 0]] 8 rfl ak ak ak ak ak (yZ os _)) ?_
 intro W base args ds gs before agN hW _ _ hL _;have hval: ∀(j:Nat) t v,Tryz.f3.params[j]? =some t→args[j]? =some v→Value.okWide prog W .any base t v:=agN;have hW':=hW;obtain⟨p,q,hA0,hV,rfl,_,_⟩:=hW;have hA:DataW.TrodAll enc prog W 0 (fun _=>true) true Tryz.f3.params.toList args.toList ds p:=hA0;rw[params3]at hA hval;obtain⟨v0,v1,d0,d1,p0,p1,rfl,rfl,rfl,h0,h1⟩:=trodAll_two hA;obtain⟨rfl,rfl⟩:=trodVars_none hV;obtain⟨A0,l0,c0,rfl,uB,Em,Kr⟩:=D4 (hval 0 22 v0 rfl rfl) h0;obtain⟨o1,rfl,hF1,anQ,WI,anR,anS⟩:=Jd (hval 1 26 v1 rfl rfl) h1;have anT:=FP A0 l0 c0 o1 W Kr uB Em hF1 anQ WI anR anS (BF hL);refine anT.mono fun e W' ⟨he,hb⟩=> ?_;subst he;exact⟨_,rfl,Ow rfl rfl hW' rfl rfl rfl (by rw[params3];intro t ht;simp at ht;rcases ht with rfl | rfl<;>exact⟨ak,of_decide_eq_true ak⟩) hb⟩
theorem blockPacks_holds:Rows.BlockPacksSaid:=
 OpenClaim.holds_of_wide 3 Tryz.f3 rfl rfl rfl rfl rfl rfl rfl ⟨rfl,rfl,rfl,rfl,rfl⟩ rfl rfl rfl rfl rfl ak func3 ak
  (of_decide_eq_true ak) (by unfold Func.isWrapper;first | (rw[if_pos jJ];kernel_rfl) | (rw[if_neg jJ];exact⟨rfl,rfl⟩))
  (fun os started H enc _=>blockPacks_lifted os started H enc)
theorem blockPacks_card:Rows.BlockPacksCardSaid:=
 Claim7.holds_tied_plain_at .later [] [.data,.data] true (true,"864be999bcc46d4e2ed79ce0ebb36e55b031a741399cc35593f622c883e74a3b") false
  blockPacks_holds (fun _ h=>by cases h) ak (fun _ h=>by cases h) blockPacks_row_tie rfl ⟨rfl,rfl⟩ ak rfl
  (fun f fn hf F3=>by
   obtain rfl:f=3:=Option.some.inj ((show prog.funcNamed "winepress/winepresslaw19.BlockPacks" =some 3 by kernel_rfl).symm.trans hf) |>.symm;obtain rfl:fn=Tryz.f3:=(Option.some.inj (func3.symm.trans F3)).symm;exact⟨ak,fun j t ht=>by
    have hm:t∈Tryz.f3.params.toList:=(by rw[Array.mem_toList_iff];exact Array.mem_of_getElem? ht);rw[params3]at hm;have dv:([22,26].all fun u=> !prog.wantsStandIn u)=true:=ak;exact(show prog.wantsStandIn t=false by simpa using List.all_eq_true.1 dv t hm)⟩)
  ak
#print axioms blockPacks_card
end
end Go.Proofs.YtgfpocdiojifoaaGreatDoor
