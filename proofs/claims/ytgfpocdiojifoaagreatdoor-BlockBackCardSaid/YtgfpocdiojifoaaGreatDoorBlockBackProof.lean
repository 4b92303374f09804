/- BlockBack: for every input the law returns true, and its arguments read as before. -/
import Derived.Test.YtgfpocdiojifoaaGreatDoorCards
import Derived.Test.YtgfpocdiojifoaaGreatDoorTie
import Derived.SevenTiedAt
import Derived.Test.YtgfpocdiojifoaaGreatDoorZ49
namespace Go.Proofs.YtgfpocdiojifoaaGreatDoor
set_option maxRecDepth 100000
set_option maxHeartbeats 8000000
open Go.RowKit
section
open Go.ChangeShapes Go.WideShapes Go.ChangeAt Go.RowKit
theorem blockBack_lifted(os:Os)(started:os.Started)(H:Type)(enc:TypeId×Value→H):
  ReturnsInHanded {} Tryz.checked os 4 .any (fun w args=>(Rows.blockBackSpec.pre enc Tryz.prog Tryz.f4 [] false w args∧laidMet Tryz.prog laid2 w)∧sizedMet enc Tryz.prog Tryz.f4 (OpenSpec.ofChange Rows.blockBackSpec) false w args) (Rows.blockBackSpec.post enc Tryz.prog Tryz.f4 false true false false):=by
 refine returnsInHanded_of_change_and (C:=Tryz.checked) (X:=fun w _=>laidMet Tryz.prog laid2 w) (fun _ _ _ hh h=>h.of_heap hh) Tryz.own started (by kernel_rfl) Tryz.func4
  (ChangeSpec.witness_at (enc:=enc) (C:=Tryz.checked) (os:=os) (X:=fun w _=>laidMet Tryz.prog laid2 w) false (laidWorld os) #[.slice none 0 0,.agg #[.int .i64 0,.int .i64 0,.int .i64 0,.int .i64 0,.int .i64 0,.int .i64 0,.int .i64 0,.slice none 0 0,.int .u32 0],.slice none 0 0] 8 rfl (by kernel_rfl) (by kernel_rfl) (by kernel_rfl) (by kernel_rfl) (by kernel_rfl) (laidWorld_met os _)) ?_
 intro W base args ds gs before hval0 hW _ _ hL _
 have hval: ∀(j:Nat) t v,Tryz.f4.params[j]? =some t→args[j]? =some v→Value.okWide Tryz.prog W .any base t v:=hval0
 have hW':=hW
 obtain⟨p,q,hA0,hV,rfl,_,_⟩:=hW
 have hA:DataW.TrodAll enc Tryz.prog W 0 (fun _=>true) true Tryz.f4.params.toList args.toList ds p:=hA0
 rw[Tryz.params4]at hA hval
 obtain⟨v0,v1,v2,d0,d1,d2,p0,p1,p2,rfl,rfl,rfl,h0,h1,h2⟩:=trodAll_three hA
 obtain⟨rfl,rfl⟩:=trodVars_none hV
 obtain⟨A0,l0,c0,rfl,hc0,hm0,hB0⟩:=zS (hval 0 22 v0 rfl rfl) h0
 obtain⟨o1,rfl,hF1,aoy,ac2,hcm1,aoz⟩:=PK (hval 1 26 v1 rfl rfl) h1
 obtain⟨A2,l2,c2,rfl,hc2,hm2,hB2⟩:=zS (hval 2 22 v2 rfl rfl) h2
 have aoA:=Qv A0 l0 c0 o1 A2 l2 c2 W hB0 hc0 hm0 hF1 aoy ac2 hcm1 aoz hB2 hc2 hm2 (Ir hL)
 refine aoA.mono fun e W' ⟨he,hb⟩=> ?_
 subst he
 exact⟨_,rfl,VG rfl rfl hW' rfl rfl rfl (by rw[Tryz.params4];intro t ht;simp at ht;rcases ht with rfl | rfl | rfl<;>exact⟨by kernel_rfl,of_decide_eq_true (by kernel_rfl)⟩) hb⟩
theorem blockBack_holds:Rows.BlockBackSaid:=
 OpenClaim.holds_of_wide 4 Tryz.f4 rfl rfl rfl rfl rfl rfl rfl ⟨rfl,rfl,rfl,rfl,rfl⟩ rfl rfl rfl rfl rfl (by kernel_rfl) Tryz.func4 (by kernel_rfl)
  (of_decide_eq_true (by kernel_rfl)) (by unfold Func.isWrapper;first | (rw[if_pos (by decide+kernel)];kernel_rfl) | (rw[if_neg (by decide+kernel)];exact⟨rfl,rfl⟩))
  (fun os started H enc _=>blockBack_lifted os started H enc)
theorem blockBack_card:Rows.BlockBackCardSaid:=
 Claim7.holds_tied_plain_at .later [] [.data,.data] true (true,"864be999bcc46d4e2ed79ce0ebb36e55b031a741399cc35593f622c883e74a3b") false
  blockBack_holds (fun _ h=>by cases h) (by kernel_rfl) (fun _ h=>by cases h) blockBack_row_tie rfl ⟨rfl,rfl⟩ (by kernel_rfl) rfl
  (fun f fn hf hfn=>by
   obtain rfl:f=4:=Option.some.inj ((show Tryz.prog.funcNamed "winepress/winepresslaw19.BlockBack" =some 4 by kernel_rfl).symm.trans hf) |>.symm
   obtain rfl:fn=Tryz.f4:=(Option.some.inj (Tryz.func4.symm.trans hfn)).symm
   exact⟨by kernel_rfl,fun j t ht=>by
    have hm:t∈Tryz.f4.params.toList:=by
     rw[Array.mem_toList_iff]
     exact Array.mem_of_getElem? ht
    rw[Tryz.params4]at hm
    have hall:([22,26,22].all fun u=> !Tryz.prog.wantsStandIn u)=true:=by kernel_rfl
    exact(show Tryz.prog.wantsStandIn t=false by simpa using List.all_eq_true.1 hall t hm)⟩)
  (by kernel_rfl)
#print axioms blockBack_card
end
end Go.Proofs.YtgfpocdiojifoaaGreatDoor
