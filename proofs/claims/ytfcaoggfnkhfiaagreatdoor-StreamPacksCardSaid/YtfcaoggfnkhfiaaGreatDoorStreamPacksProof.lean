/- StreamPacks: for every input the law returns true, and its arguments read as before. -/
import Derived.Test.YtfcaoggfnkhfiaaGreatDoorCards
import Derived.Test.YtfcaoggfnkhfiaaGreatDoorTie
import Derived.SevenTiedAt
import Derived.Test.YtfcaoggfnkhfiaaGreatDoorZ25
namespace Go.Proofs.YtfcaoggfnkhfiaaGreatDoor
set_option maxRecDepth 100000
set_option maxHeartbeats 8000000
open Go.RowKit Go.Proofs.Tryz
section
open Go.ChangeShapes Go.WideShapes Go.ChangeAt Go.RowKit
theorem streamPacks_lifted(os:Os)(started:os.Started)(H:Type)(enc:TypeId×Value->H):
  ReturnsInHanded {} checked os 3 .any (λw args=>(Rows.streamPacksSpec.pre enc prog Tryz.f3 [] false w args/\laidMet prog I9 w)/\sizedMet enc prog Tryz.f3 (OpenSpec.ofChange Rows.streamPacksSpec) false w args) (Rows.streamPacksSpec.post enc prog Tryz.f3 false true false false):=by
 refine returnsInHanded_of_change_and (C:=checked) (X:=λw _=>laidMet prog I9 w) (λ_ _ _ hh h=>h.of_heap hh) Tryz.own started ak func3
  (ChangeSpec.witness_at (enc:=enc) (C:=checked) (os:=os) (X:=λw _=>laidMet prog I9 w) false (Ep os) #[.slice none 0 0,.agg #[.int .i64 0,.int .i64 0,.int .i64 0,.int .i64 0,.int .i64 0,.int .i64 0,.int .i64 0,.slice none 0 0,.int .u32 0],.slice none 0 0,.slice none 0 0] 8 rfl ak ak ak ak ak (DL os _)) ?_
 intro W base args ds gs before amP hW _ _ hL _;have hval: ∀(j:Nat) t v,Tryz.f3.params[j]? =some t->args[j]? =some v->Value.okWide prog W .any base t v:=amP;have hW':=hW;obtain⟨p,q,hA0,hV,rfl,_,_⟩:=hW;have hA:DataW.TrodAll enc prog W 0 (λ_=>true) true Tryz.f3.params.toList args.toList ds p:=hA0;rw[params3]at hA hval;obtain⟨v0,v1,v2,v3,d0,d1,d2,d3,p0,p1,p2,p3,rfl,rfl,rfl,h0,h1,h2,h3⟩:=trodAll_four hA;obtain⟨rfl,rfl⟩:=trodVars_none hV;obtain⟨A0,l0,c0,rfl,xz,Gp,PV⟩:=Jg (hval 0 22 v0 rfl rfl) h0;obtain⟨o1,rfl,hF1,atU,atV,atW,atX,atY⟩:=Og (hval 1 26 v1 rfl rfl) h1;obtain⟨A2,l2,c2,rfl,ei,fm,fq⟩:=Oh (hval 2 27 v2 rfl rfl) h2;obtain⟨A3,l3,c3,rfl,ju,tl,iP⟩:=S7 (hval 3 28 v3 rfl rfl) h3;have atZ:=Hk A0 l0 c0 o1 A2 l2 c2 A3 l3 c3 W PV xz Gp hF1 atU atV atW atX atY fq ei fm iP ju tl (Gf hL);refine atZ.mono λe W' ⟨he,hb⟩=> ?_;subst he;exact⟨_,rfl,Ua rfl rfl hW' rfl rfl rfl (by rw[params3];intro t ht;simp at ht;rcases ht with rfl|rfl|rfl|rfl<;>exact⟨ak,of_decide_eq_true ak⟩) hb⟩
theorem streamPacks_holds:Rows.StreamPacksSaid:=
 OpenClaim.holds_of_wide 3 Tryz.f3 rfl rfl rfl rfl rfl rfl rfl ⟨rfl,rfl,rfl,rfl,rfl⟩ rfl rfl rfl rfl rfl ak func3 ak
  (of_decide_eq_true ak) (by unfold Func.isWrapper;first|(rw[ax m9];kernel_rfl)|(rw[au m9];exact⟨rfl,rfl⟩))
  (λos started H enc _=>streamPacks_lifted os started H enc)
theorem streamPacks_card:Rows.StreamPacksCardSaid:=
 Claim7.holds_tied_plain_at .later [] [.data,.data] true (true,"2ab95aeabe96a4bb10aec38571e76a177f0f88cf0c5ebe1fa0e29f14a5814a27") false
  streamPacks_holds (λ_ h=>oU) ak (λ_ h=>oU) streamPacks_row_tie rfl ⟨rfl,rfl⟩ ak rfl
  (λf fn hf Ew=>by
   obtain rfl:f=3:=Option.some.inj ((show prog.funcNamed "winepress/winepresslaw20.StreamPacks" =some 3 by kernel_rfl).symm.trans hf) |>.symm;obtain rfl:fn=Tryz.f3:=(Option.some.inj (func3.symm.trans Ew)).symm;exact⟨ak,λj t ht=>by
    have hm:t∈Tryz.f3.params.toList:=(by rw[Array.mem_toList_iff];exact Array.mem_of_getElem? ht);rw[params3]at hm;have dZ:([22,26,27,28].all λu=> !prog.wantsStandIn u)=true:=ak;exact(show prog.wantsStandIn t=false by simpa using List.all_eq_true.1 dZ t hm)⟩)
  ak
#print axioms streamPacks_card
end
end Go.Proofs.YtfcaoggfnkhfiaaGreatDoor
