/- StreamBack: for every input the law returns true, and its arguments read as before. -/
import Derived.Test.YtfcaoggfnkhfiaaGreatDoorCards
import Derived.Test.YtfcaoggfnkhfiaaGreatDoorTie
import Derived.SevenTiedAt
import Derived.Test.YtfcaoggfnkhfiaaGreatDoorZ31
namespace Go.Proofs.YtfcaoggfnkhfiaaGreatDoor
set_option maxRecDepth 100000
set_option maxHeartbeats 8000000
open Go.RowKit Go.Proofs.Tryz
section
open Go.ChangeShapes Go.WideShapes Go.ChangeAt Go.RowKit
theorem streamBack_lifted(os:Os)(started:os.Started)(H:Type)(enc:TypeId×Value→H):
  ReturnsInHanded {} checked os 4 .any (fun w args=>(Rows.streamBackSpec.pre enc prog Tryz.f4 [] false w args∧laidMet prog FP w)∧sizedMet enc prog Tryz.f4 (OpenSpec.ofChange Rows.streamBackSpec) false w args) (Rows.streamBackSpec.post enc prog Tryz.f4 false true false false):=by
 refine returnsInHanded_of_change_and (C:=checked) (X:=fun w _=>laidMet prog FP w) (fun _ _ _ hh h=>h.of_heap hh) Tryz.own started ai func4
  (ChangeSpec.witness_at (enc:=enc) (C:=checked) (os:=os) (X:=fun w _=>laidMet prog FP w) false (Cc os) #[.slice none 0 0,.slice none 0 0,.agg #[.int .i64 0,.int .i64 0,.int .i64 0,.int .i64 0,.int .i64 0,.int .i64 0,.int .i64 0,.slice none 0 0,.int .u32 0],.agg #[.int .i64 0,.int .i64 0,.int .i64 0,.int .i64 0,.int .i64 0,.int .i64 0,.int .i64 0,.slice none 0 0,.int .u32 0],.int .u8 0] 8 rfl ai ai ai ai ai (Be os _)) ?_
 intro W base args ds gs before aiU hW _ _ hL _;have hval: ∀(j:Nat) t v,Tryz.f4.params[j]? =some t→args[j]? =some v→Value.okWide prog W .any base t v:=aiU;have hW':=hW;obtain⟨p,q,hA0,hV,rfl,_,_⟩:=hW;have hA:DataW.TrodAll enc prog W 0 (fun _=>true) true Tryz.f4.params.toList args.toList ds p:=hA0;rw[params4]at hA hval;obtain⟨v0,v1,v2,v3,v4,d0,d1,d2,d3,d4,p0,p1,p2,p3,p4,rfl,rfl,rfl,h0,h1,h2,h3,h4⟩:=Et hA;obtain⟨rfl,rfl⟩:=trodVars_none hV;obtain⟨A0,l0,c0,rfl,Dz,F',NK⟩:=vy (hval 0 22 v0 rfl rfl) h0;obtain⟨A1,l1,c1,rfl,cC,i9,eW⟩:=vy (hval 1 22 v1 rfl rfl) h1;obtain⟨o2,rfl,hF2,Zx,Zy,OM,Zz,Bw⟩:=zF (hval 2 26 v2 rfl rfl) h2;obtain⟨o3,rfl,hF3,apB,apC,apD,apE,apF⟩:=zF (hval 3 26 v3 rfl rfl) h3;obtain⟨a4,rfl,rfl,rfl,wa4⟩:=open_int underlying5 (hval 4 5 v4 rfl rfl) h4;have bm:(BitVec.ofNat 8 a4.toNat).toNat<256:=(BitVec.ofNat 8 a4.toNat).isLt;have ha4:a4=((BitVec.ofNat 8 a4.toNat).toNat:Int):=P_ wa4;have aiV:=K4 A0 l0 c0 A1 l1 c1 o2 o3 (BitVec.ofNat 8 a4.toNat).toNat W NK Dz F' eW cC i9 hF2 Zx Zy OM Zz Bw hF3 apB apC apD apE apF bm (DI hL);rw[←ha4]at aiV;refine aiV.mono fun e W' ⟨he,hb⟩=> ?_;subst he;exact⟨_,rfl,QA rfl rfl hW' rfl rfl rfl (by rw[params4];intro t ht;simp at ht;rcases ht with rfl | rfl | rfl | rfl | rfl<;>exact⟨ai,of_decide_eq_true ai⟩) hb⟩
theorem streamBack_holds:Rows.StreamBackSaid:=
 OpenClaim.holds_of_wide 4 Tryz.f4 rfl rfl rfl rfl rfl rfl rfl ⟨rfl,rfl,rfl,rfl,rfl⟩ rfl rfl rfl rfl rfl ai func4 ai
  (of_decide_eq_true ai) (by unfold Func.isWrapper;first | (rw[if_pos rm];kernel_rfl) | (rw[if_neg rm];exact⟨rfl,rfl⟩))
  (fun os started H enc _=>streamBack_lifted os started H enc)
theorem streamBack_card:Rows.StreamBackCardSaid:=
 Claim7.holds_tied_plain_at .later [] [.data,.data] true (true,"2ab95aeabe96a4bb10aec38571e76a177f0f88cf0c5ebe1fa0e29f14a5814a27") false
  streamBack_holds (fun _ h=>iR) ai (fun _ h=>iR) streamBack_row_tie rfl ⟨rfl,rfl⟩ ai rfl
  (fun f fn hf ot=>by
   obtain rfl:f=4:=Option.some.inj ((show prog.funcNamed "winepress/winepresslaw20.StreamBack" =some 4 by kernel_rfl).symm.trans hf) |>.symm;obtain rfl:fn=Tryz.f4:=(Option.some.inj (func4.symm.trans ot)).symm;exact⟨ai,fun j t ht=>by
    have hm:t∈Tryz.f4.params.toList:=(by rw[Array.mem_toList_iff];exact Array.mem_of_getElem? ht);rw[params4]at hm;have dp:([22,22,26,26,5].all fun u=> !prog.wantsStandIn u)=true:=ai;exact(show prog.wantsStandIn t=false by simpa using List.all_eq_true.1 dp t hm)⟩)
  ai
#print axioms streamBack_card
end
end Go.Proofs.YtfcaoggfnkhfiaaGreatDoor
