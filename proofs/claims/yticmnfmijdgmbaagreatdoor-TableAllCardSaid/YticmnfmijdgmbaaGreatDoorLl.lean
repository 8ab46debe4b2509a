/- The table of any grammar, and what is to be done, and the clashes, are just what the document says: TableAll answers true for every grammar. Condition: none but the row's own. -/
import Derived.LaidMore
import Derived.ProofKit
import Derived.SevenTiedAt
import Derived.Stop.Joined
import Derived.Test.YticmnfmijdgmbaaGreatDoorCards
import Derived.Test.YticmnfmijdgmbaaGreatDoorRows
import Derived.Test.YticmnfmijdgmbaaGreatDoorTie
import Derived.Test.YticmnfmijdgmbaaGreatDoorPl
set_option linter.unusedVariables false
set_option linter.unusedSimpArgs false
namespace Go.Proofs.YticmnfmijdgmbaaGreatDoor.tableAll
open Go Go.ChangeShapes Go.WideShapes Go.ChangeAt Go.RowKit Go.Lib
open Go.ChangeMaps (open_string)
theorem own:ownKnob Tryz.prog.godebug=none:=by kernel_rfl
def Gy {H:Type} : List (String×DataW H):=[("math/bits.deBruijn32tab",Rows.laid_math_bits_deBruijn32tab),("math/bits.deBruijn64tab",Rows.laid_math_bits_deBruijn64tab),("internal/strconv.uint64pow10",Rows.laid_internal_strconv_uint64pow10)]
theorem door_met (os:Os)(args:Array Value):laidMetH Tryz.prog Gy ((World.doorLaid Tryz.prog 400 os).forCall (fun _ _=>0) ⟨#[],args,[]⟩).memory:=
 laidMetH_of_parts3 (fuel:=8) (laidMet_of_run' 8 (by kernel_rfl) (by kernel_rfl)) (by kernel_rfl) (by kernel_rfl)
set_option maxRecDepth 100000 in
theorem lifted (os:Os)(started:os.Started)(H:Type)(enc:TypeId×Value->H) :
  ReturnsInHanded {} Tryz.checked os 8 .any (fun w args=>(Rows.tableAllSpec.pre enc Tryz.prog Tryz.f8 [] false w args/\laidMetH Tryz.prog Gy w)/\sizedMet enc Tryz.prog Tryz.f8 (OpenSpec.ofChange Rows.tableAllSpec) false w args)
   (Rows.tableAllSpec.post enc Tryz.prog Tryz.f8 false true false false):=by
 refine returnsInHanded_of_change_and (C:=Tryz.checked) (X:=fun w _=>laidMetH Tryz.prog Gy w) (fun _ _ _ hh h=>h.of_heap hh) own started (by kernel_rfl) Tryz.func8
  (ChangeSpec.witness_shaped (enc:=enc) (C:=Tryz.checked) (os:=os) (X:=fun w _=>laidMetH Tryz.prog Gy w) false (World.doorLaid Tryz.prog 400 os) #[.agg #[.slice none 0 0,.slice none 0 0,.slice none 0 0,.slice none 0 0,.int .i64 0]] 8 rfl (World.shaped_of_RefB (by kernel_rfl) (by kernel_rfl)) (by kernel_rfl) (by kernel_rfl) (by kernel_rfl) (door_met os _)) ?_
 intro W base args ds gs before hval0 hW hcnd _ hL hsz;have hval:∀ (j:Nat) t v,Tryz.f8.params[j]?=some t->args[j]?=some v->Value.okWide Tryz.prog W .any base t v:=hval0;have hW':=hW;obtain⟨p,q,hA0,hV,hbe,hfz,hnd⟩:=hW;have hA:DataW.TrodAll enc Tryz.prog W 0 (fun _=>true) true Tryz.f8.params.toList args.toList ds p:=hA0;have hA1:=hA;obtain⟨rfl,hq⟩:=trodVars_none hV;rw[Tryz.params8]at hA hval;obtain⟨v0,vs0,d0,ds0,p0,q0,hargs,rfl,hp0,h0,r0⟩:=trodAll_cons hA;obtain⟨rfl,rfl,hqq⟩:=trodAll_nil r0;obtain rfl:args=#[v0]:=by cases args;simp_all
 have hpost:∀ W',aj W W'->Rows.tableAllSpec.post enc Tryz.prog Tryz.f8 false true false false W #[v0] (.bool true) W':=fun W' hb =>
  JI (before:=before) (gs:=[]) (by kernel_rfl) (by kernel_rfl) rfl 4 (by kernel_rfl) Tryz.underlying4 hW' (by rw[hbe,hq,List.append_nil];exact hA1) rfl rfl rfl hb
 suffices hw:Calls Tryz.prog 8 #[v0] W fun e w'=>e=.returned (.bool true)/\aj W w' from
  hw.mono fun e W' ⟨he,hb⟩=>⟨_,he,hpost W' hb⟩
 clear hA0 hval0 hpost hW' hV hA hA1 hbe hcnd hfz hnd hsz;obtain⟨G,tv,ov,sv,pv,tf,rv,hG,_⟩:=A7 (hval 0 27 v0 rfl rfl) h0;have hTab:=Ci hL (by kernel_rfl);exact FC ⟨tv,ov,sv,pv,tf,rv,hG⟩ hTab (bJ _)
theorem over:Rows.tableAllRow.holds Tryz.pinned (OpenSpec.ofChange Rows.tableAllSpec):=
 OpenClaim.holds_of_wide 8 Tryz.f8 rfl rfl rfl rfl rfl rfl rfl ⟨rfl,rfl,rfl,rfl,rfl⟩ rfl rfl rfl rfl rfl (by kernel_rfl) Tryz.func8 (by kernel_rfl)
  (of_decide_eq_true (by kernel_rfl)) (by unfold Func.isWrapper;first | (rw[if_pos (by decide +kernel)];kernel_rfl) | (rw[if_neg (by decide +kernel)];exact⟨rfl,rfl⟩))
  (fun os started H enc _=>lifted os started H enc)
theorem proved:Rows.TableAllCardSaid:=
 Claim7.holds_tied_plain_at .later [] [.data,.data,.data] true (true, "3c9bc3035fa6452133aa581b8195921390e0a44d33d92dab40866589e2f3a982") false
  over (fun _ h=>by cases h) (by kernel_rfl) (fun _ h=>by cases h) tableAll_row_tie rfl ⟨rfl,rfl⟩ (by kernel_rfl) rfl
  (fun f fn hf hfn=>by
   obtain rfl:f=8:=Option.some.inj ((show Tryz.prog.funcNamed "syntagm/syntagmlaw16.TableAll" = some 8 by kernel_rfl).symm.trans hf) |>.symm;obtain rfl:fn=Tryz.f8:=(Option.some.inj (Tryz.func8.symm.trans hfn)).symm;exact⟨by kernel_rfl,fun j t ht=>by
    rw[Tryz.params8]at ht;have hm:t∈Tryz.f8.params.toList:=by rw[Tryz.params8];simpa using Array.mem_of_getElem? ht
    have hall:(Tryz.f8.params.toList.all fun u=>!Tryz.prog.wantsStandIn u)=true:=(by kernel_rfl);exact(show Tryz.prog.wantsStandIn t=false by simpa using List.all_eq_true.1 hall t hm)⟩)
  (by kernel_rfl)
end Go.Proofs.YticmnfmijdgmbaaGreatDoor.tableAll
