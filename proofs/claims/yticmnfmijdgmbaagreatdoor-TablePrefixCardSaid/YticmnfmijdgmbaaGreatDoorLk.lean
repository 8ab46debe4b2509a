/- What is passed of a row is the beginning of something that is derived, and with the next one it is of nothing, where each sort lives: TablePrefix answers true for every grammar and any row of terminals. Condition: none but the row's own. -/
import Derived.Test.YticmnfmijdgmbaaGreatDoorRows
import Derived.Test.YticmnfmijdgmbaaGreatDoorCards
import Derived.Test.YticmnfmijdgmbaaGreatDoorTie
import Derived.WalkKit
import Derived.ProofKit
import Derived.OpenShut
import Derived.LaidMore
import Derived.Stop.Joined
import Derived.SevenTiedAt
import Derived.Test.YticmnfmijdgmbaaGreatDoorPl
import Derived.Test.YticmnfmijdgmbaaGreatDoorTf
set_option linter.unusedVariables false
set_option linter.unusedSimpArgs false
namespace Go.Proofs.YticmnfmijdgmbaaGreatDoor.tablePrefix
open Go Go.ChangeShapes Go.WideShapes Go.ChangeAt Go.RowKit Go.Lib
open Go.ChangeMaps (open_string)
theorem own:ownKnob Tryz.prog.godebug=none:=by kernel_rfl
def laidL {H:Type} : List (String × DataW H):=[("math/bits.deBruijn32tab",Rows.laid_math_bits_deBruijn32tab),("math/bits.deBruijn64tab",Rows.laid_math_bits_deBruijn64tab),("internal/strconv.uint64pow10",Rows.laid_internal_strconv_uint64pow10)]
theorem door_met (os:Os) (args:Array Value):laidMetH Tryz.prog laidL ((World.doorLaid Tryz.prog 400 os).forCall (fun _ _=>0) ⟨#[],args,[]⟩).memory:=
 laidMetH_of_parts3 (fuel:=8) (laidMet_of_run' 8 (by kernel_rfl) (by kernel_rfl)) (by kernel_rfl) (by kernel_rfl)
set_option maxRecDepth 100000 in
theorem lifted (os:Os) (started:os.Started) (H:Type) (enc:TypeId × Value->H) :
  ReturnsInHanded {} Tryz.checked os 11 .any (fun w args=>(Rows.tablePrefixSpec.pre enc Tryz.prog Tryz.f11 [] false w args/\laidMetH Tryz.prog laidL w)/\sizedMet enc Tryz.prog Tryz.f11 (OpenSpec.ofChange Rows.tablePrefixSpec) false w args)
   (Rows.tablePrefixSpec.post enc Tryz.prog Tryz.f11 false true false false):=by
 refine returnsInHanded_of_change_and (C:=Tryz.checked) (X:=fun w _=>laidMetH Tryz.prog laidL w) (fun _ _ _ hh h=>h.of_heap hh) own started (by kernel_rfl) Tryz.func11
  (ChangeSpec.witness_shaped (enc:=enc) (C:=Tryz.checked) (os:=os) (X:=fun w _=>laidMetH Tryz.prog laidL w) false (World.doorLaid Tryz.prog 400 os) #[.agg #[.slice none 0 0,.slice none 0 0,.slice none 0 0,.slice none 0 0,.int .i64 0],.slice none 0 0] 8 rfl (World.shaped_of_RefB (by kernel_rfl) (by kernel_rfl)) (by kernel_rfl) (by kernel_rfl) (by kernel_rfl) (door_met os _)) ?_
 intro W base args ds gs before hval0 hW hcnd _ hL hsz
 have hval:∀ (j:Nat) t v,Tryz.f11.params[j]?=some t->args[j]?=some v->Value.okWide Tryz.prog W .any base t v:=hval0
 have hW':=hW
 obtain ⟨p,q,hA0,hV,hbe,hfz,hnd⟩:=hW
 have hA:DataW.TrodAll enc Tryz.prog W 0 (fun _=>true) true Tryz.f11.params.toList args.toList ds p:=hA0
 have hA1:=hA
 obtain ⟨rfl,hq⟩:=trodVars_none hV
 rw [Tryz.params11] at hA hval
 obtain ⟨v0,vs0,d0,ds0,p0,q0,hargs,rfl,hp0,h0,r0⟩:=trodAll_cons hA
 obtain ⟨v1,vs1,d1,ds1,p1,q1,rfl,rfl,hp1,h1,r1⟩:=trodAll_cons r0
 obtain ⟨rfl,rfl,hqq⟩:=trodAll_nil r1
 obtain rfl:args=#[v0,v1]:=by cases args; simp_all
 have hpost:∀ W',Below W.heap.size W W'->Rows.tablePrefixSpec.post enc Tryz.prog Tryz.f11 false true false false W #[v0,v1] (.bool true) W':=fun W' hb =>
  post_law (before:=before) (gs:=[]) (by kernel_rfl) (by kernel_rfl) rfl 4 (by kernel_rfl) Tryz.underlying4 hW' (by rw [hbe,hq,List.append_nil]; exact hA1) rfl rfl rfl hb
 suffices hw:Calls Tryz.prog 11 #[v0,v1] W fun e w'=>e=.returned (.bool true)/\Below W.heap.size W w' from
  hw.mono fun e W' ⟨he,hb⟩=>⟨_,he,hpost W' hb⟩
 clear hA0 hval0 hpost hW' hV hA hA1 hbe hcnd hfz hnd hsz
 obtain ⟨G,tv,ov,sv,pv,tf,rv,hG,_⟩:=open_grammar (hval 0 27 v0 rfl rfl) h0
 have hTab:=tab_of_laid hL (by kernel_rfl)
 obtain ⟨A1,n1,c1,rfl⟩:=okWide_slice Tryz.underlying43 (hval 1 43 v1 rfl rfl)
 obtain ⟨fu1,hf1⟩:=h1
 obtain ⟨l,a1,k1,hv1,hc1,hI1,_⟩:=open_syms Tryz.underlying43 Tryz.underlying3 (by kernel_rfl:Tryz.prog.cellsOf 3=1) hf1
 exact prefix16_walk ⟨tv,ov,sv,pv,tf,rv,hG⟩ hI1 (fun a n c e=>by rw [hv1] at e; injection e with e1 e2 e3; omega) hTab (Nat.le_refl _)
theorem over:Rows.tablePrefixRow.holds Tryz.pinned (OpenSpec.ofChange Rows.tablePrefixSpec):=
 OpenClaim.holds_of_wide 11 Tryz.f11 rfl rfl rfl rfl rfl rfl rfl ⟨rfl,rfl,rfl,rfl,rfl⟩ rfl rfl rfl rfl rfl (by kernel_rfl) Tryz.func11 (by kernel_rfl)
  (of_decide_eq_true (by kernel_rfl)) (by unfold Func.isWrapper; first | (rw [if_pos (by decide +kernel)]; kernel_rfl) | (rw [if_neg (by decide +kernel)]; exact ⟨rfl,rfl⟩))
  (fun os started H enc _=>lifted os started H enc)
theorem proved:Rows.TablePrefixCardSaid:=
 Claim7.holds_tied_plain_at .later [] [.data,.data,.data] true (true, "3c9bc3035fa6452133aa581b8195921390e0a44d33d92dab40866589e2f3a982") false
  over (fun _ h=>by cases h) (by kernel_rfl) (fun _ h=>by cases h) tablePrefix_row_tie rfl ⟨rfl,rfl⟩ (by kernel_rfl) rfl
  (fun f fn hf hfn=>by
   obtain rfl:f=11:=Option.some.inj ((show Tryz.prog.funcNamed "syntagm/syntagmlaw16.TablePrefix" = some 11 by kernel_rfl).symm.trans hf) |>.symm
   obtain rfl:fn=Tryz.f11:=(Option.some.inj (Tryz.func11.symm.trans hfn)).symm
   exact ⟨by kernel_rfl,fun j t ht=>by
    rw [Tryz.params11] at ht
    have hm:t ∈ Tryz.f11.params.toList:=by rw [Tryz.params11]; simpa using Array.mem_of_getElem? ht
    have hall:(Tryz.f11.params.toList.all fun u=>!Tryz.prog.wantsStandIn u)=true:=by kernel_rfl
    exact (show Tryz.prog.wantsStandIn t=false by simpa using List.all_eq_true.1 hall t hm)⟩)
  (by kernel_rfl)
end Go.Proofs.YticmnfmijdgmbaaGreatDoor.tablePrefix
