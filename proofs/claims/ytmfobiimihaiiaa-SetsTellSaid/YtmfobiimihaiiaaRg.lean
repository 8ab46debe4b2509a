/- The law SetsTell of package sets: whatever the grammar, the row and what stands behind it, it answers true, and all reads as before. -/
import Derived.Test.YtmfobiimihaiiaaRows
import Derived.WalkKit
import Derived.ProofKit
import Derived.OpenShut
import Derived.Test.YtmfobiimihaiiaaVt
import Derived.Test.YtmfobiimihaiiaaPl
import Derived.Test.YtmfobiimihaiiaaPg
namespace Go.Proofs.Ytmfobiimihaiiaa.setsTell
open Go Go.ChangeShapes Go.WideShapes Go.ChangeAt Go.RowKit Go.Lib
open Go.ChangeMaps (open_string)
set_option linter.unusedVariables false

theorem cells3 : Try.prog.cellsOf 3 = 1 := by kernel_rfl
theorem own : ownKnob Try.prog.godebug = none := by kernel_rfl

set_option maxRecDepth 100000 in
theorem lifted (os : Os) (started : os.Started) (H : Type) (enc : TypeId × Value → H) :
    ReturnsInHanded {} Try.checked os 3 .any (Rows.setsTellSpec.pre6 enc Try.prog Try.f3 Rows.setsTellRow.domain false) (Rows.setsTellSpec.post enc Try.prog Try.f3 false true false false) := by
  refine returnsInHanded_of_change (C := Try.checked) own started (by kernel_rfl) Try.func3
    (ChangeSpec.witness6 (enc := enc) (C := Try.checked) false ⟨#[], #[.agg #[.slice none 0 0, .slice none 0 0, .slice none 0 0, .slice none 0 0, .int .i64 0], .slice none 0 0, .int .u64 0], []⟩ 8 (by kernel_rfl) (by kernel_rfl) (by kernel_rfl) (by kernel_rfl)) ?_
  intro W base args ds gs before hval0 hW hcnd _
  have hval : ∀ (j : Nat) t v, Try.f3.params[j]? = some t → args[j]? = some v → Value.okWide Try.prog W .any base t v := hval0
  have hW' := hW
  obtain ⟨p, q, hA0, hV, hbe, hfz, hnd⟩ := hW
  have hA : DataW.TrodAll enc Try.prog W 0 (fun _ => true) true Try.f3.params.toList args.toList ds p := hA0
  have hA1 := hA
  obtain ⟨rfl, hq⟩ := trodVars_none hV
  rw [Try.params3] at hA hval
  obtain ⟨v0, vs0, d0, ds0, p0, q0, hargs, rfl, hp0, h0, r0⟩ := trodAll_cons hA
  obtain ⟨v1, vs1, d1, ds1, p1, q1, rfl, rfl, hp1, h1, r1⟩ := trodAll_cons r0
  obtain ⟨v2, vs2, d2, ds2, p2, q2, rfl, rfl, hp2, h2, r2⟩ := trodAll_cons r1
  obtain ⟨rfl, rfl, hqq⟩ := trodAll_nil r2
  obtain rfl : args = #[v0, v1, v2] := by cases args; simp_all
  have hpost : ∀ W', Below W.heap.size W W' → Rows.setsTellSpec.post enc Try.prog Try.f3 false true false false W #[v0, v1, v2] (.bool true) W' := fun W' hb =>
    post_law (before := before) (gs := []) (by kernel_rfl) (by kernel_rfl) rfl 4 (by kernel_rfl) Try.underlying4 hW' (by rw [hbe, hq, List.append_nil]; exact hA1) rfl rfl rfl hb
  suffices hw : Calls Try.prog 3 #[v0, v1, v2] W fun e w' => e = .returned (.bool true) ∧ Below W.heap.size W w' from
    hw.mono fun e W' ⟨he, hb⟩ => ⟨_, he, hpost W' hb⟩
  clear hA0 hval0 hpost hW' hV hA hA1 hbe hcnd hfz hnd
  obtain ⟨G, tv, ov, sv, pv, tf, rv, hG, _⟩ := open_grammar (hval 0 27 v0 rfl rfl) h0
  obtain ⟨A, len, cap, rfl⟩ := okWide_slice Try.underlying28 (hval 1 28 v1 rfl rfl)
  obtain ⟨fuel, hf⟩ := h1
  obtain ⟨l, a, c, e, _, hl, hn⟩ := open_syms (v := .slice A len cap) Try.underlying28 Try.underlying42 (by kernel_rfl) hf
  cases e
  obtain ⟨n, rfl, rfl, rfl, w3⟩ := open_int Try.underlying30 (hval 2 30 v2 rfl rfl) h2
  obtain ⟨b, rfl, hb⟩ := u64_nat w3
  exact tell_walk hG A l cap hl b hb

theorem over : Rows.setsTellRow.holds Try.pinned (OpenSpec.ofChange Rows.setsTellSpec) :=
  OpenClaim.holds_of_wide 3 Try.f3 rfl rfl rfl rfl rfl rfl rfl ⟨rfl, rfl, rfl, rfl, rfl⟩ rfl rfl rfl rfl rfl (by kernel_rfl) Try.func3 (by kernel_rfl)
    (of_decide_eq_true (by kernel_rfl)) (by unfold Func.isWrapper; first | (rw [if_pos (by decide +kernel)]; kernel_rfl) | (rw [if_neg (by decide +kernel)]; exact ⟨rfl, rfl⟩))
    (fun os started H enc _ => lifted os started H enc)

/-- The statement. -/
theorem proved : Rows.SetsTellSaid := over

end Go.Proofs.Ytmfobiimihaiiaa.setsTell
