/- The law BitsBack of package bits: whatever the set and the number, it answers true, and the set reads as before. -/
import Derived.Test.YtlkplncfiohlcaaRows
import Derived.WalkKit
import Derived.Test.YtlkplncfiohlcaaBp
import Derived.Test.YtlkplncfiohlcaaPo
import Derived.ProofKit
import Derived.OpenShut
namespace Go.Proofs.Ytlkplncfiohlcaa.bitsBack
open Go Go.ChangeShapes Go.WideShapes Go.ChangeAt Go.RowKit Go.Lib
set_option linter.unusedVariables false      -- a walk need not use every 'w<i>' (that an integer argument fits its kind)

theorem own : ownKnob Try.prog.godebug = none := by kernel_rfl

set_option maxRecDepth 100000 in
set_option maxHeartbeats 2000000 in
theorem walk (a0 : Int) (a1 : Int) (w0 : (Lit.int .u64 a0).wf = true) (w1 : (Lit.int .i64 a1).wf = true) (w : World) :
    Calls Try.prog 6 #[.int .u64 a0, .int .i64 a1] w fun e w' => e = .returned (.bool true) ∧ Below w.heap.size w w' := by
  obtain ⟨a, rfl, ha⟩ := nat_of_u64 w0
  obtain ⟨n, rfl⟩ : ∃ n, n = a1 := ⟨_, rfl⟩
  clear w0 w1
  by_cases hr : 0 ≤ n ∧ n < 64
  · have k1 := hid fun w => With_any a n ha w
    have k2 := hid fun w => Without_any a n ha w
    have k3 := hid fun w => Has_any a n ha w
    have hI := or_lt ha (bitN_lt n)
    have hO := lessN_lt ha (bitN n)
    have n1 := hid fun w => Count_any (a ||| bitN n) hI w
    have n2 := hid fun w => Count_any (lessN a (bitN n)) hO w
    have k4 := hid fun w => Without_any (a ||| bitN n) n hI w
    rw [without_with] at k4
    have k5 := hid fun w => With_any (lessN a (bitN n)) n hO w
    rw [with_without] at k5
    have k6 := hid fun w => With_any (a ||| bitN n) n hI w
    rw [with_with] at k6
    have hn := count_more (a := a) hr.1 hr.2
    have hm3 := upto_length (a ||| bitN n) 64
    have hm4 := upto_length (lessN a (bitN n)) 64
    have hh : (hasN a n = true ∧ a ||| bitN n = a) ∨ (hasN a n = false ∧ lessN a (bitN n) = a) := by
      cases e : hasN a n
      · exact .inr ⟨rfl, without_not hr.1 hr.2 e⟩
      · exact .inl ⟨rfl, with_had e⟩
    clear hI hO
    generalize hI : a ||| bitN n = I at *
    generalize hO : lessN a (bitN n) = O at *
    clear hI hO
    generalize hp : hasN a n = p at *
    clear hp
    generalize hx : (upto I 64).length = x at *
    generalize hy : (upto O 64).length = y at *
    clear hx hy
    have HN := hid (show (((x : Int) - y) == 1) = true by simp; omega)
    have HX := hid hn
    clear hn
    obtain ⟨hr1, hr2⟩ := hr
    rcases hh with ⟨rfl, rfl⟩ | ⟨rfl, rfl⟩
    all_goals
      go_enter Try.func6, Try.ntmps6
      go_wp2_with fail
      refine (works_any w).mono ?_
      rintro e w1 ⟨rfl, hB⟩
      go_wp2_with fail
      refine (k1.out _).mono ?_
      rintro e w' ⟨rfl, rfl⟩
      go_wp2_with fail
      refine (k2.out _).mono ?_
      rintro e w' ⟨rfl, rfl⟩
      go_wp2_with fail
      refine (k3.out _).mono ?_
      rintro e w' ⟨rfl, rfl⟩
      go_wp2_with fail
      refine (n1.out _).mono ?_
      rintro e w2 ⟨rfl, hB2⟩
      replace hB := hB.trans (hB2.mono hB.size)
      clear hB2
      go_wp2_with fail
      refine (n2.out _).mono ?_
      rintro e w3 ⟨rfl, hB2⟩
      replace hB := hB.trans (hB2.mono hB.size)
      clear hB2
      have HN2 := HN.out
      go_wp2_with (first | (go_at_call 31; first | ((with_reducible refine (k5.out _).mono ?_); rintro e w' ⟨rfl, rfl⟩) | ((with_reducible refine (k6.out _).mono ?_); rintro e w' ⟨rfl, rfl⟩)) | (go_at_call 32; first | ((with_reducible refine (k4.out _).mono ?_); rintro e w' ⟨rfl, rfl⟩)))
      go_ret
      exact ⟨rfl, hB⟩
  · obtain ⟨e1, e2⟩ := with_out (a := a) hr
    have k1 := hid fun w => With_any a n ha w
    have k2 := hid fun w => Without_any a n ha w
    rw [e1] at k1
    rw [e2] at k2
    clear e1 e2
    have hs : n < 0 ∨ (0 ≤ n ∧ 63 < n) := by omega
    clear hr
    rcases hs with h1 | ⟨h1, h2⟩
    all_goals
      go_enter Try.func6, Try.ntmps6
      go_wp2_with fail
      refine (works_any w).mono ?_
      rintro e w1 ⟨rfl, hB⟩
      go_wp2_with fail
      refine (k1.out _).mono ?_
      rintro e w' ⟨rfl, rfl⟩
      go_wp2_with fail
      refine (k2.out _).mono ?_
      rintro e w' ⟨rfl, rfl⟩
      go_wp2
      go_ret
      exact ⟨rfl, hB⟩

set_option maxRecDepth 100000 in
theorem lifted (os : Os) (started : os.Started) (H : Type) (enc : TypeId × Value → H) :
    ReturnsInHanded {} Try.checked os 6 .any (Rows.bitsBackSpec.pre6 enc Try.prog Try.f6 Rows.bitsBackRow.domain false) (Rows.bitsBackSpec.post enc Try.prog Try.f6 false true false false) := by
  refine returnsInHanded_of_change (C := Try.checked) own started (by kernel_rfl) Try.func6
    (ChangeSpec.witness6 (enc := enc) (C := Try.checked) false ⟨#[], #[.int .u64 0, .int .i64 0], []⟩ 8 (by kernel_rfl) (by kernel_rfl) (by kernel_rfl) (by kernel_rfl)) ?_
  intro W base args ds gs before hval0 hW hcnd _
  have hval : ∀ (j : Nat) t v, Try.f6.params[j]? = some t → args[j]? = some v → Value.okWide Try.prog W .any base t v := hval0
  have hW' := hW
  obtain ⟨p, q, hA0, hV, rfl, hfz, hnd⟩ := hW
  have hA : DataW.TrodAll enc Try.prog W 0 (fun _ => true) true Try.f6.params.toList args.toList ds p := hA0
  rw [Try.params6] at hA hval
  obtain ⟨v0, vs0, d0, ds0, p0, q0, hargs, rfl, rfl, h0, r0⟩ := trodAll_cons hA
  obtain ⟨v1, vs1, d1, ds1, p1, q1, rfl, rfl, rfl, h1, r1⟩ := trodAll_cons r0
  obtain ⟨rfl, rfl, rfl⟩ := trodAll_nil r1
  obtain rfl : args = #[v0, v1] := by cases args; simp_all
  obtain ⟨rfl, rfl⟩ := trodVars_none hV
  obtain ⟨a0, rfl, rfl, rfl, w0⟩ := open_int Try.underlying23 (hval 0 23 v0 rfl rfl) h0
  obtain ⟨a1, rfl, rfl, rfl, w1⟩ := open_int Try.underlying3 (hval 1 3 v1 rfl rfl) h1
  clear hA0 hval0
  simp only [List.append_nil] at hW'
  refine (walk a0 a1 w0 w1 W).mono fun e W' ⟨he, hg⟩ => ?_
  subst he
  exact ⟨_, rfl, post_kept (pa := []) (pv := []) hW' (fun _ _ _ => (trodAll_cons_mk (shut_bool Try.underlying4 _) trodAll_mk0)) (fun sp _ => (trodAll_cons_mk (shut_int Try.underlying23 w0) (trodAll_cons_mk (shut_int Try.underlying3 w1) trodAll_mk0))) (fun _ _ => rfl) rfl
    hg (ok_one (by kernel_rfl) rfl (okWide_bool_mk Try.underlying4 _))⟩

theorem over : Rows.bitsBackRow.holds Try.pinned (OpenSpec.ofChange Rows.bitsBackSpec) :=
  OpenClaim.holds_of_wide 6 Try.f6 rfl rfl rfl rfl rfl rfl rfl ⟨rfl, rfl, rfl, rfl, rfl⟩ rfl rfl rfl rfl rfl (by kernel_rfl) Try.func6 (by kernel_rfl)
    (of_decide_eq_true (by kernel_rfl)) (by unfold Func.isWrapper; first | (rw [if_pos (by decide +kernel)]; kernel_rfl) | (rw [if_neg (by decide +kernel)]; exact ⟨rfl, rfl⟩))
    (fun os started H enc _ => lifted os started H enc)

/-- The statement. -/
theorem proved : Rows.BitsBackSaid :=
  over
end Go.Proofs.Ytlkplncfiohlcaa.bitsBack
