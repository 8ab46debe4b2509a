/- The law BitsLaws of package bits: whatever the three sets, it answers true, and the sets read as before. -/
import Derived.Test.YtlkplncfiohlcaaRows
import Derived.WalkKit
import Derived.Test.YtlkplncfiohlcaaBo
import Derived.Test.YtlkplncfiohlcaaPo
import Derived.ProofKit
import Derived.OpenShut
namespace Go.Proofs.Ytlkplncfiohlcaa.bitsLaws
open Go Go.ChangeShapes Go.WideShapes Go.ChangeAt Go.RowKit Go.Lib
set_option linter.unusedVariables false      -- a walk need not use every 'w<i>' (that an integer argument fits its kind)

theorem own : ownKnob Try.prog.godebug = none := by kernel_rfl

set_option maxRecDepth 100000 in
set_option maxHeartbeats 2000000 in
theorem walk (a0 : Int) (a1 : Int) (a2 : Int) (w0 : (Lit.int .u64 a0).wf = true) (w1 : (Lit.int .u64 a1).wf = true) (w2 : (Lit.int .u64 a2).wf = true) (w : World) :
    Calls Try.prog 5 #[.int .u64 a0, .int .u64 a1, .int .u64 a2] w fun e w' => e = .returned (.bool true) ∧ Below w.heap.size w w' := by
  obtain ⟨a, rfl, ha⟩ := nat_of_u64 w0
  obtain ⟨b, rfl, hb⟩ := nat_of_u64 w1
  obtain ⟨c, rfl, hc⟩ := nat_of_u64 w2
  clear w0 w1 w2
  have k1 := hid fun w => Union_any a b ha hb w
  have k2 := hid fun w => Meet_any a b ha hb w
  have k3 := hid fun w => Union_any b a hb ha w
  rw [Nat.or_comm b a] at k3
  have k4 := hid fun w => Meet_any b a hb ha w
  rw [Nat.and_comm b a] at k4
  have k5 := hid fun w => Union_any (a ||| b) c (or_lt ha hb) hc w
  have k6 := hid fun w => Union_any b c hb hc w
  have k7 := hid fun w => Union_any a (b ||| c) ha (or_lt hb hc) w
  rw [← Nat.or_assoc a b c] at k7
  have k8 := hid fun w => Meet_any (a &&& b) c (and_lt ha b) hc w
  have k9 := hid fun w => Meet_any b c hb hc w
  have k10 := hid fun w => Meet_any a (b &&& c) ha (and_lt hb c) w
  rw [← Nat.and_assoc a b c] at k10
  have k11 := hid fun w => Less_any a b ha hb w
  have k12 := hid fun w => Union_any (lessN a b) (a &&& b) (lessN_lt ha b) (and_lt ha b) w
  rw [law_back] at k12
  have k13 := hid fun w => Meet_any (lessN a b) b (lessN_lt ha b) hb w
  rw [law_none] at k13
  have k14 := hid fun w => Meet_any (a ||| b) c (or_lt ha hb) hc w
  have k15 := hid fun w => Meet_any a c ha hc w
  have k16 := hid fun w => Union_any (a &&& c) (b &&& c) (and_lt ha c) (and_lt hb c) w
  rw [← law_dist] at k16
  have k17 := hid fun w => In_any (a &&& b) a (and_lt ha b) ha w
  rw [law_meet_in ha] at k17
  have k18 := hid fun w => In_any a (a ||| b) ha (or_lt ha hb) w
  rw [law_in_union ha] at k18
  have k19 := hid fun w => In_any a b ha hb w
  have k20 := hid fun w => In_any b c hb hc w
  have k21 := hid fun w => In_any a c ha hc w
  have n1 := hid fun w => Count_any (a ||| b) (or_lt ha hb) w
  have n2 := hid fun w => Count_any (a &&& b) (and_lt ha b) w
  have n3 := hid fun w => Count_any a ha w
  have n4 := hid fun w => Count_any b hb w
  have hn := count_union a b
  have hm := upto_length a 64
  have hm2 := upto_length b 64
  have hm3 := upto_length (a ||| b) 64
  have hm4 := upto_length (a &&& b) 64
  have htr : inN a b = true → inN b c = true → inN a c = true := law_in_trans ha hb
  generalize hU : a ||| b = U at *
  generalize hM : a &&& b = M at *
  generalize hUC : U ||| c = UC at *
  generalize hMC : M &&& c = MC at *
  generalize hBC : b ||| c = BC at *
  generalize hBM : b &&& c = BM at *
  generalize hAM : a &&& c = AM at *
  generalize hL : lessN a b = L at *
  generalize hUM : U &&& c = UM at *
  clear hU hM hUC hMC hBC hBM hAM hL hUM
  generalize hp : inN a b = p at *
  generalize hq : inN b c = q at *
  generalize hr : inN a c = r at *
  clear hp hq hr
  generalize hx : (upto U 64).length = x at *
  generalize hy : (upto M 64).length = y at *
  generalize hz : (upto a 64).length = z at *
  generalize ht : (upto b 64).length = t at *
  clear hx hy hz ht
  have HN := hid (show ((((x : Int) + y) == ((z : Int) + t)) = true) by simp; omega)
  clear hn
  have HR : (p = true ∧ q = true ∧ r = true) ∨ p = false ∨ (p = true ∧ q = false) := by
    cases p <;> cases q <;> simp_all
  clear htr
  rcases HR with ⟨rfl, rfl, rfl⟩ | rfl | ⟨rfl, rfl⟩
  all_goals
    go_enter Try.func5, Try.ntmps5
    go_wp2_with fail
    refine (works_any w).mono ?_
    rintro e w1 ⟨rfl, hB⟩
    go_wp2_with (first | (go_at_call 24; first | ((with_reducible refine (k1.out _).mono ?_); rintro e w' ⟨rfl, rfl⟩) | ((with_reducible refine (k3.out _).mono ?_); rintro e w' ⟨rfl, rfl⟩) | ((with_reducible refine (k5.out _).mono ?_); rintro e w' ⟨rfl, rfl⟩) | ((with_reducible refine (k6.out _).mono ?_); rintro e w' ⟨rfl, rfl⟩) | ((with_reducible refine (k7.out _).mono ?_); rintro e w' ⟨rfl, rfl⟩) | ((with_reducible refine (k12.out _).mono ?_); rintro e w' ⟨rfl, rfl⟩) | ((with_reducible refine (k16.out _).mono ?_); rintro e w' ⟨rfl, rfl⟩)) | (go_at_call 26; first | ((with_reducible refine (k2.out _).mono ?_); rintro e w' ⟨rfl, rfl⟩) | ((with_reducible refine (k4.out _).mono ?_); rintro e w' ⟨rfl, rfl⟩) | ((with_reducible refine (k8.out _).mono ?_); rintro e w' ⟨rfl, rfl⟩) | ((with_reducible refine (k9.out _).mono ?_); rintro e w' ⟨rfl, rfl⟩) | ((with_reducible refine (k10.out _).mono ?_); rintro e w' ⟨rfl, rfl⟩) | ((with_reducible refine (k13.out _).mono ?_); rintro e w' ⟨rfl, rfl⟩) | ((with_reducible refine (k14.out _).mono ?_); rintro e w' ⟨rfl, rfl⟩) | ((with_reducible refine (k15.out _).mono ?_); rintro e w' ⟨rfl, rfl⟩)) | (go_at_call 28; first | ((with_reducible refine (k11.out _).mono ?_); rintro e w' ⟨rfl, rfl⟩)) | (go_at_call 30; first | ((with_reducible refine (k17.out _).mono ?_); rintro e w' ⟨rfl, rfl⟩) | ((with_reducible refine (k18.out _).mono ?_); rintro e w' ⟨rfl, rfl⟩) | ((with_reducible refine (k19.out _).mono ?_); rintro e w' ⟨rfl, rfl⟩) | ((with_reducible refine (k20.out _).mono ?_); rintro e w' ⟨rfl, rfl⟩) | ((with_reducible refine (k21.out _).mono ?_); rintro e w' ⟨rfl, rfl⟩)))
    refine (n1.out _).mono ?_
    rintro e w2 ⟨rfl, hB2⟩
    replace hB := hB.trans (hB2.mono hB.size)
    clear hB2
    go_wp2_with fail
    refine (n2.out _).mono ?_
    rintro e w3 ⟨rfl, hB2⟩
    replace hB := hB.trans (hB2.mono hB.size)
    clear hB2
    go_wp2_with fail
    refine (n3.out _).mono ?_
    rintro e w4 ⟨rfl, hB2⟩
    replace hB := hB.trans (hB2.mono hB.size)
    clear hB2
    go_wp2_with fail
    refine (n4.out _).mono ?_
    rintro e w5 ⟨rfl, hB2⟩
    replace hB := hB.trans (hB2.mono hB.size)
    clear hB2
    go_wp2
    go_ret
    exact ⟨by first | exact congrArg (fun b => Ending.returned (.bool b)) HN.out | (rw [HN.out]; rfl), hB⟩

set_option maxRecDepth 100000 in
theorem lifted (os : Os) (started : os.Started) (H : Type) (enc : TypeId × Value → H) :
    ReturnsInHanded {} Try.checked os 5 .any (Rows.bitsLawsSpec.pre6 enc Try.prog Try.f5 Rows.bitsLawsRow.domain false) (Rows.bitsLawsSpec.post enc Try.prog Try.f5 false true false false) := by
  refine returnsInHanded_of_change (C := Try.checked) own started (by kernel_rfl) Try.func5
    (ChangeSpec.witness6 (enc := enc) (C := Try.checked) false ⟨#[], #[.int .u64 0, .int .u64 0, .int .u64 0], []⟩ 8 (by kernel_rfl) (by kernel_rfl) (by kernel_rfl) (by kernel_rfl)) ?_
  intro W base args ds gs before hval0 hW hcnd _
  have hval : ∀ (j : Nat) t v, Try.f5.params[j]? = some t → args[j]? = some v → Value.okWide Try.prog W .any base t v := hval0
  have hW' := hW
  obtain ⟨p, q, hA0, hV, rfl, hfz, hnd⟩ := hW
  have hA : DataW.TrodAll enc Try.prog W 0 (fun _ => true) true Try.f5.params.toList args.toList ds p := hA0
  rw [Try.params5] at hA hval
  obtain ⟨v0, vs0, d0, ds0, p0, q0, hargs, rfl, rfl, h0, r0⟩ := trodAll_cons hA
  obtain ⟨v1, vs1, d1, ds1, p1, q1, rfl, rfl, rfl, h1, r1⟩ := trodAll_cons r0
  obtain ⟨v2, vs2, d2, ds2, p2, q2, rfl, rfl, rfl, h2, r2⟩ := trodAll_cons r1
  obtain ⟨rfl, rfl, rfl⟩ := trodAll_nil r2
  obtain rfl : args = #[v0, v1, v2] := by cases args; simp_all
  obtain ⟨rfl, rfl⟩ := trodVars_none hV
  obtain ⟨a0, rfl, rfl, rfl, w0⟩ := open_int Try.underlying23 (hval 0 23 v0 rfl rfl) h0
  obtain ⟨a1, rfl, rfl, rfl, w1⟩ := open_int Try.underlying23 (hval 1 23 v1 rfl rfl) h1
  obtain ⟨a2, rfl, rfl, rfl, w2⟩ := open_int Try.underlying23 (hval 2 23 v2 rfl rfl) h2
  clear hA0 hval0
  simp only [List.append_nil] at hW'
  refine (walk a0 a1 a2 w0 w1 w2 W).mono fun e W' ⟨he, hg⟩ => ?_
  subst he
  exact ⟨_, rfl, post_kept (pa := []) (pv := []) hW' (fun _ _ _ => (trodAll_cons_mk (shut_bool Try.underlying4 _) trodAll_mk0)) (fun sp _ => (trodAll_cons_mk (shut_int Try.underlying23 w0) (trodAll_cons_mk (shut_int Try.underlying23 w1) (trodAll_cons_mk (shut_int Try.underlying23 w2) trodAll_mk0)))) (fun _ _ => rfl) rfl
    hg (ok_one (by kernel_rfl) rfl (okWide_bool_mk Try.underlying4 _))⟩

theorem over : Rows.bitsLawsRow.holds Try.pinned (OpenSpec.ofChange Rows.bitsLawsSpec) :=
  OpenClaim.holds_of_wide 5 Try.f5 rfl rfl rfl rfl rfl rfl rfl ⟨rfl, rfl, rfl, rfl, rfl⟩ rfl rfl rfl rfl rfl (by kernel_rfl) Try.func5 (by kernel_rfl)
    (of_decide_eq_true (by kernel_rfl)) (by unfold Func.isWrapper; first | (rw [if_pos (by decide +kernel)]; kernel_rfl) | (rw [if_neg (by decide +kernel)]; exact ⟨rfl, rfl⟩))
    (fun os started H enc _ => lifted os started H enc)

/-- The statement. -/
theorem proved : Rows.BitsLawsSaid :=
  over
end Go.Proofs.Ytlkplncfiohlcaa.bitsLaws
