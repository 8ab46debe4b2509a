/- The law BitsFirst of package bits: whatever the set, it answers true, and the set reads as before. -/
import Derived.Test.YtlkplncfiohlcaaRows
import Derived.WalkKit
import Derived.Test.YtlkplncfiohlcaaBs
import Derived.Test.YtlkplncfiohlcaaPo
import Derived.Deep.RegionHeld3
import Derived.ProofKit
import Derived.OpenShut
namespace Go.Proofs.Ytlkplncfiohlcaa.bitsFirst
open Go Go.ChangeShapes Go.WideShapes Go.ChangeAt Go.RowKit Go.Lib
set_option linter.unusedVariables false      -- a walk need not use every 'w<i>' (that an integer argument fits its kind)

theorem own : ownKnob Try.prog.godebug = none := by kernel_rfl

set_option maxRecDepth 100000 in
set_option maxHeartbeats 2000000 in
theorem walk (a0 : Int) (w0 : (Lit.int .u64 a0).wf = true) (w : World) :
    Calls Try.prog 7 #[.int .u64 a0] w fun e w' => e = .returned (.bool true) ∧ Below w.heap.size w w' := by
  obtain ⟨a, rfl, ha⟩ := nat_of_u64 w0
  clear w0
  have kl := hid fun w => List_any a ha w
  have kf := hid fun w => First_any a ha w
  cases hu : upto a 64 with
  | nil =>
    obtain rfl : a = 0 := (upto_nil_iff ha).1 hu
    have HU := hid hu
    clear hu
    go_enter Try.func7, Try.ntmps7
    go_wp2_with fail
    refine (works_any w).mono ?_
    rintro e w1 ⟨rfl, hB⟩
    go_wp2_with fail
    refine (kl.out _).mono ?_
    rintro e w2 ⟨v, rfl, hL, hB2⟩
    obtain rfl : v = .slice none 0 0 := hL.2.2 HU.out
    clear hL
    replace hB := hB.trans (hB2.mono hB.size)
    clear hB2
    go_wp2_with fail
    refine (kf.out _).mono ?_
    rintro e w3 ⟨rfl, hB2⟩
    replace hB := hB.trans (hB2.mono hB.size)
    clear hB2
    rw [HU.out]
    have e0 : firstOf [] = -1 := rfl
    rw [e0]
    clear e0
    go_wp2
    go_ret
    exact ⟨rfl, hB⟩
  | cons x r =>
    have hx : x < 64 := (mem_upto.1 (by rw [hu]; simp : x ∈ upto a 64)).1
    have hr := upto_rest hu
    have hlen := upto_length a 64
    have kw := hid fun w => Without_any a x ha w
    have hO := lessN_lt ha (bitN (x : Int))
    have kl2 := hid fun w => List_any (lessN a (bitN (x : Int))) hO w
    rw [hr] at kl2
    clear hr
    generalize lessN a (bitN (x : Int)) = O at *
    rw [hu] at kl kf hlen
    have e0 : firstOf (x :: r) = (x : Int) := rfl
    rw [e0] at kf
    clear e0
    have HU := hid hu
    clear hu
    have hrl : (r.length : Int) ≤ 63 := by simp at hlen; omega
    clear hlen
    go_enter Try.func7, Try.ntmps7
    go_wp2_with fail
    refine (works_any w).mono ?_
    rintro e w1 ⟨rfl, hB⟩
    go_wp2_with fail
    refine (kl.out _).mono ?_
    rintro e w2 ⟨v, rfl, hL, hB2⟩
    have hLo := hL.1
    obtain ⟨g, cap, rfl⟩ := ownsRow_succ hLo
    have hcap : r.length + 1 ≤ cap := by
      rcases hLo.2 with ⟨h, _⟩ | ⟨_, _, _, e, _, _, h, _⟩
      · cases h
      · cases e; simpa using h
    have hc0 := hLo.cellAt 0 (by simp)
    replace hc0 : w2.cell? ⟨g, 0, none⟩ = some (.int .i64 (x : Int)) := hc0
    have HL := hid hL
    clear hLo hL
    replace hB := hB.trans (hB2.mono hB.size)
    clear hB2
    go_wp2_with fail
    refine (kf.out _).mono ?_
    rintro e w3 ⟨rfl, hB2⟩
    replace hc0 := (hB2.cell (p := ⟨g, 0, none⟩) (World.block_lt_of_cell? w2 _ hc0)).trans hc0
    have HL3 := hid (HL.out.below hB2)
    clear HL
    replace hB := hB.trans (hB2.mono hB.size)
    clear hB2
    go_wp2_with fail
    refine (kw.out _).mono ?_
    rintro e w' ⟨rfl, rfl⟩
    go_wp2_with fail
    refine (kl2.out _).mono ?_
    rintro e w4 ⟨v4, rfl, hL4, hB2⟩
    replace hc0 := (hB2.cell (p := ⟨g, 0, none⟩) (World.block_lt_of_cell? w3 _ hc0)).trans hc0
    have HR1 := hid hL4.reads
    have HR2 := hid (HL3.out.below hB2).reads
    clear HL3 hL4
    replace hB := hB.trans (hB2.mono hB.size)
    clear hB2
    have hg := World.block_lt_of_cell? w4 _ hc0
    have i0 : (0 : Int) < (r.length : Int) + 1 := by omega
    have i1 : (0 : Int) ≤ (r.length : Int) := by omega
    have hcc : (cap = 1 ∧ r = []) ∨ 1 < cap := by
      by_cases h : cap = 1
      · exact .inl ⟨h, List.eq_nil_of_length_eq_zero (by omega)⟩
      · exact .inr (by omega)
    have hS : ∀ (o : Nat), (r ≠ [] → o = 1) → ∀ (w5 : World), Below w4.heap.size w4 w5 → Calls Try.prog 18 #[v4, .slice (some ⟨g, o, none⟩) r.length (cap - 1)] w5 fun e w' => e = .returned (.bool true) ∧ ∃ n, w' = w5.drewN n := by
      intro o ho w5 hB5
      have r1 := HR1.out.below hB5
      have r2 := HR2.out.below hB5
      have e1 : (ints r).length = r.length := by simp [ints]
      refine Row_reads (l := ints r) (by rw [e1]; omega) r1 ⟨_, _, by rw [e1], fun hn => ⟨g, o, rfl, fun i hi => ?_⟩⟩
      obtain ⟨aa, cc, e, hh⟩ := r2
      obtain ⟨b, off, rfl, hh2⟩ := hh (by simp [ints])
      simp only [Value.slice.injEq, Option.some.injEq, Addr.mk.injEq] at e
      obtain ⟨⟨rfl, rfl, _⟩, _, _⟩ := e
      have := hh2 (i + 1) (by simp [ints] at hi ⊢; omega)
      rw [ho (fun h => hn (by rw [h]; rfl))]
      rw [show 0 + (i + 1) = 1 + i by omega] at this
      rw [this]
      simp [ints]
    have HS := hid hS
    clear hS HR1 HR2
    rcases hcc with ⟨rfl, rfl⟩ | hcc
    · go_wp2_with fail
      go_region_held3 (fun w' => w'.cell? ⟨g, 0, none⟩ = some (.int .i64 (x : Int)))
        (first | go_keep | (rw [hB5.cell (p := ⟨g, 0, none⟩) hg]; assumption))
        ((first | (go_at_call 23; refine (kf.out _).mono ?_; rintro e w5 ⟨rfl, hB5⟩) | (go_at_call 18; refine (HS.out 0 (fun h => absurd rfl h) _ (below_undrew hB5)).mono ?_; rintro e w6 ⟨rfl, nq, rfl⟩)))
      go_wp2
      go_ret
      exact ⟨rfl, below_drewN (hB.trans ((below_undrew hB5).mono hB.size)) nq⟩
    · have hcc2 : ¬ cap = 1 := by omega
      have j1 : (1 : Int) ≤ (r.length : Int) + 1 := by omega
      go_wp2_with fail
      go_region_held3 (fun w' => w'.cell? ⟨g, 0, none⟩ = some (.int .i64 (x : Int)))
        (first | go_keep | (rw [hB5.cell (p := ⟨g, 0, none⟩) hg]; assumption))
        ((first | (go_at_call 23; refine (kf.out _).mono ?_; rintro e w5 ⟨rfl, hB5⟩) | (go_at_call 18; refine (HS.out 1 (fun _ => rfl) _ (below_undrew hB5)).mono ?_; rintro e w6 ⟨rfl, nq, rfl⟩)))
      go_wp2
      go_ret
      exact ⟨rfl, below_drewN (hB.trans ((below_undrew hB5).mono hB.size)) nq⟩

set_option maxRecDepth 100000 in
theorem lifted (os : Os) (started : os.Started) (H : Type) (enc : TypeId × Value → H) :
    ReturnsInHanded {} Try.checked os 7 .any (Rows.bitsFirstSpec.pre6 enc Try.prog Try.f7 Rows.bitsFirstRow.domain false) (Rows.bitsFirstSpec.post enc Try.prog Try.f7 false true false false) := by
  refine returnsInHanded_of_change (C := Try.checked) own started (by kernel_rfl) Try.func7
    (ChangeSpec.witness6 (enc := enc) (C := Try.checked) false ⟨#[], #[.int .u64 0], []⟩ 8 (by kernel_rfl) (by kernel_rfl) (by kernel_rfl) (by kernel_rfl)) ?_
  intro W base args ds gs before hval0 hW hcnd _
  have hval : ∀ (j : Nat) t v, Try.f7.params[j]? = some t → args[j]? = some v → Value.okWide Try.prog W .any base t v := hval0
  have hW' := hW
  obtain ⟨p, q, hA0, hV, rfl, hfz, hnd⟩ := hW
  have hA : DataW.TrodAll enc Try.prog W 0 (fun _ => true) true Try.f7.params.toList args.toList ds p := hA0
  rw [Try.params7] at hA hval
  obtain ⟨v0, vs0, d0, ds0, p0, q0, hargs, rfl, rfl, h0, r0⟩ := trodAll_cons hA
  obtain ⟨rfl, rfl, rfl⟩ := trodAll_nil r0
  obtain rfl : args = #[v0] := by cases args; simp_all
  obtain ⟨rfl, rfl⟩ := trodVars_none hV
  obtain ⟨a0, rfl, rfl, rfl, w0⟩ := open_int Try.underlying23 (hval 0 23 v0 rfl rfl) h0
  clear hA0 hval0
  simp only [List.append_nil] at hW'
  refine (walk a0 w0 W).mono fun e W' ⟨he, hg⟩ => ?_
  subst he
  exact ⟨_, rfl, post_kept (pa := []) (pv := []) hW' (fun _ _ _ => (trodAll_cons_mk (shut_bool Try.underlying4 _) trodAll_mk0)) (fun sp _ => (trodAll_cons_mk (shut_int Try.underlying23 w0) trodAll_mk0)) (fun _ _ => rfl) rfl
    hg (ok_one (by kernel_rfl) rfl (okWide_bool_mk Try.underlying4 _))⟩

theorem over : Rows.bitsFirstRow.holds Try.pinned (OpenSpec.ofChange Rows.bitsFirstSpec) :=
  OpenClaim.holds_of_wide 7 Try.f7 rfl rfl rfl rfl rfl rfl rfl ⟨rfl, rfl, rfl, rfl, rfl⟩ rfl rfl rfl rfl rfl (by kernel_rfl) Try.func7 (by kernel_rfl)
    (of_decide_eq_true (by kernel_rfl)) (by unfold Func.isWrapper; first | (rw [if_pos (by decide +kernel)]; kernel_rfl) | (rw [if_neg (by decide +kernel)]; exact ⟨rfl, rfl⟩))
    (fun os started H enc _ => lifted os started H enc)

/-- The statement. -/
theorem proved : Rows.BitsFirstSaid :=
  over
end Go.Proofs.Ytlkplncfiohlcaa.bitsFirst
