/- The law BitsAll of package bits: whatever the set and the number, it answers true, and the set reads as before. -/
import Derived.Test.YtlkplncfiohlcaaRows
import Derived.WalkKit
import Derived.Test.YtlkplncfiohlcaaBt
import Derived.Test.YtlkplncfiohlcaaPo
import Derived.ProofKit
import Derived.OpenShut
namespace Go.Proofs.Ytlkplncfiohlcaa.bitsAll
open Go Go.ChangeShapes Go.WideShapes Go.ChangeAt Go.RowKit Go.Lib
set_option linter.unusedVariables false      -- a walk need not use every 'w<i>' (that an integer argument fits its kind)

theorem own : ownKnob Try.prog.godebug = none := by kernel_rfl

set_option maxRecDepth 100000 in
set_option maxHeartbeats 2000000 in
theorem walk (a0 : Int) (a1 : Int) (w0 : (Lit.int .u64 a0).wf = true) (w1 : (Lit.int .i64 a1).wf = true) (w : World) :
    Calls Try.prog 4 #[.int .u64 a0, .int .i64 a1] w fun e w' => e = .returned (.bool true) ∧ Below w.heap.size w w' := by
  obtain ⟨a, rfl, ha⟩ := nat_of_u64 w0
  obtain ⟨n, rfl⟩ : ∃ n, n = a1 := ⟨_, rfl⟩
  have kl := hid fun w => List_any a ha w
  have kc := hid fun w => Count_any a ha w
  have k1 := hid fun w => With_any a n ha w
  have k2 := hid fun w => Without_any a n ha w
  have hI := or_lt ha (bitN_lt n)
  have hO := lessN_lt ha (bitN n)
  have k3 := hid fun w => Has_any (a ||| bitN n) n hI w
  have k4 := hid fun w => Has_any (lessN a (bitN n)) n hO w
  rw [has_with] at k3
  rw [has_without] at k4
  have ko : Hid (∀ (base : Nat) (v : Value) (W : World), Listed base (upto a 64) W v → Calls Try.prog 16 #[v] W fun e w' => e = .returned (u64 a) ∧ W = w') := fun base v W h => Of_listed ha h
  have kr : Hid (∀ k, k < (upto a 64).length → (0 ≤ (ints (upto a 64)).getD k 0 ∧ (ints (upto a 64)).getD k 0 ≤ 63) ∧ (∀ w, Calls Try.prog 20 #[u64 a, .int .i64 ((ints (upto a 64)).getD k 0)] w fun e w' => e = .returned (.bool true) ∧ w' = w) ∧ (0 < k → (ints (upto a 64)).getD (k - 1) 0 < (ints (upto a 64)).getD k 0)) := all_round ha
  have hlen := upto_length a 64
  generalize hI2 : a ||| bitN n = I at *
  generalize hO2 : lessN a (bitN n) = O at *
  clear hI2 hO2 hI hO w0 w1
  generalize hl : upto a 64 = l at *
  clear hl
  go_enter Try.func4, Try.ntmps4
  go_wp2_with fail
  refine (works_any w).mono ?_
  rintro e w1 ⟨rfl, hB⟩
  go_wp2_with fail
  refine (kl.out _).mono ?_
  rintro e w2 ⟨v, rfl, hL, hB2⟩
  replace hB := hB.trans (hB2.mono hB.size)
  clear hB2
  have HL := hid hL
  obtain ⟨A, cap, rfl, hrd⟩ := hL.reads
  clear hL
  rw [show (ints l).length = l.length by simp [ints]] at hrd HL ⊢
  have HRD := hid hrd
  clear hrd
  go_wp2_with fail
  go_loopw [7] (fun i wr => ∃ k n : Nat, k ≤ l.length ∧ i = .int .i64 (k : Int) ∧ wr = w2.drewN n) (fun i _ => l.length - (intOf i).toNat)
  case atStart => exact ⟨0, 0, Nat.zero_le _, rfl, rfl⟩
  case round =>
    obtain ⟨k, m, hk, rfl, rfl⟩ := hrel
    by_cases hlt : k < l.length
    · obtain ⟨⟨x0, x1⟩, xh, xl⟩ := kr.out k hlt
      obtain ⟨b, off, rfl, hc⟩ := HRD.out (fun h => ints_ne hlt h)
      have g1 := hc k hlt
      have XH := hid xh
      clear xh
      obtain ⟨wo, hwo⟩ : ∃ wo, w2.drewN m = wo := ⟨_, rfl⟩
      replace hc : ∀ i, i < l.length → wo.cell? ⟨b, off + i, none⟩ = some (.int .i64 ((ints l).getD i 0)) := fun i hi => by rw [← hwo]; exact hc i (by simpa [ints] using hi)
      replace g1 := hc k hlt
      rw [hwo]
      have HW := hid hwo
      clear hwo
      have hi : (0 : Int) ≤ (k : Int) := by omega
      have hi2 : (k : Int) < (l.length : Int) := by omega
      by_cases h0 : k = 0
      · subst h0
        clear hc xl
        rw [Nat.add_zero] at g1
        generalize (ints l).getD 0 0 = x at *
        have y1 : decide (x < 0) = false := by simp; omega
        have y2 : decide (63 < x) = false := by simp; omega
        go_wp2_with fail
        go_quiet ((go_at_call 20; exact Calls.quiet_of_same (XH.out _)))
        go_wp2
        exact ⟨⟨1, m + nq, by omega, rfl, by rw [← HW.out, World.drewN_drewN]⟩, by simp [intOf]; omega⟩
      · have g2 := hc (k - 1) (by omega)
        have hx := xl (by omega)
        clear hc xl
        generalize (ints l).getD k 0 = x at *
        generalize (ints l).getD (k - 1) 0 = y at *
        have y1 : decide (x < 0) = false := by simp; omega
        have y2 : decide (63 < x) = false := by simp; omega
        have y3 : decide (x ≤ y) = false := by simp; omega
        have y4 : decide (0 < k) = true := by simp; omega
        have i3 : (0 : Int) ≤ (k : Int) - 1 := by omega
        have i4 : (k : Int) - 1 < (l.length : Int) := by omega
        go_wp2_with fail
        go_quiet ((go_at_call 20; exact Calls.quiet_of_same (XH.out _)))
        go_wp2
        exact ⟨⟨k + 1, m + nq, by omega, by go_num, by rw [← HW.out, World.drewN_drewN]⟩, by simp [intOf]; omega⟩
    · have HL3 : Hid (Listed w1.heap.size l (w2.drewN m) (.slice A l.length cap)) := ⟨HL.out.1, HL.out.2⟩
      replace hB := below_drewN hB m
      obtain ⟨wo, hwo⟩ : ∃ wo, w2.drewN m = wo := ⟨_, rfl⟩
      rw [hwo] at HL3 hB ⊢
      clear HL HRD hwo kr
      have hcs : (0 ≤ n ∧ n < 64) ∨ (0 ≤ n ∧ 64 ≤ n) ∨ n < 0 := by omega
      have k3' : ∃ B : Bool, B = decide (0 ≤ n ∧ n < 64) := ⟨_, rfl⟩
      obtain ⟨B, hBB⟩ := k3'
      rw [← hBB] at k3
      have HBB : Hid (B = decide (0 ≤ n ∧ n < 64)) := hBB
      clear hBB
      rcases hcs with ⟨n0, n1⟩ | ⟨n0, n1⟩ | n0
      · obtain rfl : B = true := by rw [HBB.out]; simp; omega
        clear HBB
        go_wp2_with fail
        refine (ko.out _ _ _ HL3.out).mono ?_
        rintro e w' ⟨rfl, rfl⟩
        go_wp2_with fail
        refine (kc.out _).mono ?_
        rintro e w4 ⟨rfl, hB4⟩
        replace hB := hB.trans (hB4.mono hB.size)
        clear hB4 HL3
        go_wp2_with fail
        refine (k1.out _).mono ?_
        rintro e w' ⟨rfl, rfl⟩
        go_wp2_with fail
        refine (k3.out _).mono ?_
        rintro e w' ⟨rfl, rfl⟩
        go_wp2_with fail
        refine (k2.out _).mono ?_
        rintro e w' ⟨rfl, rfl⟩
        go_wp2_with fail
        refine (k4.out _).mono ?_
        rintro e w' ⟨rfl, rfl⟩
        go_wp2
        go_ret
        exact ⟨rfl, hB⟩
      · obtain rfl : B = false := by rw [HBB.out]; simp; omega
        clear HBB
        have n2 : decide (n < 64) = false := by simp; omega
        go_wp2_with fail
        refine (ko.out _ _ _ HL3.out).mono ?_
        rintro e w' ⟨rfl, rfl⟩
        go_wp2_with fail
        refine (kc.out _).mono ?_
        rintro e w4 ⟨rfl, hB4⟩
        replace hB := hB.trans (hB4.mono hB.size)
        clear hB4 HL3
        go_wp2_with fail
        refine (k1.out _).mono ?_
        rintro e w' ⟨rfl, rfl⟩
        go_wp2_with fail
        refine (k3.out _).mono ?_
        rintro e w' ⟨rfl, rfl⟩
        go_wp2_with fail
        refine (k2.out _).mono ?_
        rintro e w' ⟨rfl, rfl⟩
        go_wp2_with fail
        refine (k4.out _).mono ?_
        rintro e w' ⟨rfl, rfl⟩
        go_wp2
        go_ret
        exact ⟨rfl, hB⟩
      · obtain rfl : B = false := by rw [HBB.out]; simp; omega
        clear HBB
        go_wp2_with fail
        refine (ko.out _ _ _ HL3.out).mono ?_
        rintro e w' ⟨rfl, rfl⟩
        go_wp2_with fail
        refine (kc.out _).mono ?_
        rintro e w4 ⟨rfl, hB4⟩
        replace hB := hB.trans (hB4.mono hB.size)
        clear hB4 HL3
        go_wp2_with fail
        refine (k1.out _).mono ?_
        rintro e w' ⟨rfl, rfl⟩
        go_wp2_with fail
        refine (k3.out _).mono ?_
        rintro e w' ⟨rfl, rfl⟩
        go_wp2_with fail
        refine (k2.out _).mono ?_
        rintro e w' ⟨rfl, rfl⟩
        go_wp2_with fail
        refine (k4.out _).mono ?_
        rintro e w' ⟨rfl, rfl⟩
        go_wp2
        go_ret
        exact ⟨rfl, hB⟩

set_option maxRecDepth 100000 in
theorem lifted (os : Os) (started : os.Started) (H : Type) (enc : TypeId × Value → H) :
    ReturnsInHanded {} Try.checked os 4 .any (Rows.bitsAllSpec.pre6 enc Try.prog Try.f4 Rows.bitsAllRow.domain false) (Rows.bitsAllSpec.post enc Try.prog Try.f4 false true false false) := by
  refine returnsInHanded_of_change (C := Try.checked) own started (by kernel_rfl) Try.func4
    (ChangeSpec.witness6 (enc := enc) (C := Try.checked) false ⟨#[], #[.int .u64 0, .int .i64 0], []⟩ 8 (by kernel_rfl) (by kernel_rfl) (by kernel_rfl) (by kernel_rfl)) ?_
  intro W base args ds gs before hval0 hW hcnd _
  have hval : ∀ (j : Nat) t v, Try.f4.params[j]? = some t → args[j]? = some v → Value.okWide Try.prog W .any base t v := hval0
  have hW' := hW
  obtain ⟨p, q, hA0, hV, rfl, hfz, hnd⟩ := hW
  have hA : DataW.TrodAll enc Try.prog W 0 (fun _ => true) true Try.f4.params.toList args.toList ds p := hA0
  rw [Try.params4] at hA hval
  obtain ⟨v0, vs0, d0, ds0, p0, q0, hargs, rfl, rfl, h0, r0⟩ := trodAll_cons hA
  obtain ⟨v1, vs1, d1, ds1, p1, q1, rfl, rfl, rfl, h1, r1⟩ := trodAll_cons r0
  obtain ⟨rfl, rfl, rfl⟩ := trodAll_nil r1
  obtain rfl : args = #[v0, v1] := by cases args; simp_all
  obtain ⟨rfl, rfl⟩ := trodVars_none hV
  obtain ⟨a0, rfl, rfl, rfl, w0⟩ := open_int Try.underlying23 (hval 0 23 v0 rfl rfl) h0
  obtain ⟨a1, rfl, rfl, rfl, w1⟩ := open_int Try.underlying3 (hval 1 3 v1 rfl rfl) h1
  clear hA0 hval0
  simp only [List.append_nil] at hW'
  refine (walk a0 a1 w0 w1 W).mono fun e W' ⟨he, hg⟩ => ?_
  subst he
  exact ⟨_, rfl, post_kept (pa := []) (pv := []) hW' (fun _ _ _ => (trodAll_cons_mk (shut_bool Try.underlying4 _) trodAll_mk0)) (fun sp _ => (trodAll_cons_mk (shut_int Try.underlying23 w0) (trodAll_cons_mk (shut_int Try.underlying3 w1) trodAll_mk0))) (fun _ _ => rfl) rfl
    hg (ok_one (by kernel_rfl) rfl (okWide_bool_mk Try.underlying4 _))⟩

theorem over : Rows.bitsAllRow.holds Try.pinned (OpenSpec.ofChange Rows.bitsAllSpec) :=
  OpenClaim.holds_of_wide 4 Try.f4 rfl rfl rfl rfl rfl rfl rfl ⟨rfl, rfl, rfl, rfl, rfl⟩ rfl rfl rfl rfl rfl (by kernel_rfl) Try.func4 (by kernel_rfl)
    (of_decide_eq_true (by kernel_rfl)) (by unfold Func.isWrapper; first | (rw [if_pos (by decide +kernel)]; kernel_rfl) | (rw [if_neg (by decide +kernel)]; exact ⟨rfl, rfl⟩))
    (fun os started H enc _ => lifted os started H enc)

/-- The statement. -/
theorem proved : Rows.BitsAllSaid :=
  over
end Go.Proofs.Ytlkplncfiohlcaa.bitsAll
