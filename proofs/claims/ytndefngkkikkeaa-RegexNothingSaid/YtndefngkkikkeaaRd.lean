/- regex's reader: an escaped byte, a byte of an item. -/
import Derived.Test.YtndefngkkikkeaaRc
namespace Go.Proofs.Ytndefngkkikkeaa
open Go Go.RowKit Go.Lib
set_option linter.unusedVariables false

theorem digitX_lt {L : List UInt8} {i n j : Nat} (h : X3.digitX L i = .ok n j) : n < 16 := by
  unfold X3.digitX at h
  obtain ⟨b, k, h1, h2⟩ := X3.bind_ok h
  split at h2
  · injection h2; omega
  · split at h2
    · injection h2; omega
    · cases h2

theorem or16 : ∀ h l : Fin 16, bits BinOp.or IntKind.u8 ((h.val : Int) * 16) (l.val : Int) = ((h.val * 16 + l.val : Nat) : Int) := by decide

theorem escX_at {s : ByteArray} {i : Nat} (hi : i < s.size) : X3.escX (LL s) i =
    if (s[i]'hi).toNat = 110 then .ok 10 (i + 1)
    else if (s[i]'hi).toNat = 116 then .ok 9 (i + 1)
    else if (s[i]'hi).toNat = 114 then .ok 13 (i + 1)
    else if (s[i]'hi).toNat = 115 then .ok 32 (i + 1)
    else if (s[i]'hi).toNat = 120 then (X3.digitX (LL s) (i + 1)).bind fun h k => (X3.digitX (LL s) k).bind fun l m => .ok (h * 16 + l) m
    else if (97 ≤ (s[i]'hi).toNat ∧ (s[i]'hi).toNat ≤ 122) ∨ (65 ≤ (s[i]'hi).toNat ∧ (s[i]'hi).toNat ≤ 90) ∨ (48 ≤ (s[i]'hi).toNat ∧ (s[i]'hi).toNat ≤ 57) then .err 5
    else .ok (s[i]'hi).toNat (i + 1) := by
  unfold X3.escX; rw [x_take hi]; rfl

set_option maxRecDepth 100000 in
set_option maxHeartbeats 4000000 in
theorem escaped_any (b : Nat) (s : ByteArray) (i : Nat) (w : World) (h : Rd b s i w) (hs : s.size ≤ maxLen) (hi : i ≤ s.size) :
    Calls Try.prog 62 #[.pointer (some ⟨b, 0, none⟩)] w (NP b s w (X3.escX (LL s) i)) := by
  by_cases hlt : i < s.size
  · have k := hid (take_mid b s i w h hs hlt)
    have kf := hid fun w => fail_any b 5 w
    have hx := (s[i]'hlt).toNat_lt
    rw [escX_at hlt]
    generalize (s[i]'hlt).toNat = x at *
    by_cases c110 : x = 110
    · subst c110
      rw [if_pos rfl]
      go_enter Try.func62, Try.ntmps62
      go_wp2_with fail
      refine k.out.mono ?_
      rintro e w1 ⟨rfl, hr, hg⟩
      go_wp2_with fail
      go_ret
      exact ⟨rfl, hr, hg, by omega, by omega⟩
    rw [if_neg c110]
    have n110 : ((x : Int) == 110) = false := by simp; omega
    by_cases c116 : x = 116
    · subst c116
      rw [if_pos rfl]
      go_enter Try.func62, Try.ntmps62
      go_wp2_with fail
      refine k.out.mono ?_
      rintro e w1 ⟨rfl, hr, hg⟩
      go_wp2_with fail
      go_ret
      exact ⟨rfl, hr, hg, by omega, by omega⟩
    rw [if_neg c116]
    have n116 : ((x : Int) == 116) = false := by simp; omega
    by_cases c114 : x = 114
    · subst c114
      rw [if_pos rfl]
      go_enter Try.func62, Try.ntmps62
      go_wp2_with fail
      refine k.out.mono ?_
      rintro e w1 ⟨rfl, hr, hg⟩
      go_wp2_with fail
      go_ret
      exact ⟨rfl, hr, hg, by omega, by omega⟩
    rw [if_neg c114]
    have n114 : ((x : Int) == 114) = false := by simp; omega
    by_cases c115 : x = 115
    · subst c115
      rw [if_pos rfl]
      go_enter Try.func62, Try.ntmps62
      go_wp2_with fail
      refine k.out.mono ?_
      rintro e w1 ⟨rfl, hr, hg⟩
      go_wp2_with fail
      go_ret
      exact ⟨rfl, hr, hg, by omega, by omega⟩
    rw [if_neg c115]
    have n115 : ((x : Int) == 115) = false := by simp; omega
    by_cases c120 : x = 120
    · subst c120
      rw [if_pos rfl]
      have kd := hid fun i w h hi => digit_any b s i w h hs hi
      cases hD : X3.digitX (LL s) (i + 1) with
      | err c =>
        show Calls _ _ _ _ (NP b s w (.err c))
        go_enter Try.func62, Try.ntmps62
        go_wp2_with fail
        refine k.out.mono ?_
        rintro e w1 ⟨rfl, hr, hg⟩
        go_wp2_with fail
        refine (kd.out (i + 1) _ hr (by omega)).mono ?_
        intro e w2 h2
        rw [hD] at h2
        obtain ⟨rfl, hg2⟩ := h2
        exact ⟨rfl, rfl, World.grownBy.trans hg hg2⟩
      | ok hh j =>
        show Calls _ _ _ _ (NP b s w ((X3.digitX (LL s) j).bind fun l m => .ok (hh * 16 + l) m))
        have l1 := digitX_lt hD
        cases hE : X3.digitX (LL s) j with
        | err c =>
          show Calls _ _ _ _ (NP b s w (.err c))
          go_enter Try.func62, Try.ntmps62
          go_wp2_with fail
          refine k.out.mono ?_
          rintro e w1 ⟨rfl, hr, hg⟩
          go_wp2_with fail
          refine (kd.out (i + 1) _ hr (by omega)).mono ?_
          intro e w2 h2
          rw [hD] at h2
          obtain ⟨rfl, hr2, hg2, hj, _⟩ := h2
          go_wp2_with fail
          refine (kd.out j _ hr2 hj).mono ?_
          intro e w3 h3
          rw [hE] at h3
          obtain ⟨rfl, hg3⟩ := h3
          exact ⟨rfl, rfl, World.grownBy.trans (World.grownBy.trans hg hg2) hg3⟩
        | ok ll m =>
          show Calls _ _ _ _ (NP b s w (.ok (hh * 16 + ll) m))
          have l2 := digitX_lt hE
          have hor : bits BinOp.or IntKind.u8 ((hh : Int) * 16) (ll : Int) = ((hh * 16 + ll : Nat) : Int) := or16 ⟨hh, l1⟩ ⟨ll, l2⟩
          go_enter Try.func62, Try.ntmps62
          go_wp2_with fail
          refine k.out.mono ?_
          rintro e w1 ⟨rfl, hr, hg⟩
          go_wp2_with fail
          refine (kd.out (i + 1) _ hr (by omega)).mono ?_
          intro e w2 h2
          rw [hD] at h2
          obtain ⟨rfl, hr2, hg2, hj, _⟩ := h2
          go_wp2_with fail
          refine (kd.out j _ hr2 hj).mono ?_
          intro e w3 h3
          rw [hE] at h3
          obtain ⟨rfl, hr3, hg3, hm, _⟩ := h3
          go_wp2_with fail
          go_ret
          exact ⟨rfl, hr3, World.grownBy.trans (World.grownBy.trans hg hg2) hg3, hm, by omega⟩
    rw [if_neg c120]
    have n120 : ((x : Int) == 120) = false := by simp; omega
    by_cases r0 : x ≤ 47
    · skip
      have t0 : ¬ (97 : Int) ≤ x := by omega
      have t1 : (x : Int) ≤ 122 := by omega
      have t2 : ¬ (65 : Int) ≤ x := by omega
      have t3 : (x : Int) ≤ 90 := by omega
      have t4 : ¬ (48 : Int) ≤ x := by omega
      have t5 : (x : Int) ≤ 57 := by omega
      rw [if_neg (by omega)]
      go_enter Try.func62, Try.ntmps62
      go_wp2_with fail
      refine k.out.mono ?_
      rintro e w1 ⟨rfl, hr, hg⟩
      go_wp2_with fail
      go_ret
      exact ⟨rfl, hr, hg, by omega, by omega⟩
    by_cases r1 : x ≤ 57
    · skip
      have t0 : ¬ (97 : Int) ≤ x := by omega
      have t1 : (x : Int) ≤ 122 := by omega
      have t2 : ¬ (65 : Int) ≤ x := by omega
      have t3 : (x : Int) ≤ 90 := by omega
      have t4 : (48 : Int) ≤ x := by omega
      have t5 : (x : Int) ≤ 57 := by omega
      rw [if_pos (by omega)]
      go_enter Try.func62, Try.ntmps62
      go_wp2_with fail
      refine k.out.mono ?_
      rintro e w1 ⟨rfl, hr, hg⟩
      go_wp2_with fail
      refine (kf.out _).mono ?_
      rintro e w2 ⟨rfl, rfl⟩
      exact ⟨rfl, rfl, hg⟩
    by_cases r2 : x ≤ 64
    · skip
      have t0 : ¬ (97 : Int) ≤ x := by omega
      have t1 : (x : Int) ≤ 122 := by omega
      have t2 : ¬ (65 : Int) ≤ x := by omega
      have t3 : (x : Int) ≤ 90 := by omega
      have t4 : (48 : Int) ≤ x := by omega
      have t5 : ¬ (x : Int) ≤ 57 := by omega
      rw [if_neg (by omega)]
      go_enter Try.func62, Try.ntmps62
      go_wp2_with fail
      refine k.out.mono ?_
      rintro e w1 ⟨rfl, hr, hg⟩
      go_wp2_with fail
      go_ret
      exact ⟨rfl, hr, hg, by omega, by omega⟩
    by_cases r3 : x ≤ 90
    · skip
      have t0 : ¬ (97 : Int) ≤ x := by omega
      have t1 : (x : Int) ≤ 122 := by omega
      have t2 : (65 : Int) ≤ x := by omega
      have t3 : (x : Int) ≤ 90 := by omega
      have t4 : (48 : Int) ≤ x := by omega
      have t5 : ¬ (x : Int) ≤ 57 := by omega
      rw [if_pos (by omega)]
      go_enter Try.func62, Try.ntmps62
      go_wp2_with fail
      refine k.out.mono ?_
      rintro e w1 ⟨rfl, hr, hg⟩
      go_wp2_with fail
      refine (kf.out _).mono ?_
      rintro e w2 ⟨rfl, rfl⟩
      exact ⟨rfl, rfl, hg⟩
    by_cases r4 : x ≤ 96
    · skip
      have t0 : ¬ (97 : Int) ≤ x := by omega
      have t1 : (x : Int) ≤ 122 := by omega
      have t2 : (65 : Int) ≤ x := by omega
      have t3 : ¬ (x : Int) ≤ 90 := by omega
      have t4 : (48 : Int) ≤ x := by omega
      have t5 : ¬ (x : Int) ≤ 57 := by omega
      rw [if_neg (by omega)]
      go_enter Try.func62, Try.ntmps62
      go_wp2_with fail
      refine k.out.mono ?_
      rintro e w1 ⟨rfl, hr, hg⟩
      go_wp2_with fail
      go_ret
      exact ⟨rfl, hr, hg, by omega, by omega⟩
    by_cases r5 : x ≤ 122
    · skip
      have t0 : (97 : Int) ≤ x := by omega
      have t1 : (x : Int) ≤ 122 := by omega
      have t2 : (65 : Int) ≤ x := by omega
      have t3 : ¬ (x : Int) ≤ 90 := by omega
      have t4 : (48 : Int) ≤ x := by omega
      have t5 : ¬ (x : Int) ≤ 57 := by omega
      rw [if_pos (by omega)]
      go_enter Try.func62, Try.ntmps62
      go_wp2_with fail
      refine k.out.mono ?_
      rintro e w1 ⟨rfl, hr, hg⟩
      go_wp2_with fail
      refine (kf.out _).mono ?_
      rintro e w2 ⟨rfl, rfl⟩
      exact ⟨rfl, rfl, hg⟩
    have t0 : (97 : Int) ≤ x := by omega
    have t1 : ¬ (x : Int) ≤ 122 := by omega
    have t2 : (65 : Int) ≤ x := by omega
    have t3 : ¬ (x : Int) ≤ 90 := by omega
    have t4 : (48 : Int) ≤ x := by omega
    have t5 : ¬ (x : Int) ≤ 57 := by omega
    rw [if_neg (by omega)]
    go_enter Try.func62, Try.ntmps62
    go_wp2_with fail
    refine k.out.mono ?_
    rintro e w1 ⟨rfl, hr, hg⟩
    go_wp2_with fail
    go_ret
    exact ⟨rfl, hr, hg, by omega, by omega⟩
  · obtain rfl : i = s.size := by omega
    have k := hid (take_end b s w h hs)
    have e1 : X3.escX (LL s) s.size = .err 5 := by unfold X3.escX; rw [x_take_end]; rfl
    rw [e1]
    go_enter Try.func62, Try.ntmps62
    go_wp2_with fail
    refine k.out.mono ?_
    rintro e w1 ⟨rfl, hg⟩
    exact ⟨rfl, rfl, hg⟩

end Go.Proofs.Ytndefngkkikkeaa
