/- regex's reader: a byte of an item. -/
import Derived.Test.YtndefngkkikkeaaRd
namespace Go.Proofs.Ytndefngkkikkeaa
open Go Go.RowKit Go.Lib
set_option linter.unusedVariables false

theorem itemByte_at {s : ByteArray} {i : Nat} (hi : i < s.size) : X3.itemByte (LL s) i =
    if (s[i]'hi).toNat = 93 ∨ (s[i]'hi).toNat = 45 then .err 5
    else if (s[i]'hi).toNat = 92 then X3.escX (LL s) (i + 1)
    else .ok (s[i]'hi).toNat (i + 1) := by
  unfold X3.itemByte; rw [x_take hi]; rfl

/-- What a reader comes to is what the one behind it comes to. -/
theorem NP.pass {b : Nat} {s : ByteArray} {w w1 w2 : World} {r : X3.PR Nat} {e : Ending} (hg : Gr b w w1) (h : NP b s w1 r e w2) : NP b s w r e w2 := by
  cases r with
  | err c => exact ⟨h.1, World.grownBy.trans hg h.2⟩
  | ok n j => exact ⟨h.1, h.2.1, World.grownBy.trans hg h.2.2.1, h.2.2.2⟩

set_option maxRecDepth 100000 in
set_option maxHeartbeats 4000000 in
theorem itemByte_any (b : Nat) (s : ByteArray) (i : Nat) (w : World) (h : Rd b s i w) (hs : s.size ≤ maxLen) (hi : i ≤ s.size) :
    Calls Try.prog 63 #[.pointer (some ⟨b, 0, none⟩)] w (NP b s w (X3.itemByte (LL s) i)) := by
  by_cases hlt : i < s.size
  · have k := hid (take_mid b s i w h hs hlt)
    have kf := hid fun w => fail_any b 5 w
    have hx := (s[i]'hlt).toNat_lt
    rw [itemByte_at hlt]
    generalize (s[i]'hlt).toNat = x at *
    by_cases c93 : x = 93
    · subst c93
      rw [if_pos (by omega)]
      go_enter Try.func63, Try.ntmps63
      go_wp2_with fail
      refine k.out.mono ?_
      rintro e w1 ⟨rfl, hr, hg⟩
      go_wp2_with fail
      refine (kf.out _).mono ?_
      rintro e w2 ⟨rfl, rfl⟩
      exact ⟨rfl, rfl, hg⟩
    have n93 : ((x : Int) == 93) = false := by simp; omega
    by_cases c45 : x = 45
    · subst c45
      rw [if_pos (by omega)]
      go_enter Try.func63, Try.ntmps63
      go_wp2_with fail
      refine k.out.mono ?_
      rintro e w1 ⟨rfl, hr, hg⟩
      go_wp2_with fail
      refine (kf.out _).mono ?_
      rintro e w2 ⟨rfl, rfl⟩
      exact ⟨rfl, rfl, hg⟩
    have n45 : ((x : Int) == 45) = false := by simp; omega
    rw [if_neg (by omega)]
    by_cases c92 : x = 92
    · subst c92
      rw [if_pos rfl]
      have ke := hid fun i w h hi => escaped_any b s i w h hs hi
      cases hD : X3.escX (LL s) (i + 1) with
      | err c =>
        go_enter Try.func63, Try.ntmps63
        go_wp2_with fail
        refine k.out.mono ?_
        rintro e w1 ⟨rfl, hr, hg⟩
        go_wp2_with fail
        refine (ke.out (i + 1) _ hr (by omega)).mono ?_
        intro e w2 h2
        rw [hD] at h2
        obtain ⟨rfl, hg2⟩ := h2
        exact ⟨rfl, rfl, World.grownBy.trans hg hg2⟩
      | ok n j =>
        go_enter Try.func63, Try.ntmps63
        go_wp2_with fail
        refine k.out.mono ?_
        rintro e w1 ⟨rfl, hr, hg⟩
        go_wp2_with fail
        refine (ke.out (i + 1) _ hr (by omega)).mono ?_
        intro e w2 h2
        rw [hD] at h2
        obtain ⟨rfl, hr2, hg2, hj, hn⟩ := h2
        go_wp2_with fail
        go_ret
        exact ⟨rfl, hr2, World.grownBy.trans hg hg2, hj, hn⟩
    rw [if_neg c92]
    have n92 : ((x : Int) == 92) = false := by simp; omega
    go_enter Try.func63, Try.ntmps63
    go_wp2_with fail
    refine k.out.mono ?_
    rintro e w1 ⟨rfl, hr, hg⟩
    go_wp2_with fail
    go_ret
    exact ⟨rfl, hr, hg, by omega, by omega⟩
  · obtain rfl : i = s.size := by omega
    have k := hid (take_end b s w h hs)
    have e1 : X3.itemByte (LL s) s.size = .err 5 := by unfold X3.itemByte; rw [x_take_end]; rfl
    rw [e1]
    go_enter Try.func63, Try.ntmps63
    go_wp2_with fail
    refine k.out.mono ?_
    rintro e w1 ⟨rfl, hg⟩
    exact ⟨rfl, rfl, hg⟩

end Go.Proofs.Ytndefngkkikkeaa
