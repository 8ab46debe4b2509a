/- word's letter, digit, ofName and run, at every text. -/
import Derived.WalkKit
import Derived.Lib.Hide
import Derived.WalkSmall
import Derived.WalkSpells
import Derived.Outline
import Derived.LoopTactic
import Derived.Lib.OthersKept
import Derived.Test.YtonofnjgefoieaaDoorWd
import Derived.Test.YtonofnjgefoieaaDoorProg
namespace Go.Proofs.YtonofnjgefoieaaDoor
open Go Go.RowKit Go.Lib Go.Proofs.W8
set_option linter.unusedVariables false

theorem ret_b {a b : Bool} (h : a = b) : Ending.returned (.bool a) = .returned (.bool b) := by rw [h]
theorem ret_i {k : IntKind} {a b : Int} (h : a = b) : Ending.returned (.int k a) = .returned (.int k b) := by rw [h]

def ltI (r : Int) : Bool := decide (97 ≤ r ∧ r ≤ 122) || decide (65 ≤ r ∧ r ≤ 90) || decide (r = 95)
def dgI (r : Int) : Bool := decide (48 ≤ r ∧ r ≤ 57)
def nmI (r : Int) : Bool := ltI r || dgI r
def no10I (r : Int) : Bool := decide (r ≠ 10)

theorem ltI_nat (b : UInt8) : ltI (b.toNat : Int) = lt b := by
  have e1 : decide (97 ≤ (b.toNat : Int) ∧ (b.toNat : Int) ≤ 122) = decide (97 ≤ b.toNat ∧ b.toNat ≤ 122) := by rw [decide_eq_decide]; omega
  have e2 : decide (65 ≤ (b.toNat : Int) ∧ (b.toNat : Int) ≤ 90) = decide (65 ≤ b.toNat ∧ b.toNat ≤ 90) := by rw [decide_eq_decide]; omega
  have e3 : decide ((b.toNat : Int) = 95) = decide (b.toNat = 95) := by rw [decide_eq_decide]; omega
  unfold ltI lt; rw [e1, e2, e3]
theorem dgI_nat (b : UInt8) : dgI (b.toNat : Int) = dg b := by
  unfold dgI dg; rw [decide_eq_decide]; omega
theorem nmI_nat (b : UInt8) : nmI (b.toNat : Int) = nm b := by unfold nmI nm; rw [ltI_nat, dgI_nat]
theorem no10I_nat (b : UInt8) : no10I (b.toNat : Int) = no10 b := by unfold no10I no10; rw [decide_eq_decide]; omega

set_option maxHeartbeats 1000000 in
theorem letter_any (r : Int) (w : World) : Calls Tryd.prog 20 #[.int .i32 r] w fun e w' => e = .returned (.bool (ltI r)) ∧ w = w' := by
  by_cases h5 : r = 95
  · subst h5
    go_enter Tryd.func20, Tryd.ntmps20
    go_wp2
    go_ret
    exact ⟨rfl, rfl⟩
  · have hd : ltI r = (decide (97 ≤ r ∧ r ≤ 122) || decide (65 ≤ r ∧ r ≤ 90)) := by simp [ltI, h5]
    rw [hd]
    clear hd
    by_cases h1 : 97 ≤ r
    · by_cases h2 : r ≤ 122
      · have hd : (decide (97 ≤ r ∧ r ≤ 122) || decide (65 ≤ r ∧ r ≤ 90)) = true := by simp; omega
        rw [hd]; clear hd
        go_enter Tryd.func20, Tryd.ntmps20
        go_wp2
        go_ret
        exact ⟨rfl, rfl⟩
      · have hd : (decide (97 ≤ r ∧ r ≤ 122) || decide (65 ≤ r ∧ r ≤ 90)) = false := by simp; omega
        rw [hd]; clear hd
        have k1 : decide (r ≤ 122) = false := by simp; omega
        have k2 : decide (r ≤ 90) = false := by simp; omega
        go_enter Tryd.func20, Tryd.ntmps20
        go_wp2
        go_ret
        exact ⟨ret_b (by simp; omega), rfl⟩
    · have k0 : decide (97 ≤ r) = false := by simp; omega
      have hd : (decide (97 ≤ r ∧ r ≤ 122) || decide (65 ≤ r ∧ r ≤ 90)) = decide (65 ≤ r ∧ r ≤ 90) := by
        have : decide (97 ≤ r ∧ r ≤ 122) = false := by simp; omega
        rw [this]; rfl
      rw [hd]; clear hd
      by_cases h3 : 65 ≤ r
      · by_cases h4 : r ≤ 90
        · have hd : decide (65 ≤ r ∧ r ≤ 90) = true := by simp; omega
          rw [hd]; clear hd
          go_enter Tryd.func20, Tryd.ntmps20
          go_wp2
          go_ret
          exact ⟨rfl, rfl⟩
        · have hd : decide (65 ≤ r ∧ r ≤ 90) = false := by simp; omega
          rw [hd]; clear hd
          go_enter Tryd.func20, Tryd.ntmps20
          go_wp2
          go_ret
          exact ⟨ret_b (by simp; omega), rfl⟩
      · have hd : decide (65 ≤ r ∧ r ≤ 90) = false := by simp; omega
        rw [hd]; clear hd
        go_enter Tryd.func20, Tryd.ntmps20
        go_wp2
        go_ret
        exact ⟨ret_b (by simp; omega), rfl⟩

theorem digit_any (r : Int) (w : World) : Calls Tryd.prog 27 #[.int .i32 r] w fun e w' => e = .returned (.bool (dgI r)) ∧ w = w' := by
  by_cases h1 : 48 ≤ r
  · go_enter Tryd.func27, Tryd.ntmps27
    go_wp2
    all_goals
      go_ret
      exact ⟨ret_b (by unfold dgI; simp; omega), rfl⟩
  · go_enter Tryd.func27, Tryd.ntmps27
    go_wp2
    all_goals
      go_ret
      exact ⟨ret_b (by unfold dgI; simp; omega), rfl⟩

theorem letter_y (r : Int) (w : World) (h : ltI r = true) : Calls Tryd.prog 20 #[.int .i32 r] w fun e w' => e = .returned (.bool true) ∧ w = w' := h ▸ letter_any r w
theorem letter_n (r : Int) (w : World) (h : ltI r = false) : Calls Tryd.prog 20 #[.int .i32 r] w fun e w' => e = .returned (.bool false) ∧ w = w' := h ▸ letter_any r w
theorem digit_y (r : Int) (w : World) (h : dgI r = true) : Calls Tryd.prog 27 #[.int .i32 r] w fun e w' => e = .returned (.bool true) ∧ w = w' := h ▸ digit_any r w
theorem digit_n (r : Int) (w : World) (h : dgI r = false) : Calls Tryd.prog 27 #[.int .i32 r] w fun e w' => e = .returned (.bool false) ∧ w = w' := h ▸ digit_any r w

theorem ofName_any (r : Int) (w : World) : Calls Tryd.prog 22 #[.int .i32 r] w fun e w' => e = .returned (.bool (nmI r)) ∧ w = w' := by
  by_cases h : ltI r = true
  · have hn : nmI r = true := by simp [nmI, h]
    rw [hn]
    have k := hid fun w => letter_y r w h
    clear hn h
    go_enter Tryd.func22, Tryd.ntmps22
    go_wp2_with (refine (k.out _).mono ?_; rintro e w' ⟨rfl, rfl⟩)
    go_ret
    exact ⟨rfl, rfl⟩
  · have h' : ltI r = false := by simpa using h
    have hn : nmI r = dgI r := by simp [nmI, h']
    rw [hn]
    have k := hid fun w => letter_n r w h'
    have k2 := hid fun w => digit_any r w
    clear hn h h'
    generalize dgI r = d at *
    go_enter Tryd.func22, Tryd.ntmps22
    go_wp2_with (first | (go_at_call 20; refine (k.out _).mono ?_; rintro e w' ⟨rfl, rfl⟩) | (go_at_call 27; refine (k2.out _).mono ?_; rintro e w' ⟨rfl, rfl⟩))
    go_ret
    exact ⟨rfl, rfl⟩

theorem not10_any (r : Int) (w : World) : Calls Tryd.prog 23 #[.int .i32 r] w fun e w' => e = .returned (.bool (no10I r)) ∧ w = w' := by
  by_cases h : r = 10
  · subst h
    go_enter Tryd.func23, Tryd.ntmps23
    go_wp2
    go_ret
    exact ⟨rfl, rfl⟩
  · go_enter Tryd.func23, Tryd.ntmps23
    go_wp2
    go_ret
    exact ⟨ret_b (by simp [no10I, h]), rfl⟩

end Go.Proofs.YtonofnjgefoieaaDoor
