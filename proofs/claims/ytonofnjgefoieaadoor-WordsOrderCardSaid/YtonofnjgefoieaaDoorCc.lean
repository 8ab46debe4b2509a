/- word.IsName, at every text. -/
import Derived.Test.YtonofnjgefoieaaDoorCb
namespace Go.Proofs.YtonofnjgefoieaaDoor
open Go Go.RowKit Go.Lib Go.Proofs.W8
set_option linter.unusedVariables false

theorem isName_cons (s : ByteArray) (h : 0 < s.size) : isName s.data.toList = (decide (s.size ≤ 32) && lt (s[0]'h) && decide (runL nm s.data.toList = s.size)) := by
  have e : s.data.toList = s[0]'h :: s.data.toList.drop 1 := by have := drop_at s 0 h; simpa using this
  have hl : s.data.toList.length = s.size := rfl
  generalize hL : s.data.toList = L at *
  cases L with
  | nil => cases e
  | cons b t =>
    have hb : b = s[0]'h := by injection e
    subst hb
    simp only [isName, hl]

theorem empty_no {s : ByteArray} (h : 0 < s.size) : s.toList.isEmpty = false := by
  rw [ByteArray.toList_eq]
  cases hL : s.data.toList with
  | nil => have : s.data.toList.length = s.size := rfl; rw [hL] at this; simp at this; omega
  | cons => rfl
theorem byte_lt (b : UInt8) : (b.toNat : Int) < 256 := by have := b.toNat_lt; omega

set_option maxRecDepth 100000 in
set_option maxHeartbeats 1000000 in
theorem IsName_any (s : ByteArray) (w : World) (hs : s.size ≤ maxLen) :
    Calls Tryd.prog 13 #[.string s] w fun e w' => e = .returned (.bool (isName s.data.toList)) ∧ Below w.heap.size w w' := by
  have kr := hid fun w => run_names s w hs
  unfold maxLen at hs
  by_cases h0 : s.size = 0
  · obtain rfl : s = ⟨#[]⟩ := by
      cases s; rename_i d; congr; exact Array.eq_empty_of_size_eq_zero h0
    clear h0 hs
    go_enter Tryd.func13, Tryd.ntmps13
    go_wp2_with fail
    go_ret
    exact ⟨rfl, Below.refl _ _⟩
  · have hp : 0 < s.size := by omega
    have hn := isName_cons s hp
    rw [hn]
    clear hn
    have e1 := empty_no hp
    have e2 := byte_lt (s[0]'hp)
    by_cases h32 : s.size ≤ 32
    · have kl := hid fun w => letter_any ((s[0]'hp).toNat : Int) w
      rw [ltI_nat] at kl
      cases hc : lt (s[0]'hp) with
      | true =>
        rw [hc] at kl
        clear hc h0
        go_enter Tryd.func13, Tryd.ntmps13
        go_wp2_with fail
        refine (kl.out _).mono ?_
        rintro e w1 ⟨rfl, rfl⟩
        go_wp2_with fail
        refine (kr.out _).mono ?_
        rintro e w1 ⟨rfl, hb⟩
        go_wp2_with fail
        go_ret
        exact ⟨ret_b (by simp [h32]; rw [Bool.eq_iff_iff]; simp; omega), hb⟩
      | false =>
        rw [hc] at kl
        clear hc h0
        go_enter Tryd.func13, Tryd.ntmps13
        go_wp2_with fail
        refine (kl.out _).mono ?_
        rintro e w1 ⟨rfl, rfl⟩
        go_wp2_with fail
        go_ret
        exact ⟨ret_b (by simp), Below.refl _ _⟩
    · have hd : decide (s.size ≤ 32) = false := by simpa using h32
      rw [hd]
      have h33 : (32 : Int) < (s.size : Int) := by omega
      clear hd h0 h32
      go_enter Tryd.func13, Tryd.ntmps13
      go_wp2_with fail
      go_ret
      exact ⟨ret_b (by simp), Below.refl _ _⟩

end Go.Proofs.YtonofnjgefoieaaDoor
