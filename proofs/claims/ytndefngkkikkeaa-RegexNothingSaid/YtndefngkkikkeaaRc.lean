/- regex's reader: digit, escaped, a byte of an item: as the mathematics reads them. -/
import Derived.Test.YtndefngkkikkeaaRb
import Derived.Test.YtndefngkkikkeaaXa
namespace Go.Proofs.Ytndefngkkikkeaa
open Go Go.RowKit Go.Lib
set_option linter.unusedVariables false

abbrev LL (s : ByteArray) : List UInt8 := s.data.toList

/-- What a reader of a byte comes to. -/
def NP (b : Nat) (s : ByteArray) (w : World) (r : X3.PR Nat) (e : Ending) (w' : World) : Prop :=
  match r with
  | .ok n j => e = .returned (.int .u8 (n : Int)) ∧ (Rd b s j w' ∧ Gr b w w' ∧ j ≤ s.size ∧ n < 256)
  | .err c => e = flt c ∧ Gr b w w'

theorem ll_at {s : ByteArray} {i : Nat} (hi : i < s.size) : (LL s)[i]? = some (s[i]'hi) := by
  show s.data.toList[i]? = _
  rw [Array.getElem?_toList]
  exact Array.getElem?_eq_getElem hi
theorem ll_end (s : ByteArray) : (LL s)[s.size]? = none := by
  show s.data.toList[s.data.size]? = _
  rw [Array.getElem?_toList]
  simp
theorem x_take {s : ByteArray} {i : Nat} (hi : i < s.size) : X3.take (LL s) i = .ok (s[i]'hi) (i + 1) := by
  unfold X3.take; rw [ll_at hi]
theorem x_take_end (s : ByteArray) : X3.take (LL s) s.size = .err 5 := by
  unfold X3.take; rw [ll_end]

set_option maxHeartbeats 2000000 in
theorem digit_any (b : Nat) (s : ByteArray) (i : Nat) (w : World) (h : Rd b s i w) (hs : s.size ≤ maxLen) (hi : i ≤ s.size) :
    Calls Try.prog 64 #[.pointer (some ⟨b, 0, none⟩)] w (NP b s w (X3.digitX (LL s) i)) := by
  by_cases hlt : i < s.size
  · have k := hid (take_mid b s i w h hs hlt)
    have kf := hid fun w => fail_any b 5 w
    have hx := (s[i]'hlt).toNat_lt
    have e1 : X3.digitX (LL s) i = if 48 ≤ (s[i]'hlt).toNat ∧ (s[i]'hlt).toNat ≤ 57 then .ok ((s[i]'hlt).toNat - 48) (i + 1)
        else if 97 ≤ (s[i]'hlt).toNat ∧ (s[i]'hlt).toNat ≤ 102 then .ok ((s[i]'hlt).toNat - 87) (i + 1) else .err 5 := by
      unfold X3.digitX; rw [x_take hlt]; rfl
    rw [e1]
    clear e1
    generalize (s[i]'hlt).toNat = x at *
    by_cases a1 : (48 : Int) ≤ x ∧ (x : Int) ≤ 57
    · have hc : 48 ≤ x ∧ x ≤ 57 := by omega
      obtain ⟨a1, a2⟩ := a1
      rw [if_pos hc]
      have a3 : ((x : Int) - 48) = ((x - 48 : Nat) : Int) := by omega
      go_enter Try.func64, Try.ntmps64
      go_wp2_with fail
      refine k.out.mono ?_
      rintro e w1 ⟨rfl, hr, hg⟩
      go_wp2_with fail
      go_ret
      exact ⟨rfl, hr, hg, by omega, by omega⟩
    have hc : ¬(48 ≤ x ∧ x ≤ 57) := by omega
    rw [if_neg hc]
    by_cases a2 : (97 : Int) ≤ x ∧ (x : Int) ≤ 102
    · have hd : 97 ≤ x ∧ x ≤ 102 := by omega
      rw [if_pos hd]
      obtain ⟨b1, b2⟩ := a2
      have a3 : ((x : Int) - 97) = ((x - 97 : Nat) : Int) := by omega
      have a4 : (((x - 97 : Nat) : Int) + 10) = ((x - 87 : Nat) : Int) := by omega
      have a5 : (48 : Int) ≤ x := by omega
      have a6 : ¬ (x : Int) ≤ 57 := by omega
      go_enter Try.func64, Try.ntmps64
      go_wp2_with fail
      refine k.out.mono ?_
      rintro e w1 ⟨rfl, hr, hg⟩
      go_wp2_with fail
      go_ret
      exact ⟨rfl, hr, hg, by omega, by omega⟩
    have hd : ¬(97 ≤ x ∧ x ≤ 102) := by omega
    rw [if_neg hd]
    by_cases b1 : (48 : Int) ≤ x
    · have b2 : ¬ (x : Int) ≤ 57 := by omega
      by_cases b3 : (97 : Int) ≤ x
      · have b4 : ¬ (x : Int) ≤ 102 := by omega
        go_enter Try.func64, Try.ntmps64
        go_wp2_with fail
        refine k.out.mono ?_
        rintro e w1 ⟨rfl, hr, hg⟩
        go_wp2_with fail
        refine (kf.out _).mono ?_
        rintro e w2 ⟨rfl, rfl⟩
        exact ⟨rfl, rfl, hg⟩
      · skip
        go_enter Try.func64, Try.ntmps64
        go_wp2_with fail
        refine k.out.mono ?_
        rintro e w1 ⟨rfl, hr, hg⟩
        go_wp2_with fail
        refine (kf.out _).mono ?_
        rintro e w2 ⟨rfl, rfl⟩
        exact ⟨rfl, rfl, hg⟩
    · have b3 : ¬ (97 : Int) ≤ x := by omega
      go_enter Try.func64, Try.ntmps64
      go_wp2_with fail
      refine k.out.mono ?_
      rintro e w1 ⟨rfl, hr, hg⟩
      go_wp2_with fail
      refine (kf.out _).mono ?_
      rintro e w2 ⟨rfl, rfl⟩
      exact ⟨rfl, rfl, hg⟩
  · obtain rfl : i = s.size := by omega
    have k := hid (take_end b s w h hs)
    have e1 : X3.digitX (LL s) s.size = .err 5 := by unfold X3.digitX; rw [x_take_end]; rfl
    rw [e1]
    go_enter Try.func64, Try.ntmps64
    go_wp2_with fail
    refine k.out.mono ?_
    rintro e w1 ⟨rfl, hg⟩
    exact ⟨rfl, rfl, hg⟩

end Go.Proofs.Ytndefngkkikkeaa
