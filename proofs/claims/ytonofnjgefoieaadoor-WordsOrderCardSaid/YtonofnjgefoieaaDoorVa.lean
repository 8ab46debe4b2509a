/- The walks of the laws WordsNames and WordsQuote. -/
import Derived.Test.YtonofnjgefoieaaDoorCl
import Derived.Test.YtonofnjgefoieaaDoorCj
namespace Go.Proofs.YtonofnjgefoieaaDoor
open Go Go.RowKit Go.Lib Go.Proofs.W8
set_option linter.unusedVariables false

theorem quote_cases (l : List UInt8) : (∃ q, qt l = some q ∧ quoteV l = .tuple #[.string (bs (47 :: q)), .bool true]) ∨ (qt l = none ∧ quoteV l = .tuple #[.string ⟨#[]⟩, .bool false]) := by
  cases h : qt l with
  | none => exact Or.inr ⟨rfl, by unfold quoteV; rw [h]⟩
  | some q => exact Or.inl ⟨q, rfl, by unfold quoteV; rw [h]⟩

set_option maxRecDepth 100000 in
set_option maxHeartbeats 2000000 in
theorem names_walk (s : ByteArray) (w : World) (hm : s.size ≤ maxLen) : Calls Tryd.prog 3 #[.string s] w fun e w' => e = .returned (.bool true) ∧ Below w.heap.size w w' := by
  have kw := hid fun w => word_works w
  by_cases hs : s.size ≤ 400
  · have k1 := hid fun w => Quote_any s w (by omega)
    have k2 := hid fun w => RQuote_any s w (by omega)
    have k3 := hid fun w => RIsName_any s w hm
    have k4 := hid fun w => IsName_any s w hm
    generalize isName s.data.toList = B at *
    obtain ⟨X, b, hX⟩ : ∃ (X : ByteArray) (b : Bool), quoteV s.data.toList = .tuple #[.string X, .bool b] := by
      rcases quote_cases s.data.toList with ⟨q, _, h⟩ | ⟨_, h⟩
      · exact ⟨_, _, h⟩
      · exact ⟨_, _, h⟩
    rw [hX] at k1 k2
    clear hX hm
    have hs' : (s.size : Int) ≤ 400 := by omega
    go_enter Tryd.func3, Tryd.ntmps3
    go_wp2_with fail
    refine (kw.out _).mono ?_
    rintro e w1 ⟨rfl, hb1⟩
    go_wp2_with fail
    refine (k1.out _).mono ?_
    rintro e w2 ⟨rfl, hb2⟩
    replace hb2 := hb1.trans (hb2.mono hb1.size)
    go_wp2_with fail
    refine (k2.out _).mono ?_
    rintro e w3 ⟨rfl, hb3⟩
    replace hb3 := hb2.trans (hb3.mono hb2.size)
    go_wp2_with fail
    refine (k3.out _).mono ?_
    rintro e w4 ⟨rfl, rfl⟩
    go_wp2_with fail
    refine (k4.out _).mono ?_
    rintro e w5 ⟨rfl, hb5⟩
    replace hb5 := hb3.trans (hb5.mono hb3.size)
    go_wp2_with fail
    go_ret
    exact ⟨rfl, hb5⟩
  · have hs' : 400 < (s.size : Int) := by omega
    unfold maxLen at hm
    go_enter Tryd.func3, Tryd.ntmps3
    go_wp2_with fail
    refine (kw.out _).mono ?_
    rintro e w1 ⟨rfl, hb1⟩
    go_wp2_with fail
    go_ret
    exact ⟨rfl, hb1⟩

set_option maxRecDepth 100000 in
set_option maxHeartbeats 2000000 in
theorem quote_walk (s : ByteArray) (w : World) (hm : s.size ≤ maxLen) : Calls Tryd.prog 4 #[.string s] w fun e w' => e = .returned (.bool true) ∧ Below w.heap.size w w' := by
  have kw := hid fun w => word_works w
  by_cases hs : s.size ≤ 400
  · have k1 := hid fun w => Quote_any s w (by omega)
    have hs' : (s.size : Int) ≤ 400 := by omega
    rcases quote_cases s.data.toList with ⟨q, hq, hV⟩ | ⟨hq, hV⟩
    · rw [hV] at k1
      have hl : s.data.toList.length = s.size := rfl
      have hql := qt_len _ _ hq
      have hww := words_quote s.data.toList q hq (by omega)
      have hbq : (bs (47 :: q)).data.toList = 47 :: q := rfl
      have k2 := hid fun w => Words_any (bs (47 :: q)) w (by show (47 :: q).toArray.size ≤ maxLen; simp [maxLen]; omega)
      rw [hbq, hww] at k2
      have HS : Hid (bs s.data.toList = s) := by show _ = _; exact Go.WideShapes.bytes_inj rfl
      clear hV hq hm hbq hww hl
      generalize bs (47 :: q) = X at *
      go_enter Tryd.func4, Tryd.ntmps4
      go_wp2_with fail
      refine (kw.out _).mono ?_
      rintro e w1 ⟨rfl, hb1⟩
      go_wp2_with fail
      refine (k1.out _).mono ?_
      rintro e w2 ⟨rfl, hb2⟩
      replace hb2 := hb1.trans (hb2.mono hb1.size)
      go_wp2_with fail
      refine (k2.out _).mono ?_
      rintro e w3 ⟨v, rfl, hr, hb3⟩
      replace hb3 := hb2.trans (hb3.mono hb2.size)
      obtain ⟨g, cap, rfl, hB, hc, hcm, hcell⟩ := hr.at (by simp)
      have c0 := hcell 0 (by simp) 0 (by decide)
      have c1 := hcell 0 (by simp) 1 (by decide)
      have c4 := hcell 1 (by simp) 0 (by decide)
      simp [wc1] at c0 c1 c4
      rw [HS.out] at c1
      simp at hc
      clear hcell hr hb1 hb2
      go_wp2_with fail
      go_ret
      exact ⟨rfl, hb3⟩
    · rw [hV] at k1
      clear hV hq hm
      go_enter Tryd.func4, Tryd.ntmps4
      go_wp2_with fail
      refine (kw.out _).mono ?_
      rintro e w1 ⟨rfl, hb1⟩
      go_wp2_with fail
      refine (k1.out _).mono ?_
      rintro e w2 ⟨rfl, hb2⟩
      replace hb2 := hb1.trans (hb2.mono hb1.size)
      go_wp2_with fail
      go_ret
      exact ⟨rfl, hb2⟩
  · have hs' : 400 < (s.size : Int) := by omega
    unfold maxLen at hm
    go_enter Tryd.func4, Tryd.ntmps4
    go_wp2_with fail
    refine (kw.out _).mono ?_
    rintro e w1 ⟨rfl, hb1⟩
    go_wp2_with fail
    go_ret
    exact ⟨rfl, hb1⟩

end Go.Proofs.YtonofnjgefoieaaDoor
