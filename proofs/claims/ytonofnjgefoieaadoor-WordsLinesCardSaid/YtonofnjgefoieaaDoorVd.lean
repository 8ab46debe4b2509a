/- The walk of the law WordsLines. -/
import Derived.Test.YtonofnjgefoieaaDoorVb
namespace Go.Proofs.YtonofnjgefoieaaDoor
open Go Go.RowKit Go.Lib Go.Proofs.W8
set_option linter.unusedVariables false

theorem line_text (t m : ByteArray) : (t ++ { data := #[10] } ++ m).data.toList = t.data.toList ++ 10 :: m.data.toList := by
  simp [ByteArray.data_append]

/-- The words of both texts, as they lie. -/
theorem shRs (s : Nat) (L M : List Wd) (F A : Nat) : ∃ (K : List Wd) (A3 : Nat), shR s L (M, F, A) = (K, F, A3) ∧ K.length = L.length + M.length ∧ (F ≠ 0 → A3 = A + s) ∧
    (∀ j (hj : j < L.length) (hk : j < K.length), K[j] = L[j]) ∧
    (∀ j (hj : j < M.length) (hk : L.length + j < K.length), K[L.length + j].kind = M[j].kind ∧ K[L.length + j].text = M[j].text ∧ K[L.length + j].n = M[j].n ∧ K[L.length + j].at_ = M[j].at_ + s) := by
  refine ⟨L ++ M.map (shW s), if F = 0 then 0 else A + s, rfl, by simp, fun h => by rw [if_neg h], fun j hj hk => ?_, fun j hj hk => ?_⟩
  · rw [List.getElem_append_left hj]
  · rw [List.getElem_append_right (by omega)]
    simp [shW]

set_option maxRecDepth 100000 in
set_option maxHeartbeats 8000000 in
theorem lines_walk (t m : ByteArray) (w : World) (hm : t.size ≤ maxLen) (hm2 : m.size ≤ maxLen) : Calls Tryd.prog 6 #[.string t, .string m] w fun e w' => e = .returned (.bool true) ∧ Below w.heap.size w w' := by
  have kw := hid fun w => word_works w
  by_cases hs : t.size ≤ 400 ∧ m.size ≤ 400
  · obtain ⟨hs1, hs2⟩ := hs
    have i1 : (t.size : Int) ≤ 400 := by omega
    have i2 : (m.size : Int) ≤ 400 := by omega
    clear hm hm2
    have k1 := hid fun w => Words_any t w (by unfold maxLen; omega)
    have k2 := hid fun w => Words_any m w (by unfold maxLen; omega)
    have hsz3 : (t ++ { data := #[10] } ++ m).size = t.size + 1 + m.size := by simp [ByteArray.size_append]; rfl
    have k3 := hid fun w => Words_any (t ++ { data := #[10] } ++ m) w (by unfold maxLen; omega)
    have htl : t.data.toList.length = t.size := rfl
    have hml : m.data.toList.length = m.size := rfl
    rw [line_text] at k3
    have hlines := words_lines t.data.toList m.data.toList (by omega) (by omega)
    have hLb : (words t.data.toList).1.length ≤ 401 := by have := words_len t.data.toList (by omega); omega
    have hMb : (words m.data.toList).1.length ≤ 401 := by have := words_len m.data.toList (by omega); omega
    have hat : ∀ x ∈ (words m.data.toList).1, x.at_ ≤ 400 := words_at _ (by omega)
    have hA2 := (words_good m.data.toList (by omega)).2.1
    rw [htl] at hlines
    generalize words t.data.toList = R at *
    generalize words m.data.toList = R2 at *
    generalize words (t.data.toList ++ 10 :: m.data.toList) = R3 at *
    obtain ⟨L, E, A⟩ := R
    obtain ⟨M, F, A2⟩ := R2
    simp only at hlines hLb hMb hat
    have HA2 : Hid (F ≠ 0 → A2 ≤ 400) := fun h => by have := (hA2 h).2; simp only at this; omega
    have HLI := hid hlines
    clear hA2
    have HAT := hid hat
    clear htl hml hlines hat hsz3
    go_enter Tryd.func6, Tryd.ntmps6
    go_wp2_with fail
    refine (kw.out _).mono ?_
    rintro e w1 ⟨rfl, hb1⟩
    go_wp2_with fail
    refine (k1.out _).mono ?_
    rintro e w2 ⟨v1, rfl, hr1, hb2⟩
    replace hb2 := hb1.trans (hb2.mono hb1.size)
    have HR1 := hid hr1.opened
    clear hr1
    go_wp2_with fail
    refine (k2.out _).mono ?_
    rintro e w3 ⟨v2, rfl, hr2, hb3⟩
    have HR2 := hid hr2.opened
    clear hr2
    go_wp2_with fail
    refine (k3.out _).mono ?_
    rintro e w4 ⟨v3, rfl, hr3, hb4⟩
    have HR3 := hid hr3.opened
    clear hr3
    obtain ⟨a1, cap1, rfl, hc1, ho1⟩ := HR1.out
    obtain ⟨a2, cap2, rfl, hc2, ho2⟩ := HR2.out
    have hb5 : Below w.heap.size w w4 := (hb2.trans (hb3.mono hb2.size)).trans (hb4.mono (Nat.le_trans hb2.size hb3.size))
    have H1 : Hid (L ≠ [] → ∃ g, a1 = some ⟨g, 0, none⟩ ∧ Cells4 g L w4 ∧ g < w4.heap.size) := fun h => by
      obtain ⟨g, e, h2, h3, _⟩ := ho1 h
      exact ⟨g, e, (h2.below hb3).below hb4, by have := hb3.size; have := hb4.size; omega⟩
    have H2 : Hid (M ≠ [] → ∃ g, a2 = some ⟨g, 0, none⟩ ∧ Cells4 g M w4 ∧ g < w4.heap.size) := fun h => by
      obtain ⟨g, e, h2, h3, _⟩ := ho2 h
      exact ⟨g, e, h2.below hb4, by have := hb4.size; omega⟩
    by_cases hE : E = 0
    · subst hE
      have hR3 := HLI.out rfl
      obtain ⟨K, A3, hK, hKl, hA3, hKj, hKm⟩ := shRs (t.size + 1) L M F A2
      rw [hK] at hR3
      subst hR3
      obtain ⟨a3, cap3, rfl, hc3, ho3⟩ := HR3.out
      have H3 : Hid (K ≠ [] → ∃ g, a3 = some ⟨g, 0, none⟩ ∧ Cells4 g K w4 ∧ g < w4.heap.size) := fun h => by
        obtain ⟨g, e, h2, h3, _⟩ := ho3 h
        exact ⟨g, e, h2, h3⟩
      have HK := hid hKj
      have HM := hid hKm
      have HKL := hid hKl
      rw [show ((K, F, A3) : List Wd × Nat × Nat).1 = K from rfl, hKl] at hc3
      rw [show ((K, F, A3) : List Wd × Nat × Nat).1 = K from rfl, hKl]
      have hLc : (L.length : Int) ≤ 401 := by omega
      have hMc : (M.length : Int) ≤ 401 := by omega
      have hF : F = 0 ∨ (((F : Int) != 0) = true ∧ (((A3 : Nat) : Int) != (A2 : Int) + (t.size : Int) + 1) = false ∧ A2 ≤ 400) := by
        rcases Nat.eq_zero_or_pos F with h | h
        · exact Or.inl h
        · refine Or.inr ⟨by simp; omega, ?_, HA2.out (by omega)⟩
          have := hA3 (by omega)
          simp; omega
      clear hKj hKm hKl hA3 HR3 HR2 HR1 HLI ho1 ho2 ho3 hb1 hb2 hb3 hb4 k1 k2 k3 kw hK
      rcases hF with rfl | ⟨hF1, hF2, hF3⟩
      all_goals
        go_wp2_with fail
        go_loopw [15] (fun i wr => ∃ j : Nat, j ≤ L.length + M.length ∧ i = .int .i64 (j : Int) ∧ Below w4.heap.size w4 wr) (fun i _ => L.length + M.length - (Go.RowKit.intOf i).toNat)
        case atStart => exact ⟨0, Nat.zero_le _, rfl, Below.refl _ _⟩
        case round =>
          obtain ⟨j, hj, rfl, hbr⟩ := hrel
          have hz := hbr.size
          have hn0 : (0 : Int) ≤ (j : Int) := by omega
          by_cases hlt : j < L.length
          · obtain ⟨g1, rfl, hC1, hg1'⟩ := H1.out (by intro e; rw [e] at hlt; simp at hlt)
            obtain ⟨g3, rfl, hC3, hg3'⟩ := H3.out (by intro e; have := HKL.out; rw [e] at this; simp at this; omega)
            obtain ⟨p1, p2, p3, p4⟩ := hC1 wr hbr j hlt
            obtain ⟨q1, q2, q3, q4⟩ := hC3 wr hbr j (by rw [HKL.out]; omega)
            have hkj := HK.out j hlt (by rw [HKL.out]; omega)
            rw [hkj] at q1 q2 q3 q4
            have hg1 : g1 < wr.heap.size := by omega
            have hg3 : g3 < wr.heap.size := by omega
            have hi1 : (j : Int) < (L.length : Int) := by omega
            have hi2 : (j : Int) < (L.length : Int) + (M.length : Int) := by omega
            have hbr2 : Below w4.heap.size w4 (wr.alloc (.cells #[.int .i64 (L[j].kind : Int), .string (bs L[j].text), .int .i64 (L[j].n : Int), .int .i64 (L[j].at_ : Int)] 32)) := hbr.alloc hz _
            clear hkj hC1 hC3
            generalize L[j] = x at *
            go_wp2_with fail
            go_quiet (fail)
            go_wp2_with fail
            go_roundw
            case rel => exact ⟨j + 1, by omega, by go_num, below_drewN hbr2 _⟩
            case measure => simp [Go.RowKit.intOf]; omega
          · by_cases hlt2 : j < L.length + M.length
            · obtain ⟨q, rfl⟩ : ∃ q, j = L.length + q := ⟨j - L.length, by omega⟩
              have hq : q < M.length := by omega
              obtain ⟨g2, rfl, hC2, hg2'⟩ := H2.out (by intro e; rw [e] at hq; simp at hq)
              obtain ⟨g3, rfl, hC3, hg3'⟩ := H3.out (by intro e; have := HKL.out; rw [e] at this; simp at this; omega)
              obtain ⟨p1, p2, p3, p4⟩ := hC2 wr hbr q hq
              obtain ⟨q1, q2, q3, q4⟩ := hC3 wr hbr (L.length + q) (by rw [HKL.out]; omega)
              obtain ⟨e1, e2, e3, e4⟩ := HM.out q hq (by rw [HKL.out]; omega)
              rw [e1] at q1
              rw [e2] at q2
              rw [e3] at q3
              rw [e4] at q4
              have hat := HAT.out M[q] (List.getElem_mem hq)
              have hg2 : g2 < wr.heap.size := by omega
              have hg3 : g3 < wr.heap.size := by omega
              have hi0 : (0 : Int) ≤ (q : Int) := by omega
              have hi1 : (q : Int) < (M.length : Int) := by omega
              have hbr2 : Below w4.heap.size w4 (wr.alloc (.cells #[.int .i64 (M[q].kind : Int), .string (bs M[q].text), .int .i64 (M[q].n : Int), .int .i64 ((M[q].at_ : Int) + (t.size : Int) + 1)] 32)) := hbr.alloc hz _
              rw [show ((M[q].at_ + (t.size + 1) : Nat) : Int) = (M[q].at_ : Int) + (t.size : Int) + 1 by omega] at q4
              clear e1 e2 e3 e4 hC2 hC3 hg2' hg3' hlt hlt2
              generalize M[q] = x at *
              go_wp2_with fail
              go_quiet (fail)
              go_wp2_with fail
              go_roundw
              case rel => exact ⟨L.length + q + 1, by omega, by go_num, below_drewN hbr2 _⟩
              case measure => simp [Go.RowKit.intOf]; omega
            · go_wp2_with fail
              go_ret
              exact ⟨rfl, hb5.trans (hbr.mono hb5.size)⟩
    · have hE2 : ((E : Int) != 0) = true := by simp; omega
      obtain ⟨a3, cap3, rfl, hc3, ho3⟩ := HR3.out
      clear hE HR1 HR2 HR3 ho1 ho2 ho3 k1 k2 k3 kw
      go_wp2_with fail
      go_ret
      exact ⟨rfl, hb5⟩
  · have hs' : (400 < (t.size : Int)) ∨ ((t.size : Int) ≤ 400 ∧ 400 < (m.size : Int)) := by omega
    unfold maxLen at hm hm2
    clear hs
    rcases hs' with hs' | ⟨hs', hs2⟩
    all_goals
      go_enter Tryd.func6, Tryd.ntmps6
      go_wp2_with fail
      refine (kw.out _).mono ?_
      rintro e w1 ⟨rfl, hb1⟩
      go_wp2_with fail
      go_ret
      exact ⟨rfl, hb1⟩

end Go.Proofs.YtonofnjgefoieaaDoor
