/- The document's own answer for a spot's place. -/
import Derived.Test.YtlkplncfiohlcaaSq
import Derived.Test.YtlkplncfiohlcaaSi
namespace Go.Proofs.Ytlkplncfiohlcaa
open Go Go.RowKit Go.Lib

theorem order_eq {a b : Int} (ha : a.natAbs < 2 ^ 53) (hb : b.natAbs < 2 ^ 53) : (FloatKind.f64.format.order (fl a) (fl b) == some Ordering.eq) = decide (a = b) := by
  rw [order_fl ha hb]
  by_cases h : a = b
  · rw [Int.compare_eq_eq.2 h, decide_eq_true h]; rfl
  · rw [decide_eq_false h, beq_eq_false_iff_ne]
    intro h'
    exact h (Int.compare_eq_eq.1 (by simpa using h'))

/-- No place has that spot: none up to the end. -/
theorem at_none (l : List UInt8) (c r : Int) (h : ∀ j : Nat, j ≤ l.length → ¬ ((colN (l.take j) : Int) = c ∧ (lineN (l.take j) : Int) = r)) : atI l c r = -1 := by
  unfold atI
  split
  · rename_i h1
    split
    · rename_i h2
      exfalso
      obtain ⟨r, rfl⟩ : ∃ n : Nat, r = n := ⟨r.toNat, by omega⟩
      obtain ⟨c, rfl⟩ : ∃ n : Nat, c = n := ⟨c.toNat, by omega⟩
      obtain ⟨k, hk, _, e2, e3⟩ := spot_back l r c (by omega) (by omega)
      exact h k hk ⟨by omega, by omega⟩
    · rfl
  · rfl

set_option maxHeartbeats 1000000 in
theorem RAt_any (t : ByteArray) (c r : Int) (w : World) (ht : t.size ≤ 1000000) (hc : c.natAbs < 2 ^ 53) (hr : r.natAbs < 2 ^ 53) :
    Calls Try.prog 38 #[.string t, spotV c r] w fun e w' => e = .returned (.int .i64 (atI t.data.toList c r)) ∧ w = w' := by
  have hlen : t.data.toList.length = t.size := rfl
  have kf := hid fun (j : Nat) (hj : j ≤ t.size) (w : World) => ROf_nat t (j : Int) j w (by omega) (.inr (.inl ⟨rfl, hj⟩))
  have hn := at_none t.data.toList c r
  have hs := fun (j : Nat) (hj : j ≤ t.size) => (at_spot t.data.toList j hj).1
  have he : ∀ j : Nat, j ≤ t.size → (FloatKind.f64.format.order (fl (colN (t.data.toList.take j) : Nat)) (fl c) == some Ordering.eq) = decide ((colN (t.data.toList.take j) : Int) = c) := fun j hj => by
    have h1 := colN_le (t.data.toList.take j)
    have h3 : (t.data.toList.take j).length ≤ j := List.length_take_le _ _
    exact order_eq (by omega) hc
  have he2 : ∀ j : Nat, j ≤ t.size → (FloatKind.f64.format.order (fl (lineN (t.data.toList.take j) : Nat)) (fl r) == some Ordering.eq) = decide ((lineN (t.data.toList.take j) : Int) = r) := fun j hj => by
    have h1 := lineN_le (t.data.toList.take j)
    have h3 : (t.data.toList.take j).length ≤ j := List.length_take_le _ _
    exact order_eq (by omega) hr
  unfold spotV at kf ⊢
  have HN := hid hn
  have HS := hid hs
  have HE := hid he
  have HE2 := hid he2
  clear hn hs he he2 hlen
  have ht2 : (t.size : Int) ≤ 1000000 := by omega
  go_enter Try.func38, Try.ntmps38
  go_wp2
  go_loop [5] (fun i => ∃ k : Nat, k ≤ t.size + 1 ∧ i = .int .i64 (k : Int) ∧ ∀ j : Nat, j < k → ¬ ((colN (t.data.toList.take j) : Int) = c ∧ (lineN (t.data.toList.take j) : Int) = r)) (fun i => t.size + 1 - (RowKit.intOf i).toNat)
  case atStart => exact ⟨0, by omega, rfl, fun j hj => by omega⟩
  case round =>
    obtain ⟨k, hk, rfl, hr⟩ := hrel
    have HR := hid hr
    clear hr
    by_cases hlt : k < t.size + 1
    · have i1 : (k : Int) ≤ (t.size : Int) := by omega
      have e1 := HE.out k (by omega)
      have e2 := HE2.out k (by omega)
      have hat := HS.out k (by omega)
      have kk := hid (kf.out k (by omega))
      have HR2 : Hid (¬ ((colN (t.data.toList.take k) : Int) = c ∧ (lineN (t.data.toList.take k) : Int) = r) → ∀ j : Nat, j < k + 1 → ¬ ((colN (t.data.toList.take j) : Int) = c ∧ (lineN (t.data.toList.take j) : Int) = r)) := fun h j hj => by
        rcases Nat.lt_or_ge j k with h1 | h1
        · exact HR.out j h1
        · obtain rfl : j = k := by omega
          exact h
      clear HR
      generalize colN (t.data.toList.take k) = C at *
      generalize lineN (t.data.toList.take k) = R at *
      by_cases h1 : (C : Int) = c
      · by_cases h2 : (R : Int) = r
        · rw [decide_eq_true h1] at e1
          rw [decide_eq_true h2] at e2
          rw [h1, h2] at hat
          have HAT := hid hat
          clear hat HR2 h1 h2
          generalize fl (C : Int) = fC at *
          generalize fl (R : Int) = fR at *
          go_wp2_with (go_at_call 36; refine (kk.out _).mono ?_; rintro e w' ⟨rfl, rfl⟩)
          go_ret
          exact ⟨by rw [HAT.out] <;> rfl, rfl⟩
        · rw [decide_eq_true h1] at e1
          rw [decide_eq_false h2] at e2
          have H3 := hid (HR2.out fun h => h2 h.2)
          clear hat HR2 h1 h2
          generalize fl (C : Int) = fC at *
          generalize fl (R : Int) = fR at *
          go_wp2_with (go_at_call 36; refine (kk.out _).mono ?_; rintro e w' ⟨rfl, rfl⟩)
          exact ⟨⟨k + 1, by omega, by go_num, H3.out⟩, by simp [RowKit.intOf]; omega⟩
      · rw [decide_eq_false h1] at e1
        have H3 := hid (HR2.out fun h => h1 h.1)
        clear hat HR2 h1
        cases e2' : decide ((R : Int) = r) <;> rw [e2'] at e2 <;> clear e2'
        all_goals
          generalize fl (C : Int) = fC at *
          generalize fl (R : Int) = fR at *
          go_wp2_with (go_at_call 36; refine (kk.out _).mono ?_; rintro e w' ⟨rfl, rfl⟩)
          exact ⟨⟨k + 1, by omega, by go_num, H3.out⟩, by simp [RowKit.intOf]; omega⟩
    · have hA : Hid (atI t.data.toList c r = -1) := HN.out fun j hj => HR.out j (by have : j ≤ t.size := hj; omega)
      have hkk : (t.size : Int) < (k : Int) := by omega
      go_wp2
      go_ret
      exact ⟨by rw [hA.out] <;> rfl, rfl⟩

end Go.Proofs.Ytlkplncfiohlcaa
