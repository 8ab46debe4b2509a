/- The walk of the law SpotTells of package spot. -/
import Derived.Test.YtlkplncfiohlcaaSu
import Derived.Test.YtlkplncfiohlcaaSv
import Derived.Test.YtlkplncfiohlcaaSx
namespace Go.Proofs.Ytlkplncfiohlcaa
open Go Go.RowKit Go.Lib

theorem rowed_cell {base : Nat} {xs : List ByteArray} {W : World} {v : Value} (h : Rowed base xs W v) (h0 : 0 < xs.length) :
    ∃ g cap, v = .slice (some ⟨g, 0, none⟩) xs.length cap ∧ ∀ k (hk : k < xs.length), W.cell? ⟨g, k, none⟩ = some (.string xs[k]) := by
  rcases h.2 with ⟨_, h1⟩ | ⟨g, cap, cur, rfl, _, hg, _, _, _, ht⟩
  · omega
  · refine ⟨g, cap, rfl, fun k hk => ?_⟩
    have h2 : (strs xs)[k]? = some (.string xs[k]) := by simp [strs, hk]
    rw [← ht, List.getElem?_take, if_pos (by omega), Array.getElem?_toList] at h2
    simp [World.cell?, hg, h2]

set_option maxRecDepth 100000 in
set_option maxHeartbeats 2000000 in
theorem tells_walk (t : ByteArray) (a x y n : Int) (w : World) (hn0 : -9223372036854775808 ≤ n) (hn1 : n ≤ 9223372036854775807) : Calls Try.prog 8 #[.string t, .int .i64 a, .int .i64 x, .int .i64 y, .int .i64 n] w fun e w' => e = .returned (.bool true) ∧ Below w.heap.size w w' := by
  by_cases hall : (t.size : Int) ≤ 300 ∧ -1099511627776 ≤ x ∧ x ≤ 1099511627776 ∧ -1099511627776 ≤ y ∧ y ≤ 1099511627776
  · obtain ⟨g1, g2, g3, g4, g5⟩ := hall
    have hlen : t.data.toList.length = t.size := rfl
    obtain ⟨k, hk⟩ : ∃ k : Nat, (a < 0 ∧ k = 0) ∨ (a = k ∧ k ≤ t.size) ∨ ((t.size : Int) < a ∧ k = t.size) := by
      rcases Int.lt_or_le a 0 with h | h
      · exact ⟨0, .inl ⟨h, rfl⟩⟩
      · rcases Int.lt_or_le (t.size : Int) a with h' | h'
        · exact ⟨t.size, .inr (.inr ⟨h', rfl⟩)⟩
        · exact ⟨a.toNat, .inr (.inl ⟨by omega, by omega⟩)⟩
    have k1 := hid fun w => Of_nat t a k w (by omega) hk
    have k2 := hid fun w => ROf_nat t a k w (by omega) hk
    have k3 := hid fun w => At_any t x y w (by omega) (by omega) (by omega)
    have k4 := hid fun w => RAt_any t x y w (by omega) (by omega) (by omega)
    have k5 := hid fun w => Lines_any t w (by omega)
    have k6 := hid fun w => Line_wide t n w (by omega) hn0 hn1
    have k7 := hid fun w => RCut_any t w (by omega)
    have c1 := colN_le (t.data.toList.take k)
    have c2 := lineN_le (t.data.toList.take k)
    have c3 : (t.data.toList.take k).length ≤ t.size := by rw [List.length_take]; omega
    have s1 := same_fl (z := (colN (t.data.toList.take k) : Nat)) (by omega)
    have s2 := same_fl (z := (lineN (t.data.toList.take k) : Nat)) (by omega)
    have hR := lineN_le t.data.toList
    have HS := hid (splitN_length t.data.toList)
    have HL : Hid (∀ j : Nat, lineL t.data.toList (j : Int) = (splitN t.data.toList).getD j []) := lineL_split t.data.toList
    unfold spotV at k1 k2 k3 k4
    clear c1 c2 c3 hk
    generalize fl (colN (t.data.toList.take k) : Nat) = fC at *
    generalize fl (lineN (t.data.toList.take k) : Nat) = fR at *
    generalize hA : atI t.data.toList x y = A at *
    clear hA
    have aa : (A == A) = true := by simp
    generalize lineN t.data.toList = R at *
    have hR2 : (R : Int) ≤ 300 := by omega
    go_enter Try.func8, Try.ntmps8
    go_wp2_with fail
    refine (spot_works w).mono ?_
    rintro e w1 ⟨rfl, k0, hw1⟩
    have hB0 : Below w.heap.size w w1 := by rw [hw1]; exact below_drewN (Below.refl _ _) k0
    clear hw1
    go_wp2_with fail
    refine (k7.out _).mono ?_
    rintro e w2 ⟨v, xs, rfl, hxs, hrow, hB⟩
    replace hB := hB0.trans (hB.mono hB0.size)
    have hxl : xs.length = R + 1 := by rw [← HS.out, ← hxs]; simp [texts]
    have HX := hid hxs
    clear hxs
    obtain ⟨g, cap, rfl, hc⟩ := rowed_cell hrow (by omega)
    have HC := hid hc
    clear hc hrow
    have hll : ((xs.length : Int) == (R : Int) + 1) = true := by rw [hxl]; simp
    have hll2 : ((R : Int) + 1 == (xs.length : Int)) = true := by rw [hxl]; simp
    clear k7 hB0 hlen hR
    have hns : (n < 0 ∨ (xs.length : Int) ≤ n) ∨ ∃ m : Nat, n = m ∧ m < xs.length := by
      rcases Int.lt_or_le n 0 with h | h
      · exact .inl (.inl h)
      · rcases Int.lt_or_le n (xs.length : Int) with h' | h'
        · exact .inr ⟨n.toNat, by omega, by omega⟩
        · exact .inl (.inr h')
    rcases hns with (h | h) | ⟨m, rfl, hm⟩
    · have hwant : Hid (lineL t.data.toList n = []) := lineL_none _ _ h
      go_wp2_with fail
      refine (k1.out _).mono ?_
      rintro e w' ⟨rfl, rfl⟩
      go_wp2_with fail
      refine (k2.out _).mono ?_
      rintro e w' ⟨rfl, rfl⟩
      go_wp2_with fail
      refine (k3.out _).mono ?_
      rintro e w3 ⟨rfl, j3, hw3⟩
      replace hB : Below w.heap.size w w3 := by rw [hw3]; exact below_drewN hB j3
      clear hw3
      go_wp2_with fail
      refine (k4.out _).mono ?_
      rintro e w' ⟨rfl, rfl⟩
      go_wp2_with fail
      refine (k5.out _).mono ?_
      rintro e w' ⟨rfl, rfl⟩
      go_wp2_with fail
      refine (k6.out _).mono ?_
      rintro e w4 ⟨⟨z, hz, rfl⟩, j4, hw4⟩
      replace hB : Below w.heap.size w w4 := by rw [hw4]; exact below_drewN hB j4
      clear hw4
      obtain rfl : z = { data := #[] } := text_ext (hz.trans hwant.out)
      clear hz
      go_wp2
      go_ret
      exact ⟨rfl, hB⟩
    · have hwant : Hid (lineL t.data.toList n = []) := by
        show lineL t.data.toList n = []
        obtain ⟨m, rfl⟩ : ∃ m : Nat, n = m := ⟨n.toNat, by omega⟩
        rw [HL.out, List.getD_eq_getElem?_getD, List.getElem?_eq_none (by rw [HS.out]; omega)]
        rfl
      have h' : 0 ≤ n := by omega
      go_wp2_with fail
      refine (k1.out _).mono ?_
      rintro e w' ⟨rfl, rfl⟩
      go_wp2_with fail
      refine (k2.out _).mono ?_
      rintro e w' ⟨rfl, rfl⟩
      go_wp2_with fail
      refine (k3.out _).mono ?_
      rintro e w3 ⟨rfl, j3, hw3⟩
      replace hB : Below w.heap.size w w3 := by rw [hw3]; exact below_drewN hB j3
      clear hw3
      go_wp2_with fail
      refine (k4.out _).mono ?_
      rintro e w' ⟨rfl, rfl⟩
      go_wp2_with fail
      refine (k5.out _).mono ?_
      rintro e w' ⟨rfl, rfl⟩
      go_wp2_with fail
      refine (k6.out _).mono ?_
      rintro e w4 ⟨⟨z, hz, rfl⟩, j4, hw4⟩
      replace hB : Below w.heap.size w w4 := by rw [hw4]; exact below_drewN hB j4
      clear hw4
      obtain rfl : z = { data := #[] } := text_ext (hz.trans hwant.out)
      clear hz
      go_wp2
      go_ret
      exact ⟨rfl, hB⟩
    · have hwant : Hid (lineL t.data.toList (m : Int) = xs[m].data.toList) := by
        show lineL t.data.toList (m : Int) = _
        rw [HL.out, List.getD_eq_getElem?_getD, ← HX.out]
        simp [texts, hm]
      have hc0 := HC.out m hm
      have h' : (0 : Int) ≤ (m : Int) := by omega
      have h'' : (m : Int) < (xs.length : Int) := by omega
      go_wp2_with fail
      refine (k1.out _).mono ?_
      rintro e w' ⟨rfl, rfl⟩
      go_wp2_with fail
      refine (k2.out _).mono ?_
      rintro e w' ⟨rfl, rfl⟩
      go_wp2_with fail
      refine (k3.out _).mono ?_
      rintro e w3 ⟨rfl, j3, hw3⟩
      replace hB : Below w.heap.size w w3 := by rw [hw3]; exact below_drewN hB j3
      clear hw3
      go_wp2_with fail
      refine (k4.out _).mono ?_
      rintro e w' ⟨rfl, rfl⟩
      go_wp2_with fail
      refine (k5.out _).mono ?_
      rintro e w' ⟨rfl, rfl⟩
      go_wp2_with fail
      refine (k6.out _).mono ?_
      rintro e w4 ⟨⟨z, hz, rfl⟩, j4, hw4⟩
      replace hB : Below w.heap.size w w4 := by rw [hw4]; exact below_drewN hB j4
      clear hw4
      obtain rfl : z = xs[m] := text_ext (hz.trans hwant.out)
      clear hz
      go_wp2
      go_ret
      exact ⟨rfl, hB⟩
  · have hcs : (300 < (t.size : Int)) ∨ ((t.size : Int) ≤ 300 ∧ x < -1099511627776) ∨ ((t.size : Int) ≤ 300 ∧ -1099511627776 ≤ x ∧ 1099511627776 < x) ∨ ((t.size : Int) ≤ 300 ∧ -1099511627776 ≤ x ∧ x ≤ 1099511627776 ∧ y < -1099511627776) ∨ ((t.size : Int) ≤ 300 ∧ -1099511627776 ≤ x ∧ x ≤ 1099511627776 ∧ -1099511627776 ≤ y ∧ 1099511627776 < y) := by omega
    clear hall
    rcases hcs with h1 | ⟨h1, h2⟩ | ⟨h1, h2, h3⟩ | ⟨h1, h2, h3, h4⟩ | ⟨h1, h2, h3, h4, h5⟩
    all_goals
      go_enter Try.func8, Try.ntmps8
      go_wp2_with fail
      refine (spot_works w).mono ?_
      rintro e w' ⟨rfl, k, rfl⟩
      go_wp2
      go_ret
      exact ⟨rfl, below_drewN (Below.refl _ _) k⟩

end Go.Proofs.Ytlkplncfiohlcaa
