/- spot.Of, spot.Lines and spot.Move, at every text, place and spot. -/
import Derived.WalkKit
import Derived.WalkSpells
import Derived.Lib.Hide
import Derived.Outline
import Derived.Test.YtlkplncfiohlcaaFl
import Derived.Test.YtlkplncfiohlcaaSh
import Derived.Test.YtlkplncfiohlcaaSm
namespace Go.Proofs.Ytlkplncfiohlcaa
open Go Go.RowKit Go.Lib

/-- A column and a line. -/
abbrev spotV (c r : Int) : Value := .complex .f64 (fl c) (fl r)

theorem list_cut (x : ByteArray) (i j : Nat) : (x.extract i j).data.toList = (x.data.toList.take j).drop i := by
  rw [ByteArray.data_extract, Array.toList_extract, List.extract_eq_take_drop, List.drop_take]

theorem Count_10 (s : ByteArray) (w : World) : Calls Try.prog 46 #[.string s, .string { data := #[10] }] w fun e w' => e = .returned (.int .i64 ((lineN s.data.toList : Nat) : Int)) ∧ w' = w :=
  Try.strings_Count_one s 10 w
theorem Last_10 (s : ByteArray) (hs : s.size < 4611686018427387904) (w : World) : Calls Try.prog 47 #[.string s, .int .u8 10] w fun e w' => e = .returned (.int .i64 ((s.size : Int) - colN s.data.toList - 1)) ∧ w' = w := by
  have := Try.strings_LastIndexByte s 10 hs w
  have e := lastIdx_col s s.size (Nat.le_refl _)
  rw [List.take_of_length_le (Nat.le_refl s.size)] at e
  rw [show Lib.lastIndexByte s 10 = (s.size : Int) - colN s.data.toList - 1 by unfold Lib.lastIndexByte; omega] at this
  exact this

set_option maxRecDepth 100000 in
theorem Of_nat (t : ByteArray) (a : Int) (k : Nat) (w : World) (ht : t.size < 4611686018427387904) (hk : (a < 0 ∧ k = 0) ∨ (a = k ∧ k ≤ t.size) ∨ ((t.size : Int) < a ∧ k = t.size)) :
    Calls Try.prog 35 #[.string t, .int .i64 a] w fun e w' => e = .returned (spotV (colN (t.data.toList.take k)) (lineN (t.data.toList.take k))) ∧ w = w' := by
  have hkt : k ≤ t.size := by omega
  have hl : (t.extract 0 k).data.toList = t.data.toList.take k := by rw [list_cut, List.drop_zero]
  have hz : (t.extract 0 k).size = k := by rw [ByteArray.size_extract]; omega
  have hc := colN_le (t.data.toList.take k)
  have hcl : (t.data.toList.take k).length = k := by rw [List.length_take]; have : t.data.toList.length = t.size := rfl; omega
  have k1 := hid fun w => Count_10 (t.extract 0 k) w
  have k2 := hid fun w => Last_10 (t.extract 0 k) (by omega) w
  rw [hl] at k1 k2
  rw [hz] at k2
  rw [hcl] at hc
  have HL := hid hl
  have HZ := hid hz
  clear hl hz hcl
  generalize colN (t.data.toList.take k) = C at *
  generalize lineN (t.data.toList.take k) = R at *
  have hc' : (C : Int) ≤ k := by omega
  have hk0 : (k : Int) ≤ 4611686018427387904 := by omega
  clear hc
  have hK : (min (max a 0) (t.size : Int)).toNat = k := by omega
  have HK := hid hK
  clear hK hk
  go_enter Try.func35, Try.ntmps35
  go_wp2_with fail
  rw [HK.out]
  refine (k1.out _).mono ?_
  rintro e w' ⟨rfl, rfl⟩
  have hz := HZ.out
  go_wp2_with fail
  refine (k2.out _).mono ?_
  rintro e w' ⟨rfl, rfl⟩
  go_wp2
  go_ret
  refine ⟨?_, rfl⟩
  show Ending.returned (.complex .f64 (floatOfInt .f64 _) (floatOfInt .f64 _)) = _
  congr 3
  omega

theorem Lines_any (t : ByteArray) (w : World) (ht : t.size < 4611686018427387904) : Calls Try.prog 39 #[.string t] w fun e w' => e = .returned (.int .i64 ((lineN t.data.toList : Nat) + 1)) ∧ w = w' := by
  have k1 := hid fun w => Count_10 t w
  have h1 := lineN_le t.data.toList
  have h2 : t.data.toList.length = t.size := rfl
  rw [h2] at h1
  clear h2
  generalize lineN t.data.toList = R at *
  have h3 : (R : Int) ≤ 4611686018427387904 := by omega
  go_enter Try.func39, Try.ntmps39
  go_wp2_with fail
  refine (k1.out _).mono ?_
  rintro e w' ⟨rfl, rfl⟩
  go_wp2
  go_ret
  exact ⟨rfl, rfl⟩

/-- A spot moved by another one. -/
def moved (c r x y : Int) : Value := if y = 0 then spotV (c + x) r else spotV x (r + y)

theorem Move_any (c r x y : Int) (w : World) (h1 : 0 ≤ c) (h2 : 0 ≤ r) (h3 : 0 ≤ x) (h4 : 0 ≤ y) (b1 : c ≤ 1000000) (b2 : r ≤ 1000000) (b3 : x ≤ 1000000) (b4 : y ≤ 1000000) :
    Calls Try.prog 41 #[spotV c r, spotV x y] w fun e w' => e = .returned (moved c r x y) ∧ w = w' := by
  have z0 : fl 0 = 0 := by decide
  have o := order_fl (a := y) (b := 0) (by omega) (by omega)
  rw [z0] at o
  have s1 : cSumBits .add .f64 (fl c) (fl r) (fl x) (fl y) = some (fl (c + x), fl (r + y)) := by
    unfold cSumBits
    rw [add_fl h1 h3 (by omega), add_fl h2 h4 (by omega)]
    rfl
  have s2 : cSumBits .add .f64 (fl 0) (fl r) (fl x) (fl y) = some (fl (0 + x), fl (r + y)) := by
    unfold cSumBits
    rw [add_fl (by omega) h3 (by omega), add_fl h2 h4 (by omega)]
    rfl
  rw [z0, Int.zero_add] at s2
  have r1 := fun w => run_complex_sum (P := Try.prog) w .add (.inl rfl) 38 .f64 _ _ _ _ _ _ s1
  have r2 := fun w => run_complex_sum (P := Try.prog) w .add (.inl rfl) 38 .f64 _ _ _ _ _ _ s2
  clear s1 s2
  by_cases h0 : y = 0
  · subst h0
    rw [Int.add_zero] at r1
    have t0 : (FloatKind.f64.format.order (fl 0) 0 == some Ordering.eq) = true := by rw [o]; rfl
    rw [show moved c r x 0 = spotV (c + x) r from if_pos rfl]
    have Z0 := hid z0
    clear o r2 z0
    unfold spotV
    generalize fl c = C at *
    generalize fl r = R at *
    generalize fl x = X at *
    generalize fl (0 : Int) = Y at *
    generalize fl (c + x) = S at *
    go_enter Try.func41, Try.ntmps41
    go_wp2
    go_ret
    exact ⟨rfl, rfl⟩
  · have t0 : (FloatKind.f64.format.order (fl y) 0 == some Ordering.eq) = false := by
      rw [o, Int.compare_eq_gt.2 (by omega)]; rfl
    rw [show moved c r x y = spotV x (r + y) from if_neg h0]
    have H0 := hid h0
    clear o r1 z0 h0
    unfold spotV
    generalize fl c = C at *
    generalize fl r = R at *
    generalize fl x = X at *
    generalize fl y = Y at *
    generalize fl (r + y) = S at *
    go_enter Try.func41, Try.ntmps41
    go_wp2
    go_ret
    exact ⟨rfl, rfl⟩

end Go.Proofs.Ytlkplncfiohlcaa
