/- The document's own Of and Move of package spot. -/
import Derived.Test.YtlkplncfiohlcaaSf
namespace Go.Proofs.Ytlkplncfiohlcaa
open Go Go.RowKit Go.Lib

theorem take_byte (t : ByteArray) {j : Nat} (h : j < t.size) : t.data.toList.take (j + 1) = t.data.toList.take j ++ [t[j]] := by
  have hk : j < t.data.toList.length := h
  rw [List.take_succ_eq_append_getElem hk]; rfl

set_option maxRecDepth 100000 in
set_option maxHeartbeats 1000000 in
theorem ROf_nat (t : ByteArray) (a : Int) (k : Nat) (w : World) (ht : t.size < 4611686018427387904) (hk : (a < 0 ∧ k = 0) ∨ (a = k ∧ k ≤ t.size) ∨ ((t.size : Int) < a ∧ k = t.size)) :
    Calls Try.prog 36 #[.string t, .int .i64 a] w fun e w' => e = .returned (spotV (colN (t.data.toList.take k)) (lineN (t.data.toList.take k))) ∧ w = w' := by
  have hkt : k ≤ t.size := by omega
  have hz : (t.size : Int) ≤ 4611686018427387904 := by omega
  have hend : ¬ ((k : Int) < (t.size : Int)) ∨ ((k : Int) < (t.size : Int) ∧ ¬ ((k : Int) < a)) := by omega
  have hin : ∀ j : Nat, j < k → (j : Int) < a := by omega
  have HE := hid hend
  have HI := hid hin
  clear hk hend hin
  go_enter Try.func36, Try.ntmps36
  go_wp2
  go_loop [5, 6, 7] (fun r c i => ∃ j : Nat, j ≤ k ∧ i = .int .i64 (j : Int) ∧ c = .int .i64 ((colN (t.data.toList.take j) : Nat) : Int) ∧ r = .int .i64 ((lineN (t.data.toList.take j) : Nat) : Int)) (fun _ _ i => k - (RowKit.intOf i).toNat)
  case atStart => exact ⟨0, Nat.zero_le _, rfl, by simp [colN_nil], by simp [lineN_nil]⟩
  case round =>
    obtain ⟨j, hj, rfl, rfl, rfl⟩ := hrel
    have c1 := colN_le (t.data.toList.take j)
    have c2 := lineN_le (t.data.toList.take j)
    have c3 : (t.data.toList.take j).length ≤ j := List.length_take_le _ _
    by_cases hlt : j < k
    · have i1 : (j : Int) < (t.size : Int) := by omega
      have i2 := HI.out j hlt
      have i0 : (0 : Int) ≤ (j : Int) := by omega
      have hjs : j < t.size := by omega
      have TB := take_byte t hjs
      have C1 := colN_snoc (t.data.toList.take j) t[j]
      have C2 := lineN_snoc (t.data.toList.take j) t[j]
      rw [← TB] at C1 C2
      have e1 : (colN (t.data.toList.take j) : Int) ≤ 4611686018427387904 := by omega
      have e2 : (lineN (t.data.toList.take j) : Int) ≤ 4611686018427387904 := by omega
      clear TB c1 c2 c3
      generalize colN (t.data.toList.take j) = C at *
      generalize lineN (t.data.toList.take j) = R at *
      by_cases hb : t[j] = 10
      · rw [if_pos hb] at C1 C2
        have HC1 := hid C1
        have HC2 := hid C2
        have tb : (((t[j]).toNat : Int) == 10) = true := by rw [hb]; rfl
        clear C1 C2 hb
        go_wp2
        exact ⟨⟨j + 1, by omega, by go_num, by rw [HC1.out] <;> rfl, by rw [HC2.out] <;> rfl⟩, by simp [RowKit.intOf]; omega⟩
      · rw [if_neg hb] at C1 C2
        have HC1 := hid C1
        have HC2 := hid C2
        have tb : (((t[j]).toNat : Int) == 10) = false := by
          rw [beq_eq_false_iff_ne]; intro h; apply hb; apply UInt8.toNat_inj.1; show _ = 10; omega
        clear C1 C2 hb
        go_wp2
        exact ⟨⟨j + 1, by omega, by go_num, by rw [HC1.out] <;> rfl, by rw [HC2.out] <;> rfl⟩, by simp [RowKit.intOf]; omega⟩
    · obtain rfl : j = k := by omega
      rcases HE.out with h | ⟨h, h'⟩
      · go_wp2
        go_ret
        exact ⟨rfl, rfl⟩
      · go_wp2
        go_ret
        exact ⟨rfl, rfl⟩

theorem RMove_any (c r x y : Int) (w : World) (h1 : 0 ≤ c) (h2 : 0 ≤ r) (h3 : 0 ≤ x) (h4 : 0 ≤ y) (b1 : c ≤ 1000000) (b2 : r ≤ 1000000) (b3 : x ≤ 1000000) (b4 : y ≤ 1000000) :
    Calls Try.prog 42 #[spotV c r, spotV x y] w fun e w' => e = .returned (moved c r x y) ∧ w = w' := by
  have o := order_fl (a := y) (b := 0) (by omega) (by omega)
  rw [z0] at o
  have r1 := fun w => run_float_arith (P := Try.prog) w .add 39 .f64 _ _ _ (add_fl h1 h3 (by omega))
  have r2 := fun w => run_float_arith (P := Try.prog) w .add 39 .f64 _ _ _ (add_fl h2 h4 (by omega))
  by_cases h0 : y = 0
  · subst h0
    have t0 : (FloatKind.f64.format.order (fl 0) 0 == some Ordering.eq) = true := by rw [o]; rfl
    rw [show moved c r x 0 = spotV (c + x) r from if_pos rfl]
    clear o r2
    unfold spotV
    generalize fl c = C at *
    generalize fl r = R at *
    generalize fl x = X at *
    generalize fl (0 : Int) = Y at *
    generalize fl (c + x) = S at *
    go_enter Try.func42, Try.ntmps42
    go_wp2
    go_ret
    exact ⟨rfl, rfl⟩
  · have t0 : (FloatKind.f64.format.order (fl y) 0 == some Ordering.eq) = false := by
      rw [o, Int.compare_eq_gt.2 (by omega)]; rfl
    rw [show moved c r x y = spotV x (r + y) from if_neg h0]
    have H0 := hid h0
    clear o r1 h0
    unfold spotV
    generalize fl c = C at *
    generalize fl r = R at *
    generalize fl x = X at *
    generalize fl y = Y at *
    generalize fl (r + y) = S at *
    go_enter Try.func42, Try.ntmps42
    go_wp2
    go_ret
    exact ⟨rfl, rfl⟩

end Go.Proofs.Ytlkplncfiohlcaa
