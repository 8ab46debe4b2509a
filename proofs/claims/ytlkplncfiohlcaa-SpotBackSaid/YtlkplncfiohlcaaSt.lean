/- The walk of the law SpotBack of package spot. -/
import Derived.Test.YtlkplncfiohlcaaSs
namespace Go.Proofs.Ytlkplncfiohlcaa
open Go Go.RowKit Go.Lib

set_option maxRecDepth 100000 in
set_option maxHeartbeats 2000000 in
theorem back_walk (t : ByteArray) (a : Int) (b : Nat) (w : World) : Calls Try.prog 9 #[.string t, .int .i64 a, .float .f64 b] w fun e w' => e = .returned (.bool true) ∧ ∃ k, w' = w.drewN k := by
  by_cases hall : (t.size : Int) ≤ 300 ∧ 0 ≤ a ∧ a ≤ (t.size : Int)
  · obtain ⟨g1, g2, g3⟩ := hall
    obtain ⟨a, rfl⟩ : ∃ n : Nat, a = n := ⟨a.toNat, by omega⟩
    have hlen : t.data.toList.length = t.size := rfl
    have k1 := hid fun w => Of_nat t a a w (by omega) (.inr (.inl ⟨rfl, by omega⟩))
    obtain ⟨hat, hcl⟩ := at_spot t.data.toList a (by omega)
    have hrl := lineN_take_le t.data.toList a
    have hll := lineL_le t.data.toList (lineN (t.data.toList.take a) : Nat)
    have hln := lineN_le t.data.toList
    have k2 := hid fun w => Line_any t (lineN (t.data.toList.take a) : Nat) w (by omega) (by omega) (by omega)
    have k3 := hid fun w => At_half t b (lineN (t.data.toList.take a)) w (by omega) hrl
    have k4 := hid fun w => At_any t (colN (t.data.toList.take a) : Nat) (lineN (t.data.toList.take a) : Nat) w (by omega) (by omega) (by omega)
    rw [hat] at k4
    have k5 := hid fun w => Lines_any t w (by omega)
    have k6 : Hid (∀ c : Nat, c ≤ (lineL t.data.toList (lineN (t.data.toList.take a) : Nat)).length → ∀ w, Calls Try.prog 35 #[.string t, .int .i64 (begI t.data.toList (lineN (t.data.toList.take a) : Nat) + c)] w fun e w' => e = .returned (spotV (c : Nat) (lineN (t.data.toList.take a) : Nat)) ∧ w = w') := by
      intro c hc w
      obtain ⟨k, hk, e1, e2, e3⟩ := spot_back t.data.toList _ c hrl hc
      have := Of_nat t (k : Int) k w (by omega) (.inr (.inl ⟨rfl, by omega⟩))
      rw [e1, ← e2, ← e3]
      rw [e2, e3] at this ⊢
      exact this
    have hbg : 0 ≤ begI t.data.toList (lineN (t.data.toList.take a) : Nat) := by
      obtain ⟨p, hp⟩ := begN_some t.data.toList _ hrl
      rw [begI_some hp]; omega
    rw [hlen] at hll hln
    unfold spotV at k1 k4 k6
    have i1 : floatToIntVal .f64 (fl (lineN (t.data.toList.take a) : Nat)) .i64 = some ((lineN (t.data.toList.take a) : Nat) : Int) := int_fl (by omega)
    have i2 : floatToIntVal .f64 (fl (colN (t.data.toList.take a) : Nat)) .i64 = some ((colN (t.data.toList.take a) : Nat) : Int) := int_fl (by omega)
    have c1 := fun w => run_convert_float_int (P := Try.prog) w 39 3 .f64 .i64 _ _ (by kernel_rfl) Try.underlying3 i1
    have c2 := fun w => run_convert_float_int (P := Try.prog) w 39 3 .f64 .i64 _ _ (by kernel_rfl) Try.underlying3 i2
    have s1 := same_fl (z := (lineN (t.data.toList.take a) : Nat)) (by omega)
    clear hat i1 i2 hlen
    generalize lineN (t.data.toList.take a) = R at *
    generalize colN (t.data.toList.take a) = C at *
    generalize lineN t.data.toList = N at *
    generalize hB : begI t.data.toList (R : Int) = B at *
    generalize hL : lineL t.data.toList (R : Int) = L at *
    generalize fl (C : Int) = fc at *
    generalize hfr : fl (R : Int) = fr at *
    clear hB hfr
    have hN : (N : Int) ≤ 300 := by omega
    have hRN : (R : Int) < (N : Int) + 1 := by omega
    have hCL : (C : Int) ≤ (L.length : Int) := by omega
    have haa : (((a : Int)) == (a : Int)) = true := by simp
    go_enter Try.func9, Try.ntmps9
    go_wp2_with fail
    refine (spot_works w).mono ?_
    rintro e w' ⟨rfl, k, rfl⟩
    go_wp2_with fail
    refine (k1.out _).mono ?_
    rintro e w' ⟨rfl, rfl⟩
    go_wp2_with fail
    refine (k2.out _).mono ?_
    rintro e w' ⟨⟨x, hx, rfl⟩, k', rfl⟩
    have hxs : x.size = L.length := by rw [← hx]; rfl
    clear hx
    have hCx : (C : Int) ≤ (x.size : Int) := by omega
    go_wp2_with fail
    refine (k3.out _).mono ?_
    rintro e w' ⟨rfl | ⟨c, hc, T, rfl⟩, k'', rfl⟩
    · go_wp2_with fail
      refine (k4.out _).mono ?_
      rintro e w' ⟨rfl, k3, rfl⟩
      go_wp2_with fail
      refine (k5.out _).mono ?_
      rintro e w' ⟨rfl, rfl⟩
      go_wp2
      go_ret
      exact ⟨rfl, _, rfl⟩
    · have hne : (B + (c : Int) == -1) = false := by
        rw [beq_eq_false_iff_ne]; omega
      go_wp2_with fail
      refine (k4.out _).mono ?_
      rintro e w' ⟨rfl, k3, rfl⟩
      go_wp2_with fail
      refine (k5.out _).mono ?_
      rintro e w' ⟨rfl, rfl⟩
      go_wp2_with fail
      refine (k6.out c hc _).mono ?_
      rintro e w' ⟨rfl, rfl⟩
      go_wp2
      go_ret
      exact ⟨rfl, _, rfl⟩
  · by_cases h1 : (t.size : Int) ≤ 300
    · by_cases h2 : 0 ≤ a
      · have h3 : (t.size : Int) < a := by omega
        go_enter Try.func9, Try.ntmps9
        go_wp2_with fail
        refine (spot_works w).mono ?_
        rintro e w' ⟨rfl, k, rfl⟩
        go_wp2
        go_ret
        exact ⟨rfl, k, rfl⟩
      · have h3 : a < 0 := by omega
        go_enter Try.func9, Try.ntmps9
        go_wp2_with fail
        refine (spot_works w).mono ?_
        rintro e w' ⟨rfl, k, rfl⟩
        go_wp2
        go_ret
        exact ⟨rfl, k, rfl⟩
    · have h3 : 300 < (t.size : Int) := by omega
      go_enter Try.func9, Try.ntmps9
      go_wp2_with fail
      refine (spot_works w).mono ?_
      rintro e w' ⟨rfl, k, rfl⟩
      go_wp2
      go_ret
      exact ⟨rfl, k, rfl⟩

end Go.Proofs.Ytlkplncfiohlcaa
