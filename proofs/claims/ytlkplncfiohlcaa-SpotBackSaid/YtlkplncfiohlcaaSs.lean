/- spot.At, at a line that there is and any column; and the walk of the law SpotBack of package spot. -/
import Derived.Test.YtlkplncfiohlcaaSq
import Derived.Test.YtlkplncfiohlcaaSr
import Derived.Test.YtlkplncfiohlcaaSi
namespace Go.Proofs.Ytlkplncfiohlcaa
open Go Go.RowKit Go.Lib

theorem lineL_le (l : List UInt8) (n : Int) : (lineL l n).length ≤ l.length := by
  unfold lineL
  split
  · simp
  · have := (List.takeWhile_prefix (fun b : UInt8 => b != 10) (l := l.drop (begI l n).toNat)).length_le
    rw [List.length_drop] at this
    unfold upN
    omega

/-- whole, at any float: none, or a number from 0 to the most. -/
theorem whole_any (b : Nat) (most : Nat) (hm : most < 2 ^ 53) :
    (∃ n : Int, Hid (∀ w, Calls Try.prog 48 #[.float .f64 b, .int .i64 (most : Int)] w fun e w' => e = .returned (.tuple #[.int .i64 n, .bool false]) ∧ w = w')) ∨
    (∃ c : Nat, c ≤ most ∧ (FloatKind.f64.format.order (fl c) b == some Ordering.eq) = true ∧ Hid (∀ w, Calls Try.prog 48 #[.float .f64 b, .int .i64 (most : Int)] w fun e w' => e = .returned (.tuple #[.int .i64 (c : Int), .bool true]) ∧ w = w')) := by
  cases t1 : (FloatKind.f64.format.order b 0 == some Ordering.gt || FloatKind.f64.format.order b 0 == some Ordering.eq) with
  | false => exact .inl ⟨0, fun w => whole_out b most w (.inl t1)⟩
  | true =>
    cases t2 : (FloatKind.f64.format.order b (fl (most : Int)) == some Ordering.lt || FloatKind.f64.format.order b (fl (most : Int)) == some Ordering.eq) with
    | false => exact .inl ⟨0, fun w => whole_out b most w (.inr ⟨t1, t2⟩)⟩
    | true =>
      obtain ⟨n, hn, h0, h1⟩ := int_in b (most : Int) (by omega) t1 t2
      obtain ⟨c, rfl⟩ : ∃ c : Nat, n = c := ⟨n.toNat, by omega⟩
      have hw := fun w => whole_in b (c : Int) (most : Int) w t1 t2 hn
      cases t3 : (FloatKind.f64.format.order (fl (c : Int)) b == some Ordering.eq) with
      | false => rw [t3] at hw; exact .inl ⟨_, hw⟩
      | true => rw [t3] at hw; exact .inr ⟨c, by omega, t3, hw⟩

set_option maxRecDepth 100000 in
theorem At_half (t : ByteArray) (b r : Nat) (w : World) (ht : t.size ≤ 1000000) (hr : r ≤ lineN t.data.toList) :
    Calls Try.prog 37 #[.string t, .complex .f64 b (fl (r : Int))] w fun e w' => (e = .returned (.int .i64 (-1)) ∨ ∃ c : Nat, c ≤ (lineL t.data.toList (r : Int)).length ∧ (FloatKind.f64.format.order (fl c) b == some Ordering.eq) = true ∧ e = .returned (.int .i64 (begI t.data.toList (r : Int) + c))) ∧ ∃ k, w' = w.drewN k := by
  have hlen : t.data.toList.length = t.size := rfl
  have hln := lineN_le t.data.toList
  have hbr := begI_range t.data.toList (r : Int)
  have hbg : ¬ (begI t.data.toList (r : Int) < 0) := by
    obtain ⟨p, hp⟩ := begN_some t.data.toList r hr
    rw [begI_some hp]; omega
  rw [hlen] at hln hbr
  have k1 := hid fun w => Lines_any t w (by omega)
  have k2 := hid fun w => whole_fl_any (r : Int) (lineN t.data.toList : Nat) w (by omega) (by omega)
  rw [if_pos ⟨by omega, by omega⟩] at k2
  have k3 := hid fun w => Line_any t (r : Int) w (by omega) (by omega) (by omega)
  have hll := lineL_le t.data.toList (r : Int)
  have k5 := hid fun w => begin_any t (r : Int) w (by omega) (by omega) (by omega)
  have k4 := whole_any b (lineL t.data.toList (r : Int)).length (by omega)
  generalize lineN t.data.toList = R at *
  generalize lineL t.data.toList (r : Int) = L at *
  generalize begI t.data.toList (r : Int) = B at *
  generalize fl (r : Int) = fr at *
  have hR : (R : Int) ≤ 1000000 := by omega
  have hS : (t.size : Int) ≤ 1000000 := by omega
  have hb0 : 0 ≤ B := by omega
  have hb1 : B ≤ 1000000 := by omega
  have hL : (L.length : Int) ≤ 1000000 := by omega
  clear hln hlen hll ht hr hbg hbr
  rcases k4 with ⟨n, k4⟩ | ⟨c, hc, t3, k4⟩
  · go_enter Try.func37, Try.ntmps37
    go_wp2_with fail
    refine (k1.out _).mono ?_
    rintro e w' ⟨rfl, rfl⟩
    go_wp2_with fail
    refine (k2.out _).mono ?_
    rintro e w' ⟨rfl, rfl⟩
    go_wp2_with fail
    refine (k3.out _).mono ?_
    rintro e w' ⟨⟨x, hx, rfl⟩, k, rfl⟩
    have hxs : x.size = L.length := by rw [← hx]; rfl
    clear hx
    go_wp2_with fail
    refine (k4.out _).mono ?_
    rintro e w' ⟨rfl, rfl⟩
    go_wp2
    go_ret
    exact ⟨.inl rfl, k, rfl⟩
  · have hcc : (c : Int) ≤ 1000000 := by omega
    have T3 := hid t3
    clear t3
    go_enter Try.func37, Try.ntmps37
    go_wp2_with fail
    refine (k1.out _).mono ?_
    rintro e w' ⟨rfl, rfl⟩
    go_wp2_with fail
    refine (k2.out _).mono ?_
    rintro e w' ⟨rfl, rfl⟩
    go_wp2_with fail
    refine (k3.out _).mono ?_
    rintro e w' ⟨⟨x, hx, rfl⟩, k, rfl⟩
    have hxs : x.size = L.length := by rw [← hx]; rfl
    clear hx
    go_wp2_with fail
    refine (k4.out _).mono ?_
    rintro e w' ⟨rfl, rfl⟩
    go_wp2_with fail
    refine (k5.out _).mono ?_
    rintro e w' ⟨rfl, rfl⟩
    go_wp2
    go_ret
    exact ⟨.inr ⟨c, hc, T3.out, rfl⟩, k, rfl⟩

end Go.Proofs.Ytlkplncfiohlcaa
