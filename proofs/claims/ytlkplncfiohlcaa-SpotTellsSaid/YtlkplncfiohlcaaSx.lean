/- spot.Line, at every text and every number. -/
import Derived.Test.YtlkplncfiohlcaaSe
namespace Go.Proofs.Ytlkplncfiohlcaa
open Go Go.RowKit Go.Lib

set_option maxRecDepth 100000 in
set_option maxHeartbeats 2000000 in
theorem begin_wide (t : ByteArray) (n : Int) (w : World) (ht : t.size < 4611686018427387904) (h0 : -9223372036854775808 ≤ n) (h1 : n ≤ 9223372036854775807) : Calls Try.prog 49 #[.string t, .int .i64 n] w fun e w' => e = .returned (.int .i64 (begI t.data.toList n)) ∧ w = w' := by
  have hz : (t.size : Int) ≤ 4611686018427387904 := by omega
  have hlen : t.data.toList.length = t.size := rfl
  go_enter Try.func49, Try.ntmps49
  go_wp2
  refine wp_scope_jumps 0 (fun a' w' => w' = w ∧ ∃ (p : Nat) (m : Int) (u6 u7 u8 u9 u10 u11 u12 u13 u14 u15 u16 u17 u18 u19 u20 u21 u22 u23 u24 u25 : Value),
      a' = { tmps := #[.string t, .int .i64 m, undef, undef, .int .i64 0, .int .i64 (p : Int), u6, u7, u8, u9, u10, u11, u12, u13, u14, u15, u16, u17, u18, u19, u20, u21, u22, u23, u24, u25], defers := [] } ∧
      onI p (begI (t.data.toList.drop p) m) = begI t.data.toList n ∧ p ≤ t.size ∧ -9223372036854775808 ≤ m ∧ m ≤ 9223372036854775807) (fun a' _ => (RowKit.intOf (a'.tmps.getD 1 undef)).toNat) rfl ?_ ?_
  · have hcs : n = 0 ∨ n < 0 ∨ (0 < n) := by omega
    have k1 := hid fun w => Index_10 t w
    rcases hcs with hm | hm | hm
    · subst hm
      go_wp2
      go_step3
      go_wp2
      simp only [Exit.jump]
      go_ret
      exact ⟨by rw [begI_zero]; rfl, rfl⟩
    · have HM := hid (begI_neg t.data.toList hm)
      have e0 : ((n) == 0) = false := by simp; omega
      go_wp2
      go_step3
      go_wp2_with fail
      refine (k1.out _).mono ?_
      rintro e w' ⟨rfl, rfl⟩
      go_wp2
      simp only [Exit.jump]
      go_ret
      exact ⟨by rw [HM.out]; rfl, rfl⟩
    · have e0 : ((n) == 0) = false := by simp; omega
      have hm2 : 0 ≤ n := by omega
      rcases index_cases t.data.toList with ⟨e1, _, _, e4⟩ | ⟨i, e1, e2, _, e4⟩
      · rw [e1] at k1
        have HM := hid (begI_none hm e4)
        clear e1 e4
        go_wp2
        go_step3
        go_wp2_with fail
        refine (k1.out _).mono ?_
        rintro e w' ⟨rfl, rfl⟩
        go_wp2
        simp only [Exit.jump]
        go_ret
        exact ⟨by rw [HM.out]; rfl, rfl⟩
      · rw [e1] at k1
        have HM := hid (begI_next (p := 0) hm e4)
        have j1 : (0 : Int) ≤ (i : Int) := by omega
        have j2 : (i : Int) ≤ 4611686018427387904 := by rw [hlen] at e2; omega
        have j3 : (i : Int) + 1 ≤ (t.size : Int) := by rw [hlen] at e2; omega
        clear e1 e2 e4
        go_wp2
        go_step3
        go_wp2_with fail
        refine (k1.out _).mono ?_
        rintro e w' ⟨rfl, rfl⟩
        go_wp2
        go_step3
        refine ⟨rfl, rfl, i + 1, n - 1, _, _, _, _, _, _, _, _, _, _, _, _, _, _, _, _, _, _, _, _, rfl, ?_, by omega, by omega, by omega⟩
        have := HM.out
        rw [onI_zero, Nat.zero_add] at this
        exact this.symm
  · rintro a' w' ⟨rfl, p, m, u6, u7, u8, u9, u10, u11, u12, u13, u14, u15, u16, u17, u18, u19, u20, u21, u22, u23, u24, u25, rfl, hs, hp, g0, g1⟩
    have hcs : m = 0 ∨ m < 0 ∨ (0 < m) := by omega
    have k1 := hid fun w => Index_10 (t.extract p t.size) w
    rw [drop_end] at k1
    have hdl : (t.data.toList.drop p).length = t.size - p := by rw [List.length_drop, hlen]
    have i0 : (0 : Int) ≤ (p : Int) := by omega
    have i1 : (p : Int) ≤ (t.size : Int) := by omega
    rcases hcs with hm | hm | hm
    · subst hm
      have HS := hid hs
      clear hs
      go_wp2
      simp only [Exit.jump]
      go_ret
      exact ⟨by rw [← HS.out, begI_zero]; simp only [onI]; rfl, rfl⟩
    · have HM := hid (begI_neg (t.data.toList.drop p) hm)
      have e0 : ((m) == 0) = false := by simp; omega
      have HS := hid hs
      clear hs
      go_wp2_with fail
      refine (k1.out _).mono ?_
      rintro e w' ⟨rfl, rfl⟩
      go_wp2
      simp only [Exit.jump]
      go_ret
      exact ⟨by rw [← HS.out, HM.out]; rfl, rfl⟩
    · have e0 : ((m) == 0) = false := by simp; omega
      have hm2 : 0 ≤ m := by omega
      rcases index_cases (t.data.toList.drop p) with ⟨e1, _, _, e4⟩ | ⟨i, e1, e2, _, e4⟩
      · rw [e1] at k1
        have HM := hid (begI_none hm e4)
        clear e1 e4
        have HS := hid hs
        clear hs
        go_wp2_with fail
        refine (k1.out _).mono ?_
        rintro e w' ⟨rfl, rfl⟩
        go_wp2
        simp only [Exit.jump]
        go_ret
        exact ⟨by rw [← HS.out, HM.out]; rfl, rfl⟩
      · rw [e1] at k1
        have HM := hid (begI_next (p := p) hm e4)
        have j1 : (0 : Int) ≤ (i : Int) := by omega
        have j2 : (i : Int) ≤ 4611686018427387904 := by rw [hdl] at e2; omega
        have j3 : (p : Int) + (i : Int) + 1 ≤ (t.size : Int) := by rw [hdl] at e2; omega
        clear e1 e2 e4
        have HS := hid hs
        clear hs hdl
        go_wp2_with fail
        refine (k1.out _).mono ?_
        rintro e w' ⟨rfl, rfl⟩
        go_wp2
        go_step3
        rw [show ((p : Int) + ((i : Int) + 1)) = ((p + i + 1 : Nat) : Int) from by omega]
        refine ⟨rfl, ⟨rfl, p + i + 1, m - 1, _, _, _, _, _, _, _, _, _, _, _, _, _, _, _, _, _, _, _, _, rfl, ?_, by omega, by omega, by omega⟩, ?_⟩
        · rw [← HS.out, HM.out, List.drop_drop]; rfl
        · simp [RowKit.intOf]; omega

theorem Line_wide (t : ByteArray) (n : Int) (w : World) (ht : t.size < 4611686018427387904) (h0 : -9223372036854775808 ≤ n) (h1 : n ≤ 9223372036854775807) :
    Calls Try.prog 40 #[.string t, .int .i64 n] w fun e w' => (∃ x : ByteArray, x.data.toList = lineL t.data.toList n ∧ e = .returned (.string x)) ∧ ∃ k, w' = w.drewN k := by
  have k1 := hid fun w => begin_wide t n w ht h0 h1
  have hr := begI_range t.data.toList n
  have hlen : t.data.toList.length = t.size := rfl
  rw [hlen] at hr
  have hL : lineL t.data.toList n = if begI t.data.toList n < 0 then [] else upN (t.data.toList.drop (begI t.data.toList n).toNat) := rfl
  generalize begI t.data.toList n = p at *
  generalize lineL t.data.toList n = L at *
  clear hlen
  by_cases hp : p < 0
  · rw [if_pos hp] at hL
    subst hL
    have hpc : p < 0 := hp
    go_enter Try.func40, Try.ntmps40
    go_wp2_with fail
    refine (k1.out _).mono ?_
    rintro e w' ⟨rfl, rfl⟩
    go_wp2
    go_ret
    exact ⟨⟨{ data := #[] }, rfl, rfl⟩, 0, rfl⟩
  · rw [if_neg hp] at hL
    obtain ⟨q, rfl⟩ : ∃ q : Nat, p = q := ⟨p.toNat, by omega⟩
    rw [Int.toNat_natCast] at hL
    have i0 : (0 : Int) ≤ (q : Int) := by omega
    have i1 : (q : Int) ≤ (t.size : Int) := by omega
    have kc := hid fun w => Cut_10 (t.extract q t.size) w (by rw [ByteArray.size_extract]; omega)
    rw [drop_end] at kc
    have HL := hid hL
    clear hL hp hr
    go_enter Try.func40, Try.ntmps40
    go_wp2_with fail
    refine (k1.out _).mono ?_
    rintro e w' ⟨rfl, rfl⟩
    go_wp2_with fail
    refine (kc.out _).mono ?_
    rintro e w' ⟨⟨x, y, z, hx, rfl⟩, k, rfl⟩
    have HX := hid hx
    clear hx
    go_wp2
    go_ret
    exact ⟨⟨x, by rw [HL.out, HX.out], rfl⟩, k, rfl⟩

end Go.Proofs.Ytlkplncfiohlcaa
