/- spot.Line and spot.At, at every text, number and whole spot. -/
import Derived.Test.YtlkplncfiohlcaaSd
namespace Go.Proofs.Ytlkplncfiohlcaa
open Go Go.RowKit Go.Lib

/-- Line n of a text. -/
def lineL (l : List UInt8) (n : Int) : List UInt8 := if begI l n < 0 then [] else upN (l.drop (begI l n).toNat)

theorem begN_le : ∀ (l : List UInt8) (n p : Nat), begN l n = some p → p ≤ l.length
  | [], 0, p, h => by simp [begN] at h; omega
  | _ :: _, 0, p, h => by simp [begN] at h; omega
  | [], _ + 1, p, h => by simp [begN] at h
  | b :: l, n + 1, p, h => by
    simp only [begN] at h
    split at h
    · cases e : begN l n with
      | none => rw [e] at h; cases h
      | some q => rw [e] at h; have := begN_le l n q e; simp at h ⊢; omega
    · cases e : begN l (n + 1) with
      | none => rw [e] at h; cases h
      | some q => rw [e] at h; have := begN_le l (n + 1) q e; simp at h ⊢; omega
theorem begI_range (l : List UInt8) (n : Int) : -1 ≤ begI l n ∧ begI l n ≤ l.length := by
  unfold begI
  split
  · omega
  · cases e : begN l n.toNat with
    | none => simp only; omega
    | some p => have := begN_le l _ _ e; simp only; omega

theorem Line_any (t : ByteArray) (n : Int) (w : World) (ht : t.size < 4611686018427387904) (h0 : -4611686018427387904 ≤ n) (h1 : n ≤ 4611686018427387904) :
    Calls Try.prog 40 #[.string t, .int .i64 n] w fun e w' => (∃ x : ByteArray, x.data.toList = lineL t.data.toList n ∧ e = .returned (.string x)) ∧ ∃ k, w' = w.drewN k := by
  have k1 := hid fun w => begin_any t n w ht h0 h1
  have hr := begI_range t.data.toList n
  have hlen : t.data.toList.length = t.size := rfl
  rw [hlen] at hr
  have hL : lineL t.data.toList n = if begI t.data.toList n < 0 then [] else upN (t.data.toList.drop (begI t.data.toList n).toNat) := rfl
  generalize begI t.data.toList n = p at *
  generalize lineL t.data.toList n = L at *
  clear hlen
  by_cases hp : p < 0
  · rw [if_pos hp] at hL
    subst hL
    have hpc : p < 0 := hp
    go_enter Try.func40, Try.ntmps40
    go_wp2_with fail
    refine (k1.out _).mono ?_
    rintro e w' ⟨rfl, rfl⟩
    go_wp2
    go_ret
    exact ⟨⟨{ data := #[] }, rfl, rfl⟩, 0, rfl⟩
  · rw [if_neg hp] at hL
    obtain ⟨q, rfl⟩ : ∃ q : Nat, p = q := ⟨p.toNat, by omega⟩
    rw [Int.toNat_natCast] at hL
    have i0 : (0 : Int) ≤ (q : Int) := by omega
    have i1 : (q : Int) ≤ (t.size : Int) := by omega
    have kc := hid fun w => Cut_10 (t.extract q t.size) w (by rw [ByteArray.size_extract]; omega)
    rw [drop_end] at kc
    have HL := hid hL
    clear hL hp hr
    go_enter Try.func40, Try.ntmps40
    go_wp2_with fail
    refine (k1.out _).mono ?_
    rintro e w' ⟨rfl, rfl⟩
    go_wp2_with fail
    refine (kc.out _).mono ?_
    rintro e w' ⟨⟨x, y, z, hx, rfl⟩, k, rfl⟩
    have HX := hid hx
    clear hx
    go_wp2
    go_ret
    exact ⟨⟨x, by rw [HL.out, HX.out], rfl⟩, k, rfl⟩

/-- The place of a spot; -1 if it is none. -/
def atI (l : List UInt8) (c r : Int) : Int := if 0 ≤ r ∧ r ≤ lineN l then (if 0 ≤ c ∧ c ≤ (lineL l r).length then begI l r + c else -1) else -1

set_option maxRecDepth 100000 in
theorem At_any (t : ByteArray) (c r : Int) (w : World) (ht : t.size ≤ 1000000) (hc : c.natAbs < 2 ^ 53) (hr : r.natAbs < 2 ^ 53) :
    Calls Try.prog 37 #[.string t, spotV c r] w fun e w' => e = .returned (.int .i64 (atI t.data.toList c r)) ∧ ∃ k, w' = w.drewN k := by
  have hlen : t.data.toList.length = t.size := rfl
  have hln := lineN_le t.data.toList
  have hbr := begI_range t.data.toList r
  rw [hlen] at hln hbr
  have k1 := hid fun w => Lines_any t w (by omega)
  have k2 := hid fun w => whole_fl_any r (lineN t.data.toList : Nat) w hr (by omega)
  unfold spotV
  by_cases h1 : 0 ≤ r ∧ r ≤ (lineN t.data.toList : Nat)
  · have k3 := hid fun w => Line_any t r w (by omega) (by omega) (by omega)
    have hll : (lineL t.data.toList r).length ≤ t.size := by
      unfold lineL
      split
      · simp
      · have := (List.takeWhile_prefix (fun b : UInt8 => b != 10) (l := t.data.toList.drop (begI t.data.toList r).toNat)).length_le
        rw [List.length_drop, hlen] at this
        unfold upN
        omega
    have k4 := hid fun w => whole_fl_any c ((lineL t.data.toList r).length : Nat) w hc (by omega)
    have k5 := hid fun w => begin_any t r w (by omega) (by omega) (by omega)
    have hat : atI t.data.toList c r = if 0 ≤ c ∧ c ≤ ((lineL t.data.toList r).length : Nat) then begI t.data.toList r + c else -1 := if_pos h1
    rw [if_pos h1] at k2
    generalize lineN t.data.toList = R at *
    generalize atI t.data.toList c r = A at *
    generalize lineL t.data.toList r = L at *
    generalize begI t.data.toList r = B at *
    generalize fl c = fc at *
    generalize fl r = fr at *
    by_cases h2 : 0 ≤ c ∧ c ≤ (L.length : Nat)
    · rw [if_pos h2] at k4 hat
      subst hat
      obtain ⟨h21, h22⟩ := h2
      have hR : (R : Int) ≤ 1000000 := by omega
      have hS : (t.size : Int) ≤ 1000000 := by omega
      obtain ⟨hb0, hb1⟩ := hbr
      have hcc : c ≤ 1000000 := by omega
      have hbb : B ≤ 1000000 := by omega
      clear hln hlen hll ht hr hc
      go_enter Try.func37, Try.ntmps37
      go_wp2_with fail
      refine (k1.out _).mono ?_
      rintro e w' ⟨rfl, rfl⟩
      go_wp2_with fail
      refine (k2.out _).mono ?_
      rintro e w' ⟨rfl, rfl⟩
      go_wp2_with fail
      refine (k3.out _).mono ?_
      rintro e w' ⟨⟨x, hx, rfl⟩, k, rfl⟩
      have hxs : x.size = L.length := by rw [← hx]; rfl
      go_wp2_with fail
      refine (k4.out _).mono ?_
      rintro e w' ⟨rfl, rfl⟩
      go_wp2_with fail
      refine (k5.out _).mono ?_
      rintro e w' ⟨rfl, rfl⟩
      go_wp2
      go_ret
      exact ⟨rfl, k, rfl⟩
    · rw [if_neg h2] at k4 hat
      subst hat
      have hR : (R : Int) ≤ 1000000 := by omega
      clear hln hlen hll ht hr hc
      go_enter Try.func37, Try.ntmps37
      go_wp2_with fail
      refine (k1.out _).mono ?_
      rintro e w' ⟨rfl, rfl⟩
      go_wp2_with fail
      refine (k2.out _).mono ?_
      rintro e w' ⟨rfl, rfl⟩
      go_wp2_with fail
      refine (k3.out _).mono ?_
      rintro e w' ⟨⟨x, hx, rfl⟩, k, rfl⟩
      have hxs : x.size = L.length := by rw [← hx]; rfl
      clear hx
      go_wp2_with fail
      refine (k4.out _).mono ?_
      rintro e w' ⟨rfl, rfl⟩
      go_wp2
      go_ret
      exact ⟨rfl, k, rfl⟩
  · have hat : atI t.data.toList c r = -1 := if_neg h1
    rw [if_neg h1] at k2
    rw [hat]
    generalize lineN t.data.toList = R at *
    generalize fl c = fc at *
    generalize fl r = fr at *
    have hR : (R : Int) ≤ 1000000 := by omega
    clear hat h1 hln hlen hbr ht hr hc
    go_enter Try.func37, Try.ntmps37
    go_wp2_with fail
    refine (k1.out _).mono ?_
    rintro e w' ⟨rfl, rfl⟩
    go_wp2_with fail
    refine (k2.out _).mono ?_
    rintro e w' ⟨rfl, rfl⟩
    go_wp2
    go_ret
    exact ⟨rfl, 0, rfl⟩

end Go.Proofs.Ytlkplncfiohlcaa
