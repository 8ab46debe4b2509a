/- The calls of package bits, at every set and number. -/
import Derived.Laws.Bits64
import Derived.Laws.Bits64b
import Derived.Test.YtmfobiimihaiiaaGb
import Derived.Test.YtmfobiimihaiiaaHn
namespace Go.Proofs.Ytmfobiimihaiiaa
open Go Go.RowKit Go.Lib

abbrev u64 (n : Nat) : Value := .int .u64 (n : Int)

theorem bits_andNot_u64_nat (a b : Nat) (ha : a < 18446744073709551616) (hb : b < 18446744073709551616) :
    bits .andNot .u64 (a : Int) (b : Int) = ((lessN a b : Nat) : Int) := by
  have hx := lessN_lt ha b
  have h1 : (BitVec.ofInt 64 (a : Int)).toNat = a := by
    rw [BitVec.ofInt_natCast, BitVec.toNat_ofNat]; exact Nat.mod_eq_of_lt (by omega)
  have h2 : (BitVec.ofInt 64 (b : Int)).toNat = b := by
    rw [BitVec.ofInt_natCast, BitVec.toNat_ofNat]; exact Nat.mod_eq_of_lt (by omega)
  have h3 : (BitVec.ofInt 64 (a : Int) &&& ~~~(BitVec.ofInt 64 (b : Int))).toNat = lessN a b := by
    refine set_ext (BitVec.isLt _) hx fun i hi => ?_
    rw [testBit_lessN, BitVec.testBit_toNat, BitVec.getLsbD_and, BitVec.getLsbD_not, ← BitVec.testBit_toNat, ← BitVec.testBit_toNat, h1, h2]
    simp [hi]
  show IntKind.u64.wrap ((BitVec.ofInt 64 (a : Int) &&& ~~~(BitVec.ofInt 64 (b : Int))).toNat : Int) = _
  rw [h3, IntKind.wrap_u64]
  omega

theorem wrap_pow (n : Int) (h0 : 0 ≤ n) (h1 : n < 64) : IntKind.u64.wrap (2 ^ n.toNat) = ((bitN n : Nat) : Int) := by
  have hb := bitN_lt n
  have e : ((2 : Int) ^ n.toNat) = ((bitN n : Nat) : Int) := by unfold bitN; rw [if_pos ⟨h0, h1⟩]; simp
  rw [e, IntKind.wrap_u64]
  omega

theorem bit_any (n : Int) (w : World) : Calls Try.prog 48 #[.int .i64 n] w fun e w' => e = .returned (u64 (bitN n)) ∧ w = w' := by
  by_cases h : 0 ≤ n ∧ n < 64
  · obtain ⟨h0, h1⟩ := h
    go_enter Try.func48, Try.ntmps48
    go_wp2
    go_ret
    exact ⟨by rw [wrap_pow n h0 h1]; rfl, rfl⟩
  · by_cases h0 : n < 0
    · have e : bitN n = 0 := by unfold bitN; rw [if_neg h]
      rw [e]
      have H := hid h; clear h
      have E := hid e; clear e
      go_enter Try.func48, Try.ntmps48
      go_wp2
      go_ret
      exact ⟨rfl, rfl⟩
    · have e : bitN n = 0 := by unfold bitN; rw [if_neg h]
      rw [e]
      have h1 : 64 ≤ n := by omega
      have H := hid h; clear h
      have E := hid e; clear e
      go_enter Try.func48, Try.ntmps48
      go_wp2
      go_ret
      exact ⟨rfl, rfl⟩

theorem Union_any (a b : Nat) (ha : a < 18446744073709551616) (hb : b < 18446744073709551616) (w : World) : Calls Try.prog 35 #[u64 a, u64 b] w fun e w' => e = .returned (u64 (a ||| b)) ∧ w = w' := by
  have e := hid (bits_or_u64_nat a b ha hb)
  go_enter Try.func35, Try.ntmps35
  go_wp2
  go_ret
  exact ⟨by rw [e.out]; rfl, rfl⟩

theorem Less_any (a b : Nat) (ha : a < 18446744073709551616) (hb : b < 18446744073709551616) (w : World) : Calls Try.prog 47 #[u64 a, u64 b] w fun e w' => e = .returned (u64 (lessN a b)) ∧ w = w' := by
  have e := hid (bits_andNot_u64_nat a b ha hb)
  go_enter Try.func47, Try.ntmps47
  go_wp2
  go_ret
  exact ⟨by rw [e.out]; rfl, rfl⟩

/-- Has a set a number? -/
def hasN (a : Nat) (n : Int) : Bool := decide (a &&& bitN n ≠ 0)
/-- Is all of the first one in the second one? -/
def inN (a b : Nat) : Bool := decide (lessN a b = 0)

theorem Has_any (a : Nat) (n : Int) (ha : a < 18446744073709551616) (w : World) : Calls Try.prog 25 #[u64 a, .int .i64 n] w fun e w' => e = .returned (.bool (hasN a n)) ∧ w = w' := by
  have e := hid (bits_and_u64_nat a (bitN n) ha (bitN_lt n))
  go_enter Try.func25, Try.ntmps25
  go_wp2_with (go_at_call 48; refine (bit_any _ _).mono ?_; rintro e w' ⟨rfl, rfl⟩)
  go_ret
  refine ⟨?_, rfl⟩
  show Ending.returned (.bool (bits BinOp.and IntKind.u64 (a : Int) (bitN n : Nat) != 0)) = _
  rw [e.out]
  simp only [hasN]
  congr 2
  rw [Bool.eq_iff_iff]
  simp

theorem With_any (a : Nat) (n : Int) (ha : a < 18446744073709551616) (w : World) : Calls Try.prog 55 #[u64 a, .int .i64 n] w fun e w' => e = .returned (u64 (a ||| bitN n)) ∧ w = w' := by
  have e := hid (bits_or_u64_nat a (bitN n) ha (bitN_lt n))
  go_enter Try.func55, Try.ntmps55
  go_wp2_with (go_at_call 48; refine (bit_any _ _).mono ?_; rintro e w' ⟨rfl, rfl⟩)
  go_ret
  exact ⟨by rw [e.out]; rfl, rfl⟩

theorem In_any (a b : Nat) (ha : a < 18446744073709551616) (hb : b < 18446744073709551616) (w : World) : Calls Try.prog 24 #[u64 a, u64 b] w fun e w' => e = .returned (.bool (inN a b)) ∧ w = w' := by
  go_enter Try.func24, Try.ntmps24
  go_wp2_with (go_at_call 47; refine (Less_any a b ha hb _).mono ?_; rintro e w' ⟨rfl, rfl⟩)
  go_ret
  refine ⟨?_, rfl⟩
  show Ending.returned (.bool (((lessN a b : Nat) : Int) == 0)) = _
  simp only [inN]
  congr 2
  rw [Bool.eq_iff_iff]
  simp

end Go.Proofs.Ytmfobiimihaiiaa
