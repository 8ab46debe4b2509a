/- bits.Of, at every list of numbers. -/
import Derived.Test.YtmfobiimihaiiaaHb
namespace Go.Proofs.Ytmfobiimihaiiaa
open Go Go.RowKit Go.Lib

/-- The set of some numbers. -/
def ofN (l : List Int) : Nat := l.foldl (fun s n => s ||| bitN n) 0
theorem ofN_snoc (l : List Int) (n : Int) : ofN (l ++ [n]) = ofN l ||| bitN n := by simp [ofN]
theorem ofN_lt (l : List Int) : ofN l < 18446744073709551616 := by
  have : ∀ (l : List Int) (s : Nat), s < 18446744073709551616 → l.foldl (fun s n => s ||| bitN n) s < 18446744073709551616 := by
    intro l
    induction l with
    | nil => exact fun s h => h
    | cons x l ih => exact fun s h => ih _ (or_lt h (bitN_lt x))
  exact this l 0 (by omega)
theorem testBit_ofN (l : List Int) (i : Nat) : (ofN l).testBit i = decide (i < 64 ∧ (i : Int) ∈ l) := by
  have : ∀ (l : List Int) (s : Nat), (l.foldl (fun s n => s ||| bitN n) s).testBit i = (s.testBit i || decide (i < 64 ∧ (i : Int) ∈ l)) := by
    intro l
    induction l with
    | nil => intro s; simp
    | cons x l ih =>
      intro s
      rw [List.foldl_cons, ih, Nat.testBit_or, testBit_bitN, Bool.or_assoc]
      congr 1
      rw [Bool.eq_iff_iff]
      simp only [Bool.or_eq_true, decide_eq_true_eq, List.mem_cons]
      constructor
      · rintro (⟨h1, h2, h3⟩ | ⟨h1, h2⟩)
        · exact ⟨by omega, .inl h3⟩
        · exact ⟨h1, .inr h2⟩
      · rintro ⟨h1, h2 | h2⟩
        · exact .inl ⟨by omega, by omega, h2⟩
        · exact .inr ⟨h1, h2⟩
  rw [ofN, this]; simp
theorem take_snoc {l : List Int} {k : Nat} (h : k < l.length) : l.take (k + 1) = l.take k ++ [l.getD k 0] := by
  rw [List.take_succ_eq_append_getElem h]; simp [List.getD, h]

set_option maxHeartbeats 1000000 in
theorem Of_some (b off cap : Nat) (l : List Int) (w : World) (hl : l.length ≤ 9223372036854775807) (hc : ∀ i, i < l.length → w.cell? ⟨b, off + i, none⟩ = some (.int .i64 (l.getD i 0))) :
    Calls Try.prog 26 #[.slice (some ⟨b, off, none⟩) l.length cap] w fun e w' => e = .returned (u64 (ofN l)) ∧ w = w' := by
  have HC := hid hc
  clear hc
  go_enter Try.func26, Try.ntmps26
  go_wp2
  go_loop [3, 8] (fun s i => ∃ k : Nat, k ≤ l.length ∧ i = .int .i64 (k : Int) ∧ s = u64 (ofN (l.take k))) (fun _ i => l.length - (intOf i).toNat)
  case atStart => exact ⟨0, Nat.zero_le _, rfl, rfl⟩
  case round =>
    obtain ⟨k, hk, rfl, rfl⟩ := hrel
    have hlt' := ofN_lt (l.take k)
    by_cases hlt : k < l.length
    · have g := HC.out k hlt
      have e := hid (bits_or_u64_nat (ofN (l.take k)) (bitN (l.getD k 0)) hlt' (bitN_lt _))
      have HT := hid (take_snoc hlt)
      go_wp2_with (go_at_call 48; refine (bit_any _ _).mono ?_; rintro e w' ⟨rfl, rfl⟩)
      exact ⟨⟨k + 1, by omega, by go_num, by rw [HT.out, ofN_snoc]; simp only [List.getD, hlt, List.getElem?_eq_getElem, Option.getD_some] at e ⊢; rw [e.out]⟩, by simp [intOf]; omega⟩
    · go_wp2
      go_ret
      exact ⟨by rw [List.take_of_length_le (by omega)]; rfl, rfl⟩

theorem Of_nil (a : Option Addr) (cap : Nat) (w : World) :
    Calls Try.prog 26 #[.slice a 0 cap] w fun e w' => e = .returned (u64 0) ∧ w = w' := by
  go_enter Try.func26, Try.ntmps26
  go_wp2
  go_loop [3, 8] (fun s i => i = .int .i64 0 ∧ s = u64 0) (fun _ _ => 0)
  case atStart => exact ⟨rfl, rfl⟩
  case round =>
    obtain ⟨rfl, rfl⟩ := hrel
    go_wp2
    go_ret
    exact ⟨rfl, rfl⟩

end Go.Proofs.Ytmfobiimihaiiaa
