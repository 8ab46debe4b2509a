/- regex's reader: take, passed. -/
import Derived.Test.YtndefngkkikkeaaRa
import Derived.Laws.Rows
import Derived.Laws.AppendOwn
import Derived.Maps.AppendAt
namespace Go.Proofs.Ytndefngkkikkeaa
open Go Go.RowKit Go.Lib
set_option linter.unusedVariables false

/-- All that lay before the call lies there yet, but for the reader's own block. -/
abbrev Gr (b : Nat) (w w' : World) : Prop := w.grownBy w' (some b)

theorem Gr.refl (b : Nat) (w : World) : Gr b w w := ⟨rfl, rfl, rfl, Nat.le_refl _, fun _ _ _ => rfl⟩
theorem gr_below {b : Nat} {w w' : World} (h : Below w.heap.size w w') : Gr b w w' := ⟨h.os, h.tape, h.output, h.size, fun i hi _ => h.block i hi⟩
theorem gr_set {b : Nat} {w w' : World} (h : Gr b w w') (i : Nat) (v : Value) : Gr b w (w'.setCell ⟨b, i, none⟩ v) :=
  World.grownBy.trans h ⟨rfl, rfl, rfl, by simp, fun i hi hne => Below.heap_setCell _ _ _ i (fun e => hne (congrArg some e))⟩
theorem rd_next {b : Nat} {s : ByteArray} {i : Nat} {w : World} (h : Rd b s i w) (j : Nat) : Rd b s j (w.setCell ⟨b, 1, none⟩ (.int .i64 j)) := by
  unfold Rd
  rw [heap_setCell_same w b 1 _ 44 _ h]
  rfl

theorem heap_drewN (w : World) (n : Nat) : (w.drewN n).heap = w.heap := rfl

/-- What a panicking reader ends in. -/
abbrev flt (n : Nat) : Ending := .panicked [{ v := .iface 67 (.agg #[.int .i64 n]), recovered := false }]

set_option maxHeartbeats 1000000 in
theorem take_mid (b : Nat) (s : ByteArray) (i : Nat) (w : World) (h : Rd b s i w) (hs : s.size ≤ maxLen) (hi : i < s.size) :
    Calls Try.prog 57 #[.pointer (some ⟨b, 0, none⟩)] w fun e w' => e = .returned (.int .u8 (s[i]'hi).toNat) ∧ (Rd b s (i + 1) w' ∧ Gr b w w') := by
  have k := hid (peek_mid b s i w h hs hi)
  unfold maxLen at hs
  go_enter Try.func57, Try.ntmps57
  go_wp2_with fail
  refine k.out.mono ?_
  rintro e w1 ⟨rfl, hb1, hh1⟩
  have h1 : Rd b s i w1 := by unfold Rd; rw [hh1]; exact h
  have c1 : w1.cell? ⟨b, 1, none⟩ = some (.int .i64 i) := by rw [Lib.cell_of_heap h1]; rfl
  have f1 : w1.frozen? ⟨b, 1, none⟩ = false := Lib.frozen_of_heap h1 1
  go_wp2_with fail
  go_ret
  exact ⟨rfl, rd_next h1 (i + 1), gr_set (gr_below hb1) 1 _⟩

theorem take_end (b : Nat) (s : ByteArray) (w : World) (h : Rd b s s.size w) (hs : s.size ≤ maxLen) :
    Calls Try.prog 57 #[.pointer (some ⟨b, 0, none⟩)] w fun e w' => e = flt 5 ∧ Gr b w w' := by
  have k := hid (peek_end b s w h hs)
  go_enter Try.func57, Try.ntmps57
  go_wp2_with fail
  refine k.out.mono ?_
  rintro e w1 ⟨rfl, hb1, hh1⟩
  have k2 := hid fun w => fail_any b 5 w
  go_wp2_with fail
  refine (k2.out _).mono ?_
  rintro e w2 ⟨rfl, rfl⟩
  exact ⟨rfl, rfl, gr_below hb1⟩

theorem passed_end (b : Nat) (s : ByteArray) (c : Int) (w : World) (h : Rd b s s.size w) (hs : s.size ≤ maxLen) :
    Calls Try.prog 41 #[.pointer (some ⟨b, 0, none⟩), .int .u8 c] w fun e w' => e = .returned (.bool false) ∧ (Rd b s s.size w' ∧ Gr b w w') := by
  have k := hid (peek_end b s w h hs)
  go_enter Try.func41, Try.ntmps41
  go_wp2_with fail
  refine k.out.mono ?_
  rintro e w1 ⟨rfl, hb1, hh1⟩
  go_wp2_with fail
  go_ret
  exact ⟨rfl, by unfold Rd; rw [hh1]; exact h, gr_below hb1⟩

theorem passed_no (b : Nat) (s : ByteArray) (c : Int) (i : Nat) (w : World) (h : Rd b s i w) (hs : s.size ≤ maxLen) (hi : i < s.size) (hc : ((s[i]'hi).toNat : Int) ≠ c) :
    Calls Try.prog 41 #[.pointer (some ⟨b, 0, none⟩), .int .u8 c] w fun e w' => e = .returned (.bool false) ∧ (Rd b s i w' ∧ Gr b w w') := by
  have k := hid (peek_mid b s i w h hs hi)
  have hc' : ((((s[i]'hi).toNat : Int)) == c) = false := by simpa using hc
  go_enter Try.func41, Try.ntmps41
  go_wp2_with fail
  refine k.out.mono ?_
  rintro e w1 ⟨rfl, hb1, hh1⟩
  go_wp2_with fail
  go_ret
  exact ⟨rfl, by unfold Rd; rw [hh1]; exact h, gr_below hb1⟩

theorem passed_yes (b : Nat) (s : ByteArray) (i : Nat) (w : World) (h : Rd b s i w) (hs : s.size ≤ maxLen) (hi : i < s.size) :
    Calls Try.prog 41 #[.pointer (some ⟨b, 0, none⟩), .int .u8 (s[i]'hi).toNat] w fun e w' => e = .returned (.bool true) ∧ (Rd b s (i + 1) w' ∧ Gr b w w') := by
  have k := hid (peek_mid b s i w h hs hi)
  unfold maxLen at hs
  go_enter Try.func41, Try.ntmps41
  go_wp2_with fail
  refine k.out.mono ?_
  rintro e w1 ⟨rfl, hb1, hh1⟩
  have h1 : Rd b s i w1 := by unfold Rd; rw [hh1]; exact h
  have c1 : w1.cell? ⟨b, 1, none⟩ = some (.int .i64 i) := by rw [Lib.cell_of_heap h1]; rfl
  have f1 : w1.frozen? ⟨b, 1, none⟩ = false := Lib.frozen_of_heap h1 1
  go_wp2_with fail
  go_ret
  exact ⟨rfl, rd_next h1 (i + 1), gr_set (gr_below hb1) 1 _⟩

end Go.Proofs.Ytndefngkkikkeaa
