/- strings.ContainsRune at word's marks, at every byte. -/
import Derived.Test.YtonofnjgefoieaaDoorCe
import Derived.Deep.QuietTactic
import Derived.BigQuiet
import Derived.RegionTactic
namespace Go.Proofs.YtonofnjgefoieaaDoor
open Go Go.RowKit Go.Lib Go.Proofs.W8
set_option linter.unusedVariables false

abbrev marksS : ByteArray := { data := #[61, 40, 41, 59, 44] }

theorem marks_low : ∀ n : Fin 128, decide (0 ≤ Lib.indexByte [61, 40, 41, 59, 44] n.val.toUInt8) = mk n.val.toUInt8 := by decide +kernel

theorem Marks_low (b : UInt8) (w : World) (h : b.toNat < 128) : Calls Tryd.prog 29 #[.string marksS, .int .i32 (b.toNat : Int)] w fun e w' => e = .returned (.bool (mk b)) ∧ ∃ n, w' = w.drewN n := by
  refine (Tryd.strings_ContainsRune_ascii marksS (b.toNat : Int) w (by omega) (by omega)).mono ?_
  rintro e w' ⟨rfl, rfl⟩
  refine ⟨ret_b ?_, 0, rfl⟩
  have h1 := marks_low ⟨b.toNat, h⟩
  have e : b.toNat.toUInt8 = b := by simp
  simp only [e] at h1
  rw [Int.toNat_natCast, e]
  exact h1

theorem encode_high (r : Int) (h0 : 128 ≤ r) (h1 : r ≤ 255) : ∃ x y : UInt8, Utf8.encode r = { data := #[x, y] } ∧ 128 ≤ y.toNat := by
  obtain ⟨n, rfl⟩ : ∃ n : Nat, r = n := ⟨r.toNat, by omega⟩
  have hv : Utf8.valid (n : Int) = true := by simp [Utf8.valid]; omega
  refine ⟨UInt8.ofNat (0xC0 + n / 64), UInt8.ofNat (0x80 + n % 64), ?_, ?_⟩
  · unfold Utf8.encode
    simp only [hv, if_true, Int.toNat_natCast]
    rw [if_neg (by omega), if_pos (by omega)]
  · simp; omega

theorem marks_high (y : UInt8) (h : 128 ≤ y.toNat) : Lib.indexByte [41, 59, 44] y = -1 := by
  have e : ∀ b : UInt8, b.toNat < 128 → (b == y) = false := by
    intro b hb
    rw [beq_eq_false_iff_ne]
    intro e; subst e; omega
  simp [Lib.indexByte, e 41 (by decide), e 59 (by decide), e 44 (by decide)]

theorem quiet_again {P : Program} {f : FuncId} {args : Array Value} {w : World} {a n : Nat} {v : Value}
    (h : Calls P f args (w.drewN (a + n)) fun e w' => e = .returned v ∧ w' = w.drewN (a + n)) :
    Calls P f args (w.drewN (a + n)) fun e w'' => e = .returned v ∧ ∃ m, w'' = w.drewN (a + m) :=
  h.mono fun _ _ ⟨he, hm⟩ => ⟨he, n, hm⟩

set_option maxRecDepth 100000 in
set_option maxHeartbeats 1000000 in
theorem IndexRune_high (r : Int) (w : World) (h0 : 128 ≤ r) (h1 : r ≤ 255) : Calls Tryd.prog 34 #[.string marksS, .int .i32 r] w fun e w' => e = .returned (.int .i64 (-1)) ∧ ∃ n, w' = w.drewN n := by
  obtain ⟨x, y, henc, hy⟩ := encode_high r h0 h1
  have ki := hid fun w => Tryd.strings_IndexByte (marksS.extract 2 5) (y.toNat : Int) w
  have hx : (marksS.extract 2 5).data.toList = [41, 59, 44] := by decide +kernel
  have hz : Lib.indexByte (marksS.extract 2 5).data.toList (y.toNat : Int).toNat.toUInt8 = -1 := by
    have e : (y.toNat : Int).toNat.toUInt8 = y := by simp
    rw [e, hx]; exact marks_high y hy
  have ki2 : Hid (∀ w, Calls Tryd.prog 40 #[.string (marksS.extract 2 5), .int .u8 (y.toNat : Int)] w fun e w' => e = .returned (.int .i64 (-1)) ∧ w' = w) := by
    intro w
    refine (ki.out w).mono ?_
    rintro e w' ⟨rfl, rfl⟩
    exact ⟨ret_i hz, rfl⟩
  clear ki hz hx
  have hv : Lib.validRune r = true := by simp [Lib.validRune]; omega
  have kv : Hid (∀ w, Calls Tryd.prog 41 #[.int .i32 r] w fun e w' => e = .returned (.bool true) ∧ w' = w) := by
    intro w
    refine (Tryd.utf8_ValidRune r w).mono ?_
    rintro e w' ⟨rfl, rfl⟩
    exact ⟨ret_b hv, rfl⟩
  clear hv
  have hne : ((40 : Int) != (y.toNat : Int)) = true := by simp; omega
  have hy256 := byte_lt y
  clear hy
  have hw2 : IntKind.i64.wrap 2 = 2 := by decide
  go_enter Tryd.func34, Tryd.ntmps34
  go_wp2_with fail
  refine (kv.out _).mono ?_
  rintro e w' ⟨rfl, rfl⟩
  go_wp2_with fail
  go_step3
  go_wp2_with fail
  go_loop [9, 10] (fun a b => a = .int .i64 1 ∧ b = .int .i64 0) (fun _ _ => 0)
  case atStart => exact ⟨rfl, rfl⟩
  case round =>
    obtain ⟨rfl, rfl⟩ := hrel
    go_wp2_with fail
    go_step3
    go_wp2_with fail
    go_quiet (fail)
    go_wp2_with fail
    go_quiet ((go_at_call 40; exact quiet_again (ki2.out _)))
    go_wp2_with fail
    · rw [Exit.noGoto_ret]
      show bodyPost Tryd.prog Tryd.f34 (fun e u => e = .returned (.int .i64 (-1)) ∧ ∃ n, u = w'.drewN n) Exit.ret _ _
      go_ret
      exact ⟨rfl, _, rfl⟩
    · exact absurd (show ((40 : Int) != (y.toNat : Int)) = false by assumption) (by rw [hne]; simp)


theorem Marks_high (b : UInt8) (w : World) (h : 128 ≤ b.toNat) : Calls Tryd.prog 29 #[.string marksS, .int .i32 (b.toNat : Int)] w fun e w' => e = .returned (.bool (mk b)) ∧ ∃ n, w' = w.drewN n := by
  have hb := b.toNat_lt
  have hm : mk b = false := by simp [mk]; omega
  rw [hm]
  have k := hid fun w => IndexRune_high (b.toNat : Int) w (by omega) (by omega)
  clear hm h hb
  go_enter Tryd.func29, Tryd.ntmps29
  go_wp2_with fail
  refine (k.out _).mono ?_
  rintro e w' ⟨rfl, n, rfl⟩
  go_wp2_with fail
  go_ret
  exact ⟨rfl, n, rfl⟩

theorem Marks_any (b : UInt8) (w : World) : Calls Tryd.prog 29 #[.string marksS, .int .i32 (b.toNat : Int)] w fun e w' => e = .returned (.bool (mk b)) ∧ ∃ n, w' = w.drewN n := by
  rcases Nat.lt_or_ge b.toNat 128 with h | h
  · exact Marks_low b w h
  · exact Marks_high b w h

end Go.Proofs.YtonofnjgefoieaaDoor
