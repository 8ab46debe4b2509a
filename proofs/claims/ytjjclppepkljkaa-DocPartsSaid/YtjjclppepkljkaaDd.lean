/- The document's example of package doc holds. -/
import Derived.Test.YtjjclppepkljkaaDc
namespace Go.Proofs.Ytjjclppepkljkaa
open Go Go.RowKit Go.Lib

theorem Result_nil (B : Nat) (t : ByteArray) (w : World) (h : DocAt w B t) : Calls Try.prog 12 #[.pointer (some ⟨B, 0, none⟩)] w fun e w' => e = .returned (.agg #[.bool false, .slice none 0 0, .int .i64 0, .int .u64 0]) ∧ Below w.heap.size w w' := by
  have hlt : B < w.heap.size := (Array.getElem?_eq_some_iff.1 h).1
  obtain ⟨h0, h1, h2, hf⟩ := h.cells
  clear h1 h2 hf
  go_enter Try.func12, Try.ntmps12
  go_wp2
  exact bodyPost_ret (v := .agg #[.bool false, .slice none 0 0, .int .i64 0, .int .u64 0]) (by simp [results, Try.results12, go_sem]) rfl ⟨rfl, (Below.refl _ _).alloc (Nat.le_refl _) _⟩

theorem ax : (({ data := #[97, 98] } : ByteArray).extract 0 1 ++ { data := #[120] } ++ ({ data := #[97, 98] } : ByteArray).extract 2 2) = { data := #[97, 120] } := by decide

theorem wk_put (w : World) : Calls Try.prog 6 #[.string { data := #[97, 98] }, .int .i64 1, .int .i64 2, .string { data := #[120] }] w fun e w' => e = .returned (.tuple #[.string { data := #[97, 120] }, .int .i64 0]) ∧ ∃ n, w' = w.drewN n := by
  have := Put_ok { data := #[97, 98] } { data := #[120] } 1 2 w (by decide) (by decide) (by decide) (by decide) (by decide)
  rw [show ({ data := #[97, 98] } : ByteArray).size = 2 from rfl, ax] at this
  exact this
theorem wk_put2 (w : World) : Calls Try.prog 6 #[.string { data := #[97, 98] }, .int .i64 1, .int .i64 3, .string { data := #[120] }] w fun e w' => e = .returned (.tuple #[noText, .int .i64 1]) ∧ ∃ n, w' = w.drewN n :=
  Put_bad { data := #[97, 98] } { data := #[120] } 1 3 w (by decide)
theorem wk_edit (B : Nat) (w : World) (h : DocAt w B { data := #[97, 98] }) : Calls Try.prog 9 #[.pointer (some ⟨B, 0, none⟩), .int .i64 1, .int .i64 2, .string { data := #[120] }] w fun e w' => e = .returned (.int .i64 0) ∧ DocAt w' B { data := #[97, 120] } ∧ Below B w w' := by
  have := Edit_ok B { data := #[97, 98] } { data := #[120] } 1 2 w h (by decide) (by decide) (by decide) (by decide) (by decide)
  rw [show ({ data := #[97, 98] } : ByteArray).size = 2 from rfl, ax] at this
  exact this
theorem wk_edit2 (B : Nat) (w : World) (h : DocAt w B { data := #[97, 120] }) : Calls Try.prog 9 #[.pointer (some ⟨B, 0, none⟩), .int .i64 5, .int .i64 5, noText] w fun e w' => e = .returned (.int .i64 1) ∧ Below w.heap.size w w' :=
  Edit_bad B { data := #[97, 120] } { data := #[] } 5 5 w h (by decide)

set_option maxRecDepth 100000 in
set_option maxHeartbeats 1000000 in
theorem works_any (w : World) : Calls Try.prog 5 #[] w fun e w' => e = .returned (.bool true) ∧ Below w.heap.size w w' := by
  have hfd : ∀ w, (Instr.field 38 (.agg #[.bool false, .slice none 0 0, .int .i64 0, .int .u64 0]) 1).run Try.prog w = .ok (.slice none 0 0) w := fun _ => by kernel_rfl
  go_enter Try.func5, Try.ntmps5
  go_wp2_with fail
  refine (wk_put w).mono ?_
  rintro e w' ⟨rfl, n1, rfl⟩
  go_wp2_with fail
  refine (wk_put2 _).mono ?_
  rintro e w' ⟨rfl, n2, rfl⟩
  go_wp2_with fail
  refine (New_nil _ _).mono ?_
  rintro e w1 ⟨rfl, hD, hB, hs⟩
  have hB1 : Below w.heap.size w w1 := (below_drewN (Below.refl _ _) (n1 + n2)).trans hB
  replace hD : DocAt w1 w.heap.size { data := #[97, 98] } := hD
  have hs1 : w.heap.size ≤ w1.heap.size := hB1.size
  clear hB hs
  go_wp2_with fail
  refine (wk_edit _ w1 hD).mono ?_
  rintro e w2 ⟨rfl, hD2, hB2⟩
  replace hB1 := hB1.trans hB2
  have HD2 := hid hD2
  clear hD hB2 hs1 hD2
  go_wp2_with fail
  refine (Text_any _ _ w2 HD2.out).mono ?_
  rintro e w' ⟨rfl, rfl⟩
  go_wp2_with fail
  refine (Parser_any _ _ w2 HD2.out).mono ?_
  rintro e w' ⟨rfl, rfl⟩
  go_wp2_with fail
  refine (Result_nil _ _ w2 HD2.out).mono ?_
  rintro e w3 ⟨rfl, hB3⟩
  have hlt : w.heap.size < w2.heap.size := (Array.getElem?_eq_some_iff.1 HD2.out).1
  have HD3 := hid ((show DocAt w3 w.heap.size { data := #[97, 120] } from (hB3.block _ hlt).trans HD2.out))
  replace hB1 := hB1.trans (hB3.mono hB1.size)
  clear hB3 HD2 hlt
  go_wp2_with fail
  refine (wk_edit2 _ w3 HD3.out).mono ?_
  rintro e w4 ⟨rfl, hB4⟩
  replace hB1 := hB1.trans (hB4.mono hB1.size)
  go_wp2
  go_ret
  exact ⟨rfl, hB1⟩

end Go.Proofs.Ytjjclppepkljkaa
