/- regex.Show. -/
import Derived.Test.YtndefngkkikkeaaSd
namespace Go.Proofs.X3
mutual
theorem show_len : ∀ r : RX, (showX r).length + 1 ≤ 1027 * r.size
  | .empty => by rw [showX_empty]; simp only [RX.size]; decide
  | .bytes a b c d => by rw [showX_bytes]; have := bytesX_len (.bytes a b c d); simp only [RX.size]; omega
  | .cat l => by rw [showX_cat]; have := seq_len [] (by simp) l 0; simp only [RX.size, List.length_cons, List.length_append, List.length_nil]; omega
  | .alt l => by rw [showX_alt]; have := seq_len [124] (by simp) l 0; simp only [RX.size, List.length_cons, List.length_append, List.length_nil]; omega
  | .star r => by rw [showX_star]; have := show_len r; simp only [RX.size, List.length_append, List.length_cons, List.length_nil]; omega
theorem seq_len (sep : List UInt8) (hs : sep.length ≤ 1) : ∀ (l : List RX) (k : Nat), (seqX sep k l).length ≤ 1027 * sizeL l
  | [], k => by rw [seqX]; simp
  | r :: l, k => by
    rw [seqX]
    have := show_len r
    have := seq_len sep hs l (k + 1)
    simp only [sizeL, List.length_append]
    split
    · simp only [List.length_nil]; omega
    · omega
end
end Go.Proofs.X3
namespace Go.Proofs.Ytndefngkkikkeaa
open Go Go.RowKit Go.Lib
set_option linter.unusedVariables false
set_option linter.unusedSimpArgs false

theorem owns_monoF {w : World} {B B' : Nat} {e : TypeId} {sz : Nat} {v : Value} {n : Nat} {xs : List Value} (h : w.ownsRowF B e sz v n xs) (hB : B' ≤ B) : w.ownsRowF B' e sz v n xs := by
  refine ⟨h.1, h.2.imp id ?_⟩
  rintro ⟨g, cap, cur, fz, h1, h2, h3⟩
  exact ⟨g, cap, cur, fz, h1, Nat.le_trans hB h2, h3⟩

theorem fresh_bld (B : Nat) (w : World) (hB : B ≤ w.heap.size) : BldT B w.heap.size [] (w.alloc (.cells #[.pointer none, .slice none 0 0] 53)) := by
  rcases Lib.IsBuilderF.of (Lib.fresh_isBuilder 53 5 w) with ⟨h1, v, h2, h3, h4⟩ | ⟨h1, v, h2, h3, h4⟩
  · exact .inl ⟨hB, v, h2, owns_monoF h3 hB, h4⟩
  · exact .inr ⟨hB, v, h2, owns_monoF h3 hB, h4⟩

set_option maxRecDepth 100000 in
set_option maxHeartbeats 1000000 in
theorem Show_any {S : Nat → Prop} {w : World} {r : X3.RX} {v : Value} (hR0 : RepS S w r v) (hsz : r.size ≤ 70000) :
    Calls Try.prog 13 #[v] w fun e w' => e = .returned (.string (bs (X3.showX r))) ∧ Below w.heap.size w w' := by
  have hR : RepS (fun g => g < w.heap.size) w r v := hR0.monoS (fun g _ hg => hg)
  have hlen := X3.show_len r
  clear hR0
  obtain ⟨k, x, y, z, u, o, n, c, rfl⟩ := hR.shape
  obtain ⟨w1, e1, _, hb1, hk1, hs1, hz1⟩ : ∃ w1, w.alloc (.cells #[.int .i64 k, .int .u64 x, .int .u64 y, .int .u64 z, .int .u64 u, .slice o n c] 28) = w1 ∧ True ∧ Below w.heap.size w w1 ∧ KeepS (fun g => g < w.heap.size) w w1 ∧ w1.heap.size = w.heap.size + 1 ∧
      w1.heap[w.heap.size]? = some (.cells #[.int .i64 k, .int .u64 x, .int .u64 y, .int .u64 z, .int .u64 u, .slice o n c] 28 (0, 0)) := by
    have hb0 : Below w.heap.size w (w.alloc (.cells #[.int .i64 k, .int .u64 x, .int .u64 y, .int .u64 z, .int .u64 u, .slice o n c] 28)) := (Below.refl _ _).alloc (Nat.le_refl _) _
    exact ⟨_, rfl, trivial, hb0, keepS_below hb0, by simp, new_block _ _⟩
  obtain ⟨w2, e2⟩ : ∃ w2, w1.alloc (.cells #[.pointer none, .slice none 0 0] 53) = w2 := ⟨_, rfl⟩
  have hI2 : BldT w.heap.size w1.heap.size [] w2 := by rw [← e2]; exact fresh_bld _ _ (by omega)
  have hb2 : Below w1.heap.size w1 w2 := by rw [← e2]; exact (Below.refl _ _).alloc (Nat.le_refl _) _
  have hs2 : w2.heap.size = w1.heap.size + 1 := by rw [← e2]; simp
  have hB2 : Below w.heap.size w w2 := hb1.trans (hb2.mono (by omega))
  have hz2 := (hb2.block w.heap.size (by omega)).trans hz1
  obtain ⟨n0, n1, n2, n3, n4, n5⟩ := cells6 hz2
  have K1 := hid (show_any _ r (Nat.le_refl _) (by omega) w2 _ w.heap.size w1.heap.size [] ((hR.kept hk1).kept (keepS_below hb2)) hI2 (by simp only [List.length_nil]; omega) (by omega))
  simp only [List.nil_append] at K1
  generalize X3.showX r = Z at *
  have HB2 := hid hB2
  have HS1 := hid hs1
  have HS2 := hid hs2
  clear hR hz1 hz2 hb2 hB2 hI2 hb1 hk1 hs1 hs2
  go_enter Try.func13, Try.ntmps13
  go_wp2_with fail
  refine K1.out.mono ?_
  rintro e w3 ⟨rfl, hI3, hb3⟩
  have hs3 := hb3.size
  have K2 := hid (take_t w.heap.size _ Z w3 hI3 (by have := HS1.out; have := HS2.out; omega))
  have HB3 := hid (HB2.out.trans hb3)
  clear hI3 hb3 hs3 K1
  go_wp2_with fail
  refine K2.out.mono ?_
  rintro e w4 ⟨rfl, hb4, _⟩
  have HB4 := hid (HB3.out.trans hb4)
  clear hb4 K2
  go_wp2_with fail
  go_ret
  exact ⟨rfl, HB4.out⟩

end Go.Proofs.Ytndefngkkikkeaa
