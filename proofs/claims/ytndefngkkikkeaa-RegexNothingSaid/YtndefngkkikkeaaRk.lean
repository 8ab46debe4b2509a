/- regex's reader: a regex that is not too great. -/
import Derived.Test.YtndefngkkikkeaaRj
namespace Go.Proofs.Ytndefngkkikkeaa
open Go Go.RowKit Go.Lib
set_option linter.unusedVariables false

theorem RepS.shape {b : Nat → Prop} {w : World} {r : X3.RX} {v : Value} (h : RepS b w r v) : ∃ (kd x y z u : Int) (o : Option Addr) (n c : Nat), v = nodeV kd x y z u (.slice o n c) := by
  cases h <;> exact ⟨_, _, _, _, _, _, _, _, rfl⟩

/-- What comes of a regex in hand that is asked for its size: itself, or an error. -/
def SP (B b : Nat) (s : ByteArray) (w : World) (r : X3.PR X3.RX) (v : Value) (e : Ending) (w' : World) : Prop :=
  match r with
  | .ok r j => e = .returned v ∧ Rep B w' r v ∧ (Rd b s j w' ∧ Gr b w w' ∧ j ≤ s.size)
  | .err c => e = flt c ∧ Gr b w w'

theorem fail4 (b : Nat) (w : World) :
    Calls Try.prog 29 #[.pointer (some ⟨b, 0, none⟩), .int .i64 4] w fun e w' => e = flt 4 ∧ w' = w := fail_any b 4 w

set_option maxRecDepth 100000 in
set_option maxHeartbeats 1000000 in
theorem sized_any (B b : Nat) (s : ByteArray) (i : Nat) (w : World) (r : X3.RX) (v : Value) (h : Rd b s i w) (hi : i ≤ s.size) (hR : Rep B w r v) (hb : r.size < 9223372036854775808) :
    Calls Try.prog 30 #[.pointer (some ⟨b, 0, none⟩), v] w (SP B b s w (X3.sizedX r i) v) := by
  have hbw : b < w.heap.size := (Array.getElem?_eq_some_iff.1 h).1
  obtain ⟨kd, x, y, z, u, o, n, c, rfl⟩ := hR.shape
  have ks := hid fun (w : World) (v : Value) (h : Rep B w r v) => size_any B _ w r v (Nat.le_refl _) hb h
  have kf := hid fun w => fail4 b w
  have HR := hid hR
  unfold X3.sizedX
  clear hR
  by_cases hg : 500 < r.size
  · rw [if_pos hg]
    have h1 : (500 : Int) < (r.size : Int) := by omega
    go_enter Try.func30, Try.ntmps30
    go_wp2_with fail
    refine (ks.out _ _ (HR.out.kept (keep_below (below_two _ _ _)))).mono ?_
    rintro e w2 ⟨rfl, hb2⟩
    go_wp2_with fail
    refine (kf.out _).mono ?_
    rintro e w3 ⟨rfl, rfl⟩
    exact ⟨rfl, rfl, gr_below ((below_two _ _ _).trans (hb2.mono (by simp; omega)))⟩
  · rw [if_neg hg]
    have h1 : ¬ (500 : Int) < (r.size : Int) := by omega
    obtain ⟨w0, hw0⟩ : ∃ w0, w0 = (w.alloc (.cells #[.int .i64 kd, .int .u64 x, .int .u64 y, .int .u64 z, .int .u64 u, .slice o n c] 28)).alloc (.cells zero6 28) := ⟨_, rfl⟩
    have hb0 : Below w.heap.size w w0 := by rw [hw0]; exact below_two _ _ _
    have hz0 : w0.heap[w.heap.size + 1]? = some (.cells zero6 28 (0, 0)) := by rw [hw0]; exact new_block2 _ _ _
    have hv0 : w0.heap[w.heap.size]? = some (.cells #[.int .i64 kd, .int .u64 x, .int .u64 y, .int .u64 z, .int .u64 u, .slice o n c] 28 (0, 0)) := by rw [hw0]; exact (Below.heap_alloc _ _ _ (by simp)).trans (new_block _ _)
    have hs0 : w0.heap.size = w.heap.size + 1 + 1 := by rw [hw0]; simp
    unfold zero6 at hw0
    go_enter Try.func30, Try.ntmps30
    go_upto_region 1 with fail
    rw [← hw0]
    clear hw0
    have p0 : w0.cell? ⟨w.heap.size, 0, none⟩ = some (.int .i64 kd) := by rw [Lib.cell_of_heap hv0]; rfl
    have p1 : w0.cell? ⟨w.heap.size, 1, none⟩ = some (.int .u64 x) := by rw [Lib.cell_of_heap hv0]; rfl
    have p2 : w0.cell? ⟨w.heap.size, 2, none⟩ = some (.int .u64 y) := by rw [Lib.cell_of_heap hv0]; rfl
    have p3 : w0.cell? ⟨w.heap.size, 3, none⟩ = some (.int .u64 z) := by rw [Lib.cell_of_heap hv0]; rfl
    have p4 : w0.cell? ⟨w.heap.size, 4, none⟩ = some (.int .u64 u) := by rw [Lib.cell_of_heap hv0]; rfl
    have p5 : w0.cell? ⟨w.heap.size, 5, none⟩ = some (.slice o n c) := by rw [Lib.cell_of_heap hv0]; rfl
    go_wp2_with fail
    refine (ks.out _ _ (HR.out.kept (keep_below hb0))).mono ?_
    rintro e w2 ⟨rfl, hb2⟩
    have hv2 := (hb2.block w.heap.size (by omega)).trans hv0
    have hz2 := (hb2.block (w.heap.size + 1) (by omega)).trans hz0
    have hB2 : Below w.heap.size w w2 := hb0.trans (hb2.mono (by omega))
    unfold zero6 at hz2
    have m0 : w2.cell? ⟨w.heap.size, 0, none⟩ = some (.int .i64 kd) := by rw [Lib.cell_of_heap hv2]; rfl
    have n0 : w2.cell? ⟨w.heap.size + 1, 0, none⟩ = some (.int .i64 0) := by rw [Lib.cell_of_heap hz2]; rfl
    have f0 : w2.frozen? ⟨w.heap.size + 1, 0, none⟩ = false := Lib.frozen_of_heap hz2 0
    have m1 : w2.cell? ⟨w.heap.size, 1, none⟩ = some (.int .u64 x) := by rw [Lib.cell_of_heap hv2]; rfl
    have n1 : w2.cell? ⟨w.heap.size + 1, 1, none⟩ = some (.int .u64 0) := by rw [Lib.cell_of_heap hz2]; rfl
    have f1 : w2.frozen? ⟨w.heap.size + 1, 1, none⟩ = false := Lib.frozen_of_heap hz2 1
    have m2 : w2.cell? ⟨w.heap.size, 2, none⟩ = some (.int .u64 y) := by rw [Lib.cell_of_heap hv2]; rfl
    have n2 : w2.cell? ⟨w.heap.size + 1, 2, none⟩ = some (.int .u64 0) := by rw [Lib.cell_of_heap hz2]; rfl
    have f2 : w2.frozen? ⟨w.heap.size + 1, 2, none⟩ = false := Lib.frozen_of_heap hz2 2
    have m3 : w2.cell? ⟨w.heap.size, 3, none⟩ = some (.int .u64 z) := by rw [Lib.cell_of_heap hv2]; rfl
    have n3 : w2.cell? ⟨w.heap.size + 1, 3, none⟩ = some (.int .u64 0) := by rw [Lib.cell_of_heap hz2]; rfl
    have f3 : w2.frozen? ⟨w.heap.size + 1, 3, none⟩ = false := Lib.frozen_of_heap hz2 3
    have m4 : w2.cell? ⟨w.heap.size, 4, none⟩ = some (.int .u64 u) := by rw [Lib.cell_of_heap hv2]; rfl
    have n4 : w2.cell? ⟨w.heap.size + 1, 4, none⟩ = some (.int .u64 0) := by rw [Lib.cell_of_heap hz2]; rfl
    have f4 : w2.frozen? ⟨w.heap.size + 1, 4, none⟩ = false := Lib.frozen_of_heap hz2 4
    have m5 : w2.cell? ⟨w.heap.size, 5, none⟩ = some (.slice o n c) := by rw [Lib.cell_of_heap hv2]; rfl
    have n5 : w2.cell? ⟨w.heap.size + 1, 5, none⟩ = some noKids := by rw [Lib.cell_of_heap hz2]; rfl
    have f5 : w2.frozen? ⟨w.heap.size + 1, 5, none⟩ = false := Lib.frozen_of_heap hz2 5
    go_wp2_with fail
    have z0 := heap_setCell_same w2 (w.heap.size + 1) 0 _ 28 (.int .i64 kd) hz2
    have z1 := heap_setCell_same _ (w.heap.size + 1) 1 _ 28 (.int .u64 x) z0
    have z2 := heap_setCell_same _ (w.heap.size + 1) 2 _ 28 (.int .u64 y) z1
    have z3 := heap_setCell_same _ (w.heap.size + 1) 3 _ 28 (.int .u64 z) z2
    have z4 := heap_setCell_same _ (w.heap.size + 1) 4 _ 28 (.int .u64 u) z3
    have z5 := heap_setCell_same _ (w.heap.size + 1) 5 _ 28 (.slice o n c) z4
    have hB8 : Below w.heap.size w ((((((w2.setCell ⟨w.heap.size + 1, 0, none⟩ (.int .i64 kd)).setCell ⟨w.heap.size + 1, 1, none⟩ (.int .u64 x)).setCell ⟨w.heap.size + 1, 2, none⟩ (.int .u64 y)).setCell ⟨w.heap.size + 1, 3, none⟩ (.int .u64 z)).setCell ⟨w.heap.size + 1, 4, none⟩ (.int .u64 u)).setCell ⟨w.heap.size + 1, 5, none⟩ (.slice o n c)) := (((((hB2.setCell (Nat.le_succ _) _).setCell (Nat.le_succ _) _).setCell (Nat.le_succ _) _).setCell (Nat.le_succ _) _).setCell (Nat.le_succ _) _).setCell (Nat.le_succ _) _
    generalize ((((((w2.setCell ⟨w.heap.size + 1, 0, none⟩ (.int .i64 kd)).setCell ⟨w.heap.size + 1, 1, none⟩ (.int .u64 x)).setCell ⟨w.heap.size + 1, 2, none⟩ (.int .u64 y)).setCell ⟨w.heap.size + 1, 3, none⟩ (.int .u64 z)).setCell ⟨w.heap.size + 1, 4, none⟩ (.int .u64 u)).setCell ⟨w.heap.size + 1, 5, none⟩ (.slice o n c)) = w8 at *
    have y0 : w8.cell? ⟨w.heap.size + 1, 0, none⟩ = some (.int .i64 kd) := by rw [Lib.cell_of_heap z5]; rfl
    have y1 : w8.cell? ⟨w.heap.size + 1, 1, none⟩ = some (.int .u64 x) := by rw [Lib.cell_of_heap z5]; rfl
    have y2 : w8.cell? ⟨w.heap.size + 1, 2, none⟩ = some (.int .u64 y) := by rw [Lib.cell_of_heap z5]; rfl
    have y3 : w8.cell? ⟨w.heap.size + 1, 3, none⟩ = some (.int .u64 z) := by rw [Lib.cell_of_heap z5]; rfl
    have y4 : w8.cell? ⟨w.heap.size + 1, 4, none⟩ = some (.int .u64 u) := by rw [Lib.cell_of_heap z5]; rfl
    have y5 : w8.cell? ⟨w.heap.size + 1, 5, none⟩ = some (.slice o n c) := by rw [Lib.cell_of_heap z5]; rfl
    exact bodyPost_ret (v := nodeV kd x y z u (.slice o n c)) (by simp [results, Try.results30, go_sem, y0, y1, y2, y3, y4, y5]) rfl ⟨rfl, HR.out.kept (keep_below hB8), (hB8.block b hbw).trans h, gr_below hB8, hi⟩

end Go.Proofs.Ytndefngkkikkeaa
