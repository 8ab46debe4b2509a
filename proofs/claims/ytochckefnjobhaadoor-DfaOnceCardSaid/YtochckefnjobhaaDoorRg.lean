/- regex.except. -/
import Derived.Test.YtochckefnjobhaaDoorRf
namespace Go.Proofs.YtochckefnjobhaaDoor
open Go Go.RowKit Go.Lib
set_option linter.unusedVariables false

/-- Four words, the first j turned. -/
def exTo (a b c d j : Nat) : Array Value := #[U (if 0 < j then X3.full ^^^ a else a), U (if 1 < j then X3.full ^^^ b else b), U (if 2 < j then X3.full ^^^ c else c), U (if 3 < j then X3.full ^^^ d else d)]

theorem not64 (a : Nat) (ha : a < 2 ^ 64) : bits BinOp.xor IntKind.u64 (if IntKind.u64.signed = true then -1 else IntKind.u64.max) (a : Int) = ((X3.full ^^^ a : Nat) : Int) := by
  have hx : X3.full ^^^ a < 2 ^ 64 := Nat.xor_lt_two_pow (by decide) ha
  have h1 : (BitVec.ofInt 64 ((X3.full : Nat) : Int)).toNat = X3.full := by
    rw [BitVec.ofInt_natCast, BitVec.toNat_ofNat]; exact Nat.mod_eq_of_lt (by decide)
  have h2 : (BitVec.ofInt 64 (a : Int)).toNat = a := by
    rw [BitVec.ofInt_natCast, BitVec.toNat_ofNat]; exact Nat.mod_eq_of_lt (by omega)
  show IntKind.u64.wrap ((BitVec.ofInt 64 ((X3.full : Nat) : Int) ^^^ BitVec.ofInt 64 (a : Int)).toNat : Int) = _
  rw [BitVec.toNat_xor, h1, h2, IntKind.wrap_u64]
  omega

set_option maxRecDepth 100000 in
set_option maxHeartbeats 1000000 in
theorem except_any (a b c d : Nat) (w : World) (ha : a < 2 ^ 64) (hb : b < 2 ^ 64) (hc : c < 2 ^ 64) (hd : d < 2 ^ 64) :
    Calls Tryd.prog 109 #[setV a b c d] w fun e w' => e = .returned (setV ((X3.full ^^^ a : Nat)) ((X3.full ^^^ b : Nat)) ((X3.full ^^^ c : Nat)) ((X3.full ^^^ d : Nat))) ∧ Below w.heap.size w w' := by
  go_enter Tryd.func109, Tryd.ntmps109
  go_wp2
  go_loopw [4] (fun i wr => ∃ j : Nat, j ≤ 4 ∧ i = .int .i64 (j : Int) ∧ wr.heap[w.heap.size]? = some (.cells (exTo a b c d j) 36 (0, 0)) ∧ wr.heap[w.heap.size + 1]? = some (.cells #[.int .u64 0, .int .u64 0, .int .u64 0, .int .u64 0] 36 (0, 0)) ∧ Below w.heap.size w wr) (fun i _ => 4 - (RowKit.intOf i).toNat)
  case atStart =>
    refine ⟨0, by omega, rfl, ?_, ?_, below_two _ _ _⟩
    · exact (Below.heap_alloc _ _ _ (by simp)).trans (new_block _ _)
    · exact new_block2 _ _ _
  case round =>
    obtain ⟨j, hj, rfl, hl, ha0, hB⟩ := hrel
    obtain rfl | rfl | rfl | rfl | rfl : j = 0 ∨ j = 1 ∨ j = 2 ∨ j = 3 ∨ j = 4 := by omega
    · have c0 : wr.cell? ⟨w.heap.size, 0, none⟩ = some (U a) := by rw [Lib.cell_of_heap hl]; rfl
      have f0 : wr.frozen? ⟨w.heap.size, 0, none⟩ = false := Lib.frozen_of_heap hl 0
      have e0 := not64 a ha
      go_wp2_with fail
      have z := heap_setCell_same wr w.heap.size 0 _ 36 (U (X3.full ^^^ a)) hl
      exact ⟨⟨1, by omega, rfl, z, (Below.heap_setCell _ _ _ _ (by simp)).trans ha0, hB.setCell (Nat.le_refl _) _⟩, by decide⟩
    · have c0 : wr.cell? ⟨w.heap.size, 1, none⟩ = some (U b) := by rw [Lib.cell_of_heap hl]; rfl
      have f0 : wr.frozen? ⟨w.heap.size, 1, none⟩ = false := Lib.frozen_of_heap hl 1
      have e0 := not64 b hb
      go_wp2_with fail
      have z := heap_setCell_same wr w.heap.size 1 _ 36 (U (X3.full ^^^ b)) hl
      exact ⟨⟨2, by omega, rfl, z, (Below.heap_setCell _ _ _ _ (by simp)).trans ha0, hB.setCell (Nat.le_refl _) _⟩, by decide⟩
    · have c0 : wr.cell? ⟨w.heap.size, 2, none⟩ = some (U c) := by rw [Lib.cell_of_heap hl]; rfl
      have f0 : wr.frozen? ⟨w.heap.size, 2, none⟩ = false := Lib.frozen_of_heap hl 2
      have e0 := not64 c hc
      go_wp2_with fail
      have z := heap_setCell_same wr w.heap.size 2 _ 36 (U (X3.full ^^^ c)) hl
      exact ⟨⟨3, by omega, rfl, z, (Below.heap_setCell _ _ _ _ (by simp)).trans ha0, hB.setCell (Nat.le_refl _) _⟩, by decide⟩
    · have c0 : wr.cell? ⟨w.heap.size, 3, none⟩ = some (U d) := by rw [Lib.cell_of_heap hl]; rfl
      have f0 : wr.frozen? ⟨w.heap.size, 3, none⟩ = false := Lib.frozen_of_heap hl 3
      have e0 := not64 d hd
      go_wp2_with fail
      have z := heap_setCell_same wr w.heap.size 3 _ 36 (U (X3.full ^^^ d)) hl
      exact ⟨⟨4, by omega, rfl, z, (Below.heap_setCell _ _ _ _ (by simp)).trans ha0, hB.setCell (Nat.le_refl _) _⟩, by decide⟩
    · have hl' : wr.heap[w.heap.size]? = some (.cells #[U (X3.full ^^^ a), U (X3.full ^^^ b), U (X3.full ^^^ c), U (X3.full ^^^ d)] 36 (0, 0)) := hl
      clear hl
      have c0 : wr.cell? ⟨w.heap.size, 0, none⟩ = some (U (X3.full ^^^ a)) := by rw [Lib.cell_of_heap hl']; rfl
      have d0 : wr.cell? ⟨w.heap.size + 1, 0, none⟩ = some (.int .u64 0) := by rw [Lib.cell_of_heap ha0]; rfl
      have f0 : wr.frozen? ⟨w.heap.size + 1, 0, none⟩ = false := Lib.frozen_of_heap ha0 0
      have c1 : wr.cell? ⟨w.heap.size, 1, none⟩ = some (U (X3.full ^^^ b)) := by rw [Lib.cell_of_heap hl']; rfl
      have d1 : wr.cell? ⟨w.heap.size + 1, 1, none⟩ = some (.int .u64 0) := by rw [Lib.cell_of_heap ha0]; rfl
      have f1 : wr.frozen? ⟨w.heap.size + 1, 1, none⟩ = false := Lib.frozen_of_heap ha0 1
      have c2 : wr.cell? ⟨w.heap.size, 2, none⟩ = some (U (X3.full ^^^ c)) := by rw [Lib.cell_of_heap hl']; rfl
      have d2 : wr.cell? ⟨w.heap.size + 1, 2, none⟩ = some (.int .u64 0) := by rw [Lib.cell_of_heap ha0]; rfl
      have f2 : wr.frozen? ⟨w.heap.size + 1, 2, none⟩ = false := Lib.frozen_of_heap ha0 2
      have c3 : wr.cell? ⟨w.heap.size, 3, none⟩ = some (U (X3.full ^^^ d)) := by rw [Lib.cell_of_heap hl']; rfl
      have d3 : wr.cell? ⟨w.heap.size + 1, 3, none⟩ = some (.int .u64 0) := by rw [Lib.cell_of_heap ha0]; rfl
      have f3 : wr.frozen? ⟨w.heap.size + 1, 3, none⟩ = false := Lib.frozen_of_heap ha0 3
      go_wp2_with fail
      have z0 := heap_setCell_same wr (w.heap.size + 1) 0 _ 36 (U (X3.full ^^^ a)) ha0
      have z1 := heap_setCell_same _ (w.heap.size + 1) 1 _ 36 (U (X3.full ^^^ b)) z0
      have z2 := heap_setCell_same _ (w.heap.size + 1) 2 _ 36 (U (X3.full ^^^ c)) z1
      have z3 := heap_setCell_same _ (w.heap.size + 1) 3 _ 36 (U (X3.full ^^^ d)) z2
      have hB4 : Below w.heap.size w ((((wr.setCell ⟨w.heap.size + 1, 0, none⟩ (U (X3.full ^^^ a))).setCell ⟨w.heap.size + 1, 1, none⟩ (U (X3.full ^^^ b))).setCell ⟨w.heap.size + 1, 2, none⟩ (U (X3.full ^^^ c))).setCell ⟨w.heap.size + 1, 3, none⟩ (U (X3.full ^^^ d))) := (((hB.setCell (Nat.le_succ _) _).setCell (Nat.le_succ _) _).setCell (Nat.le_succ _) _).setCell (Nat.le_succ _) _
      generalize ((((wr.setCell ⟨w.heap.size + 1, 0, none⟩ (U (X3.full ^^^ a))).setCell ⟨w.heap.size + 1, 1, none⟩ (U (X3.full ^^^ b))).setCell ⟨w.heap.size + 1, 2, none⟩ (U (X3.full ^^^ c))).setCell ⟨w.heap.size + 1, 3, none⟩ (U (X3.full ^^^ d))) = w4 at *
      have y0 : w4.cell? ⟨w.heap.size + 1, 0, none⟩ = some (U (X3.full ^^^ a)) := by rw [Lib.cell_of_heap z3]; rfl
      have y1 : w4.cell? ⟨w.heap.size + 1, 1, none⟩ = some (U (X3.full ^^^ b)) := by rw [Lib.cell_of_heap z3]; rfl
      have y2 : w4.cell? ⟨w.heap.size + 1, 2, none⟩ = some (U (X3.full ^^^ c)) := by rw [Lib.cell_of_heap z3]; rfl
      have y3 : w4.cell? ⟨w.heap.size + 1, 3, none⟩ = some (U (X3.full ^^^ d)) := by rw [Lib.cell_of_heap z3]; rfl
      exact bodyPost_ret (v := setV ((X3.full ^^^ a : Nat)) ((X3.full ^^^ b : Nat)) ((X3.full ^^^ c : Nat)) ((X3.full ^^^ d : Nat))) (by simp [results, Tryd.results109, go_sem, y0, y1, y2, y3]) rfl ⟨rfl, hB4⟩

end Go.Proofs.YtochckefnjobhaaDoor
