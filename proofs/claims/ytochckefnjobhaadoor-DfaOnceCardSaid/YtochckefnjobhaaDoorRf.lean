/- regex.span, except, bytesOf, star. -/
import Derived.Test.YtochckefnjobhaaDoorRe
import Derived.Test.YtochckefnjobhaaDoorXc
import Derived.BigRegion
namespace Go.Proofs.YtochckefnjobhaaDoor
open Go Go.RowKit Go.Lib
set_option linter.unusedVariables false

theorem new_block (w : World) (o : Obj) : (w.alloc o).heap[w.heap.size]? = some o := by
  show (w.heap.push o)[w.heap.size]? = _
  simp
theorem new_block2 (w : World) (o o' : Obj) : ((w.alloc o).alloc o').heap[w.heap.size + 1]? = some o' := by
  have := new_block (w.alloc o) o'
  rwa [World.size_alloc] at this
theorem new_block3 (w : World) (o o' o2 : Obj) : (((w.alloc o).alloc o').alloc o2).heap[w.heap.size + 1 + 1]? = some o2 := by
  have := new_block ((w.alloc o).alloc o') o2
  rwa [World.size_alloc, World.size_alloc] at this

/-- A regex as a value: its kind, four words, its kids. -/
abbrev nodeV (k : Int) (a b c d : Int) (kv : Value) : Value := .agg #[.int .i64 k, .int .u64 a, .int .u64 b, .int .u64 c, .int .u64 d, kv]
abbrev setV (a b c d : Int) : Value := .agg #[.int .u64 a, .int .u64 b, .int .u64 c, .int .u64 d]
abbrev noKids : Value := .slice none 0 0

theorem below_two (w : World) (o p : Obj) : Below w.heap.size w ((w.alloc o).alloc p) := ((Below.refl _ w).alloc (Nat.le_refl _) o).alloc (by simp) p

theorem bytesOf_any (a b c d : Int) (w : World) :
    Calls Tryd.prog 108 #[setV a b c d] w fun e w' => e = .returned (nodeV 1 a b c d noKids) ∧ Below w.heap.size w w' := by
  go_enter Tryd.func108, Tryd.ntmps108
  go_wp2
  exact bodyPost_ret (v := nodeV 1 a b c d noKids) (by simp [results, Tryd.results108, go_sem]) rfl ⟨rfl, below_two _ _ _⟩

theorem star_any (k a b c d : Int) (kv : Value) (w : World) :
    Calls Tryd.prog 99 #[nodeV k a b c d kv] w fun e w' => ∃ g, w.heap.size ≤ g ∧ e = .returned (nodeV 4 0 0 0 0 (.slice (some ⟨g, 0, none⟩) 1 1)) ∧ w'.heap[g]? = some (.cells #[.int .i64 k, .int .u64 a, .int .u64 b, .int .u64 c, .int .u64 d, kv] 38 (0, 0)) ∧ Below w.heap.size w w' := by
  go_enter Tryd.func99, Tryd.ntmps99
  go_wp2
  refine bodyPost_ret (v := nodeV 4 0 0 0 0 (.slice (some ⟨w.heap.size + 1 + 1, 0, none⟩) 1 1)) (by simp [results, Tryd.results99, go_sem]) rfl ⟨w.heap.size + 1 + 1, by omega, rfl, ?_, (below_two _ _ _).alloc (by simp; omega) _⟩
  exact new_block3 _ _ _ _

/-- The words of all from lo up to m, without m. -/
def wordTo (lo m k : Nat) : Nat := if m = 0 then 0 else X3.bitsOf lo (m - 1) k
abbrev U (n : Nat) : Value := .int .u64 (n : Int)
def cellsTo (lo m : Nat) : Array Value := #[U (wordTo lo m 0), U (wordTo lo m 1), U (wordTo lo m 2), U (wordTo lo m 3)]
theorem wordTo_start (lo k : Nat) : wordTo lo lo k = 0 := by
  unfold wordTo
  split
  · rfl
  · exact X3.bits_none (by omega) k
theorem cellsTo_start (lo : Nat) : cellsTo lo lo = #[.int .u64 0, .int .u64 0, .int .u64 0, .int .u64 0] := by
  unfold cellsTo; simp only [wordTo_start]; rfl

theorem wordTo_step {lo m : Nat} (h : lo ≤ m) (k : Nat) : wordTo lo (m + 1) k = if m / 64 = k then wordTo lo m k ||| 2 ^ (m % 64) else wordTo lo m k := by
  have := X3.bits_step h k
  unfold wordTo
  rw [if_neg (by omega)]
  exact this
theorem wordTo_lt (lo m k : Nat) : wordTo lo m k < 2 ^ 64 := by
  unfold wordTo
  split
  · decide
  · exact X3.bits_lt _ _ _
theorem cellsTo_step {lo m : Nat} (h : lo ≤ m) (h4 : m / 64 < 4) : (cellsTo lo m).setIfInBounds (m / 64) (U (wordTo lo (m + 1) (m / 64))) = cellsTo lo (m + 1) := by
  unfold cellsTo
  rw [wordTo_step h 0, wordTo_step h 1, wordTo_step h 2, wordTo_step h 3, wordTo_step h (m / 64)]
  generalize m / 64 = q at *
  obtain rfl | rfl | rfl | rfl : q = 0 ∨ q = 1 ∨ q = 2 ∨ q = 3 := by omega
  all_goals rfl
theorem wordTo_all {lo m hi : Nat} (h : m = hi + 1 ∨ (m = lo ∧ hi < lo)) (k : Nat) : wordTo lo m k = X3.bitsOf lo hi k := by
  rcases h with rfl | ⟨rfl, h⟩
  · unfold wordTo; rw [if_neg (by omega)]; rfl
  · rw [wordTo_start, X3.bits_none h]
theorem wrap_pow2 (r : Nat) (h : r < 64) : IntKind.u64.wrap (2 ^ r) = ((2 ^ r : Nat) : Int) := by
  have : ∀ r : Fin 64, IntKind.u64.wrap (2 ^ r.val) = ((2 ^ r.val : Nat) : Int) := by decide
  exact this ⟨r, h⟩

set_option maxRecDepth 100000 in
set_option maxHeartbeats 1000000 in
theorem span_any (lo hi : Nat) (w : World) (h1 : lo < 256) (h2 : hi < 256) :
    Calls Tryd.prog 110 #[.int .u8 (lo : Int), .int .u8 (hi : Int)] w fun e w' => e = .returned (setV (X3.bitsOf lo hi 0) (X3.bitsOf lo hi 1) (X3.bitsOf lo hi 2) (X3.bitsOf lo hi 3)) ∧ Below w.heap.size w w' := by
  have l0 : (0 : Int) ≤ (lo : Int) := by omega
  have l1 : (lo : Int) < 256 := by omega
  have e0 : (0 : Int) ≤ (hi : Int) := by omega
  have e1 : (hi : Int) < 256 := by omega
  go_enter Tryd.func110, Tryd.ntmps110
  go_wp2
  go_loopw [6] (fun i wr => ∃ m : Nat, lo ≤ m ∧ (m ≤ hi + 1 ∨ m = lo) ∧ i = .int .i64 (m : Int) ∧ wr.heap[w.heap.size + 1]? = some (.cells (cellsTo lo m) 36 (0, 0)) ∧ wr.heap[w.heap.size]? = some (.cells #[.int .u64 0, .int .u64 0, .int .u64 0, .int .u64 0] 36 (0, 0)) ∧ Below w.heap.size w wr) (fun i _ => hi + 1 - (RowKit.intOf i).toNat)
  case atStart =>
    refine ⟨lo, Nat.le_refl _, Or.inr rfl, rfl, ?_, ?_, below_two _ _ _⟩
    · rw [cellsTo_start]; exact new_block2 _ _ _
    · exact (Below.heap_alloc _ _ _ (by simp)).trans (new_block _ _)
  case round =>
    obtain ⟨m, hm, hor, rfl, hl, ha, hB⟩ := hrel
    by_cases hlt : m ≤ hi
    · have r1 : (m : Int) ≤ (hi : Int) := by omega
      have hd : Int.tdiv (m : Int) 64 = ((m / 64 : Nat) : Int) := by rw [Int.tdiv_eq_ediv_of_nonneg (by omega)]; rfl
      have hm2 : Int.tmod (m : Int) 64 = ((m % 64 : Nat) : Int) := by rw [Int.tmod_eq_emod_of_nonneg (by omega)]; rfl
      have q3 : m / 64 < 4 := by omega
      generalize hq : m / 64 = q at *
      have q4 : (0 : Int) ≤ (q : Int) := by omega
      have q5 : (q : Int) < 4 := by omega
      have cq : wr.cell? ⟨w.heap.size + 1, q, none⟩ = some (U (wordTo lo m q)) := by
        rw [Lib.cell_of_heap hl]; unfold cellsTo
        obtain rfl | rfl | rfl | rfl : q = 0 ∨ q = 1 ∨ q = 2 ∨ q = 3 := by omega
        all_goals rfl
      have fq : wr.frozen? ⟨w.heap.size + 1, q, none⟩ = false := Lib.frozen_of_heap hl q
      go_wp2_with fail
      have hv : bits BinOp.or IntKind.u64 ((wordTo lo m q : Nat) : Int) (IntKind.u64.wrap (2 ^ (m % 64))) = ((wordTo lo (m + 1) q : Nat) : Int) := by
        rw [wrap_pow2 _ (Nat.mod_lt _ (by decide)), bits_or_u64_nat _ _ (wordTo_lt _ _ _) (Nat.pow_lt_pow_right (by decide) (Nat.mod_lt _ (by decide))), wordTo_step hm, if_pos hq]
      go_region
      have hn : ((wr.setCell ⟨w.heap.size + 1, q, none⟩ (U (wordTo lo (m + 1) q))).drew).heap[w.heap.size + 1]? = some (.cells (cellsTo lo (m + 1)) 36 (0, 0)) := by
        show (wr.setCell _ _).heap[_]? = _
        rw [heap_setCell_same wr _ q _ 36 _ hl]
        have := cellsTo_step hm (by omega)
        rw [hq] at this
        rw [this]
      have ha2 : ((wr.setCell ⟨w.heap.size + 1, q, none⟩ (U (wordTo lo (m + 1) q))).drew).heap[w.heap.size]? = some (.cells #[.int .u64 0, .int .u64 0, .int .u64 0, .int .u64 0] 36 (0, 0)) :=
        (Below.heap_setCell _ _ _ _ (by simp)).trans ha
      have hB2 : Below w.heap.size w ((wr.setCell ⟨w.heap.size + 1, q, none⟩ (U (wordTo lo (m + 1) q))).drew) := (hB.setCell (by simp) _).drew
      generalize (wr.setCell ⟨w.heap.size + 1, q, none⟩ (U (wordTo lo (m + 1) q))).drew = w3 at *
      go_wp2_with fail
      refine ⟨⟨m + 1, by omega, Or.inl (by omega), rfl, hn, ha2, hB2⟩, ?_⟩
      show hi + 1 - ((m : Int) + 1).toNat < hi + 1 - ((m : Int)).toNat
      omega
    · have r1 : ¬ (m : Int) ≤ (hi : Int) := by omega
      have hw := wordTo_all (lo := lo) (m := m) (hi := hi) (by omega)
      unfold cellsTo at hl
      rw [hw, hw, hw, hw] at hl
      have c0 : wr.cell? ⟨w.heap.size + 1, 0, none⟩ = some (U (X3.bitsOf lo hi 0)) := by rw [Lib.cell_of_heap hl]; rfl
      have c1 : wr.cell? ⟨w.heap.size + 1, 1, none⟩ = some (U (X3.bitsOf lo hi 1)) := by rw [Lib.cell_of_heap hl]; rfl
      have c2 : wr.cell? ⟨w.heap.size + 1, 2, none⟩ = some (U (X3.bitsOf lo hi 2)) := by rw [Lib.cell_of_heap hl]; rfl
      have c3 : wr.cell? ⟨w.heap.size + 1, 3, none⟩ = some (U (X3.bitsOf lo hi 3)) := by rw [Lib.cell_of_heap hl]; rfl
      have f0 : wr.frozen? ⟨w.heap.size, 0, none⟩ = false := Lib.frozen_of_heap ha 0
      have f1 : wr.frozen? ⟨w.heap.size, 1, none⟩ = false := Lib.frozen_of_heap ha 1
      have f2 : wr.frozen? ⟨w.heap.size, 2, none⟩ = false := Lib.frozen_of_heap ha 2
      have f3 : wr.frozen? ⟨w.heap.size, 3, none⟩ = false := Lib.frozen_of_heap ha 3
      have d0 : wr.cell? ⟨w.heap.size, 0, none⟩ = some (.int .u64 0) := by rw [Lib.cell_of_heap ha]; rfl
      have d1 : wr.cell? ⟨w.heap.size, 1, none⟩ = some (.int .u64 0) := by rw [Lib.cell_of_heap ha]; rfl
      have d2 : wr.cell? ⟨w.heap.size, 2, none⟩ = some (.int .u64 0) := by rw [Lib.cell_of_heap ha]; rfl
      have d3 : wr.cell? ⟨w.heap.size, 3, none⟩ = some (.int .u64 0) := by rw [Lib.cell_of_heap ha]; rfl
      clear hw
      go_wp2_with fail
      have z0 := heap_setCell_same wr w.heap.size 0 _ 36 (U (X3.bitsOf lo hi 0)) ha
      have z1 := heap_setCell_same _ w.heap.size 1 _ 36 (U (X3.bitsOf lo hi 1)) z0
      have z2 := heap_setCell_same _ w.heap.size 2 _ 36 (U (X3.bitsOf lo hi 2)) z1
      have z3 := heap_setCell_same _ w.heap.size 3 _ 36 (U (X3.bitsOf lo hi 3)) z2
      have hB4 : Below w.heap.size w ((((wr.setCell ⟨w.heap.size, 0, none⟩ (U (X3.bitsOf lo hi 0))).setCell ⟨w.heap.size, 1, none⟩ (U (X3.bitsOf lo hi 1))).setCell ⟨w.heap.size, 2, none⟩ (U (X3.bitsOf lo hi 2))).setCell ⟨w.heap.size, 3, none⟩ (U (X3.bitsOf lo hi 3))) :=
        (((hB.setCell (Nat.le_refl _) _).setCell (Nat.le_refl _) _).setCell (Nat.le_refl _) _).setCell (Nat.le_refl _) _
      generalize (((wr.setCell ⟨w.heap.size, 0, none⟩ (U (X3.bitsOf lo hi 0))).setCell ⟨w.heap.size, 1, none⟩ (U (X3.bitsOf lo hi 1))).setCell ⟨w.heap.size, 2, none⟩ (U (X3.bitsOf lo hi 2))).setCell ⟨w.heap.size, 3, none⟩ (U (X3.bitsOf lo hi 3)) = w4 at *
      have y0 : w4.cell? ⟨w.heap.size, 0, none⟩ = some (U (X3.bitsOf lo hi 0)) := by rw [Lib.cell_of_heap z3]; rfl
      have y1 : w4.cell? ⟨w.heap.size, 1, none⟩ = some (U (X3.bitsOf lo hi 1)) := by rw [Lib.cell_of_heap z3]; rfl
      have y2 : w4.cell? ⟨w.heap.size, 2, none⟩ = some (U (X3.bitsOf lo hi 2)) := by rw [Lib.cell_of_heap z3]; rfl
      have y3 : w4.cell? ⟨w.heap.size, 3, none⟩ = some (U (X3.bitsOf lo hi 3)) := by rw [Lib.cell_of_heap z3]; rfl
      exact bodyPost_ret (v := setV (X3.bitsOf lo hi 0) (X3.bitsOf lo hi 1) (X3.bitsOf lo hi 2) (X3.bitsOf lo hi 3)) (by simp [results, Tryd.results110, go_sem, y0, y1, y2, y3]) rfl ⟨rfl, hB4⟩

end Go.Proofs.YtochckefnjobhaaDoor
