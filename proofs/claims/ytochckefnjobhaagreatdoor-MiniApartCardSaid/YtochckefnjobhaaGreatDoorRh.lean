/- regex.span, except, bytesOf, star. -/
import Derived.Test.YtochckefnjobhaaGreatDoorRe
import Derived.Test.YtochckefnjobhaaGreatDoorXd
import Derived.BigRegion
namespace Go.Proofs.YtochckefnjobhaaGreatDoor
open Go Go.RowKit Go.Lib
set_option linter.unusedVariables false
theorem new_block (w : World) (o : Obj) : (w.alloc o).heap[w.heap.size]? = some o := by
 show (w.heap.push o)[w.heap.size]? = _
 simp
theorem new_block2 (w : World) (o o' : Obj) : ((w.alloc o).alloc o').heap[w.heap.size + 1]? = some o' := by
 have := new_block (w.alloc o) o'
 rwa [World.size_alloc] at this
theorem new_block3 (w : World) (o o' o2 : Obj) : (((w.alloc o).alloc o').alloc o2).heap[w.heap.size + 1 + 1]? = some o2 := by
 have := new_block ((w.alloc o).alloc o') o2
 rwa [World.size_alloc, World.size_alloc] at this
abbrev nodeV (k : Int) (a b c d : Int) (kv : Value) : Value := .agg #[.int .i64 k, .int .u64 a, .int .u64 b, .int .u64 c, .int .u64 d, kv]
abbrev setV (a b c d : Int) : Value := .agg #[.int .u64 a, .int .u64 b, .int .u64 c, .int .u64 d]
abbrev noKids : Value := .slice none 0 0
theorem below_two (w : World) (o p : Obj) : Below w.heap.size w ((w.alloc o).alloc p) := ((Below.refl _ w).alloc (Nat.le_refl _) o).alloc (by simp) p
theorem bytesOf_any (a b c d : Int) (w : World) :
  Calls Tryz.prog 138 #[setV a b c d] w fun e w' => e = .returned (nodeV 1 a b c d noKids) ∧ Below w.heap.size w w' := by
 go_enter Tryz.func138, Tryz.ntmps138
 go_wp2
 exact bodyPost_ret (v := nodeV 1 a b c d noKids) (by simp [results, Tryz.results138, go_sem]) rfl ⟨rfl, below_two _ _ _⟩
theorem star_any (k a b c d : Int) (kv : Value) (w : World) :
  Calls Tryz.prog 119 #[nodeV k a b c d kv] w fun e w' => ∃ g, w.heap.size ≤ g ∧ e = .returned (nodeV 4 0 0 0 0 (.slice (some ⟨g, 0, none⟩) 1 1)) ∧ w'.heap[g]? = some (.cells #[.int .i64 k, .int .u64 a, .int .u64 b, .int .u64 c, .int .u64 d, kv] 46 (0, 0)) ∧ Below w.heap.size w w' := by
 go_enter Tryz.func119, Tryz.ntmps119
 go_wp2
 refine bodyPost_ret (v := nodeV 4 0 0 0 0 (.slice (some ⟨w.heap.size + 1 + 1, 0, none⟩) 1 1)) (by simp [results, Tryz.results119, go_sem]) rfl ⟨w.heap.size + 1 + 1, by omega, rfl, ?_, (below_two _ _ _).alloc (by simp; omega) _⟩
 exact new_block3 _ _ _ _
def wordTo (lo m k : Nat) : Nat := if m = 0 then 0 else X3.bitsOf lo (m - 1) k
abbrev U (n : Nat) : Value := .int .u64 (n : Int)
def cellsTo (lo m : Nat) : Array Value := #[U (wordTo lo m 0), U (wordTo lo m 1), U (wordTo lo m 2), U (wordTo lo m 3)]
theorem wordTo_start (lo k : Nat) : wordTo lo lo k = 0 := by
 unfold wordTo
 split
 ·rfl
 ·exact X3.bits_none (by omega) k
theorem cellsTo_start (lo : Nat) : cellsTo lo lo = #[.int .u64 0, .int .u64 0, .int .u64 0, .int .u64 0] := by
 unfold cellsTo; simp only [wordTo_start]; rfl
theorem wordTo_step {lo m : Nat} (h : lo ≤ m) (k : Nat) : wordTo lo (m + 1) k = if m / 64 = k then wordTo lo m k ||| 2 ^ (m % 64) else wordTo lo m k := by
 have := X3.bits_step h k
 unfold wordTo
 rw [if_neg (by omega)]
 exact this
theorem wordTo_lt (lo m k : Nat) : wordTo lo m k < 2 ^ 64 := by
 unfold wordTo
 split
 ·decide
 ·exact X3.bits_lt _ _ _
theorem cellsTo_step {lo m : Nat} (h : lo ≤ m) (h4 : m / 64 < 4) : (cellsTo lo m).setIfInBounds (m / 64) (U (wordTo lo (m + 1) (m / 64))) = cellsTo lo (m + 1) := by
 unfold cellsTo
 rw [wordTo_step h 0, wordTo_step h 1, wordTo_step h 2, wordTo_step h 3, wordTo_step h (m / 64)]
 generalize m / 64 = q at *
 obtain rfl | rfl | rfl | rfl : q = 0 ∨ q = 1 ∨ q = 2 ∨ q = 3 := by omega
 all_goals rfl
theorem wordTo_all {lo m hi : Nat} (h : m = hi + 1 ∨ (m = lo ∧ hi < lo)) (k : Nat) : wordTo lo m k = X3.bitsOf lo hi k := by
 rcases h with rfl | ⟨rfl, h⟩
 ·unfold wordTo; rw [if_neg (by omega)]; rfl
 ·rw [wordTo_start, X3.bits_none h]
theorem wrap_pow2 (r : Nat) (h : r < 64) : IntKind.u64.wrap (2 ^ r) = ((2 ^ r : Nat) : Int) := by
 have : ∀ r : Fin 64, IntKind.u64.wrap (2 ^ r.val) = ((2 ^ r.val : Nat) : Int) := by decide
 exact this ⟨r, h⟩
set_option maxRecDepth 100000 in
set_option maxHeartbeats 1000000 in
theorem span_any (lo hi : Nat) (w : World) (h1 : lo < 256) (h2 : hi < 256) :
  Calls Tryz.prog 140 #[.int .u8 (lo : Int), .int .u8 (hi : Int)] w fun e w' => e = .returned (setV (X3.bitsOf lo hi 0) (X3.bitsOf lo hi 1) (X3.bitsOf lo hi 2) (X3.bitsOf lo hi 3)) ∧ Below w.heap.size w w' := by
 have l0 : (0 : Int) ≤ (lo : Int) := by omega
 have l1 : (lo : Int) < 256 := by omega
 have e0 : (0 : Int) ≤ (hi : Int) := by omega
 have e1 : (hi : Int) < 256 := by omega
 go_enter Tryz.func140, Tryz.ntmps140
 go_wp2
 go_loopw [6] (fun i wr => ∃ m : Nat, lo ≤ m ∧ (m ≤ hi + 1 ∨ m = lo) ∧ i = .int .i64 (m : Int) ∧ wr.heap[w.heap.size + 1]? = some (.cells (cellsTo lo m) 43 (0, 0)) ∧ wr.heap[w.heap.size]? = some (.cells #[.int .u64 0, .int .u64 0, .int .u64 0, .int .u64 0] 43 (0, 0)) ∧ Below w.heap.size w wr) (fun i _ => hi + 1 - (RowKit.intOf i).toNat)
 case atStart =>
  refine ⟨lo, Nat.le_refl _, Or.inr rfl, rfl, ?_, ?_, below_two _ _ _⟩
  ·rw [cellsTo_start]; exact new_block2 _ _ _
  ·exact (Below.heap_alloc _ _ _ (by simp)).trans (new_block _ _)
 case round =>
  obtain ⟨m, hm, hor, rfl, hl, ha, hB⟩ := hrel
  by_cases hlt : m ≤ hi
  ·have r1 : (m : Int) ≤ (hi : Int) := by omega
   have hd : Int.tdiv (m : Int) 64 = ((m / 64 : Nat) : Int) := by rw [Int.tdiv_eq_ediv_of_nonneg (by omega)]; rfl
   have hm2 : Int.tmod (m : Int) 64 = ((m % 64 : Nat) : Int) := by rw [Int.tmod_eq_emod_of_nonneg (by omega)]; rfl
   have q3 : m / 64 < 4 := by omega
   generalize hq : m / 64 = q at *
   have q4 : (0 : Int) ≤ (q : Int) := by omega
   have q5 : (q : Int) < 4 := by omega
   have cq : wr.cell? ⟨w.heap.size + 1, q, none⟩ = some (U (wordTo lo m q)) := by
    rw [Lib.cell_of_heap hl]; unfold cellsTo
    obtain rfl | rfl | rfl | rfl : q = 0 ∨ q = 1 ∨ q = 2 ∨ q = 3 := by omega
    all_goals rfl
   have fq : wr.frozen? ⟨w.heap.size + 1, q, none⟩ = false := Lib.frozen_of_heap hl q
   go_wp2_with fail
   have hv : bits BinOp.or IntKind.u64 ((wordTo lo m q : Nat) : Int) (IntKind.u64.wrap (2 ^ (m % 64))) = ((wordTo lo (m + 1) q : Nat) : Int) := by
    rw [wrap_pow2 _ (Nat.mod_lt _ (by decide)), bits_or_u64_nat _ _ (wordTo_lt _ _ _) (Nat.pow_lt_pow_right (by decide) (Nat.mod_lt _ (by decide))), wordTo_step hm, if_pos hq]
   go_region
   have hn : ((wr.setCell ⟨w.heap.size + 1, q, none⟩ (U (wordTo lo (m + 1) q))).drew).heap[w.heap.size + 1]? = some (.cells (cellsTo lo (m + 1)) 43 (0, 0)) := by
    show (wr.setCell _ _).heap[_]? = _
    rw [heap_setCell_same wr _ q _ 43 _ hl]
    have := cellsTo_step hm (by omega)
    rw [hq] at this
    rw [this]
   have ha2 : ((wr.setCell ⟨w.heap.size + 1, q, none⟩ (U (wordTo lo (m + 1) q))).drew).heap[w.heap.size]? = some (.cells #[.int .u64 0, .int .u64 0, .int .u64 0, .int .u64 0] 43 (0, 0)) :=
    (Below.heap_setCell _ _ _ _ (by simp)).trans ha
   have hB2 : Below w.heap.size w ((wr.setCell ⟨w.heap.size + 1, q, none⟩ (U (wordTo lo (m + 1) q))).drew) := (hB.setCell (by simp) _).drew
   generalize (wr.setCell ⟨w.heap.size + 1, q, none⟩ (U (wordTo lo (m + 1) q))).drew = w3 at *
   go_wp2_with fail
   refine ⟨⟨m + 1, by omega, Or.inl (by omega), rfl, hn, ha2, hB2⟩, ?_⟩
   show hi + 1 - ((m : Int) + 1).toNat < hi + 1 - ((m : Int)).toNat
   omega
  ·have r1 : ¬ (m : Int) ≤ (hi : Int) := by omega
   have hw := wordTo_all (lo := lo) (m := m) (hi := hi) (by omega)
   unfold cellsTo at hl
   rw [hw, hw, hw, hw] at hl
   have c0 : wr.cell? ⟨w.heap.size + 1, 0, none⟩ = some (U (X3.bitsOf lo hi 0)) := by rw [Lib.cell_of_heap hl]; rfl
   have c1 : wr.cell? ⟨w.heap.size + 1, 1, none⟩ = some (U (X3.bitsOf lo hi 1)) := by rw [Lib.cell_of_heap hl]; rfl
   have c2 : wr.cell? ⟨w.heap.size + 1, 2, none⟩ = some (U (X3.bitsOf lo hi 2)) := by rw [Lib.cell_of_heap hl]; rfl
   have c3 : wr.cell? ⟨w.heap.size + 1, 3, none⟩ = some (U (X3.bitsOf lo hi 3)) := by rw [Lib.cell_of_heap hl]; rfl
   have f0 : wr.frozen? ⟨w.heap.size, 0, none⟩ = false := Lib.frozen_of_heap ha 0
   have f1 : wr.frozen? ⟨w.heap.size, 1, none⟩ = false := Lib.frozen_of_heap ha 1
   have f2 : wr.frozen? ⟨w.heap.size, 2, none⟩ = false := Lib.frozen_of_heap ha 2
   have f3 : wr.frozen? ⟨w.heap.size, 3, none⟩ = false := Lib.frozen_of_heap ha 3
   have d0 : wr.cell? ⟨w.heap.size, 0, none⟩ = some (.int .u64 0) := by rw [Lib.cell_of_heap ha]; rfl
   have d1 : wr.cell? ⟨w.heap.size, 1, none⟩ = some (.int .u64 0) := by rw [Lib.cell_of_heap ha]; rfl
   have d2 : wr.cell? ⟨w.heap.size, 2, none⟩ = some (.int .u64 0) := by rw [Lib.cell_of_heap ha]; rfl
   have d3 : wr.cell? ⟨w.heap.size, 3, none⟩ = some (.int .u64 0) := by rw [Lib.cell_of_heap ha]; rfl
   clear hw
   go_wp2_with fail
   have z0 := heap_setCell_same wr w.heap.size 0 _ 43 (U (X3.bitsOf lo hi 0)) ha
   have z1 := heap_setCell_same _ w.heap.size 1 _ 43 (U (X3.bitsOf lo hi 1)) z0
   have z2 := heap_setCell_same _ w.heap.size 2 _ 43 (U (X3.bitsOf lo hi 2)) z1
   have z3 := heap_setCell_same _ w.heap.size 3 _ 43 (U (X3.bitsOf lo hi 3)) z2
   have hB4 : Below w.heap.size w ((((wr.setCell ⟨w.heap.size, 0, none⟩ (U (X3.bitsOf lo hi 0))).setCell ⟨w.heap.size, 1, none⟩ (U (X3.bitsOf lo hi 1))).setCell ⟨w.heap.size, 2, none⟩ (U (X3.bitsOf lo hi 2))).setCell ⟨w.heap.size, 3, none⟩ (U (X3.bitsOf lo hi 3))) :=
    (((hB.setCell (Nat.le_refl _) _).setCell (Nat.le_refl _) _).setCell (Nat.le_refl _) _).setCell (Nat.le_refl _) _
   generalize (((wr.setCell ⟨w.heap.size, 0, none⟩ (U (X3.bitsOf lo hi 0))).setCell ⟨w.heap.size, 1, none⟩ (U (X3.bitsOf lo hi 1))).setCell ⟨w.heap.size, 2, none⟩ (U (X3.bitsOf lo hi 2))).setCell ⟨w.heap.size, 3, none⟩ (U (X3.bitsOf lo hi 3)) = w4 at *
   have y0 : w4.cell? ⟨w.heap.size, 0, none⟩ = some (U (X3.bitsOf lo hi 0)) := by rw [Lib.cell_of_heap z3]; rfl
   have y1 : w4.cell? ⟨w.heap.size, 1, none⟩ = some (U (X3.bitsOf lo hi 1)) := by rw [Lib.cell_of_heap z3]; rfl
   have y2 : w4.cell? ⟨w.heap.size, 2, none⟩ = some (U (X3.bitsOf lo hi 2)) := by rw [Lib.cell_of_heap z3]; rfl
   have y3 : w4.cell? ⟨w.heap.size, 3, none⟩ = some (U (X3.bitsOf lo hi 3)) := by rw [Lib.cell_of_heap z3]; rfl
   exact bodyPost_ret (v := setV (X3.bitsOf lo hi 0) (X3.bitsOf lo hi 1) (X3.bitsOf lo hi 2) (X3.bitsOf lo hi 3)) (by simp [results, Tryz.results140, go_sem, y0, y1, y2, y3]) rfl ⟨rfl, hB4⟩
end Go.Proofs.YtochckefnjobhaaGreatDoor
namespace Go.Proofs.YtochckefnjobhaaGreatDoor
open Go Go.RowKit Go.Lib
set_option linter.unusedVariables false
def exTo (a b c d j : Nat) : Array Value := #[U (if 0 < j then X3.full ^^^ a else a), U (if 1 < j then X3.full ^^^ b else b), U (if 2 < j then X3.full ^^^ c else c), U (if 3 < j then X3.full ^^^ d else d)]
theorem not64 (a : Nat) (ha : a < 2 ^ 64) : bits BinOp.xor IntKind.u64 (if IntKind.u64.signed = true then -1 else IntKind.u64.max) (a : Int) = ((X3.full ^^^ a : Nat) : Int) := by
 have hx : X3.full ^^^ a < 2 ^ 64 := Nat.xor_lt_two_pow (by decide) ha
 have h1 : (BitVec.ofInt 64 ((X3.full : Nat) : Int)).toNat = X3.full := by
  rw [BitVec.ofInt_natCast, BitVec.toNat_ofNat]; exact Nat.mod_eq_of_lt (by decide)
 have h2 : (BitVec.ofInt 64 (a : Int)).toNat = a := by
  rw [BitVec.ofInt_natCast, BitVec.toNat_ofNat]; exact Nat.mod_eq_of_lt (by omega)
 show IntKind.u64.wrap ((BitVec.ofInt 64 ((X3.full : Nat) : Int) ^^^ BitVec.ofInt 64 (a : Int)).toNat : Int) = _
 rw [BitVec.toNat_xor, h1, h2, IntKind.wrap_u64]
 omega
set_option maxRecDepth 100000 in
set_option maxHeartbeats 1000000 in
theorem except_any (a b c d : Nat) (w : World) (ha : a < 2 ^ 64) (hb : b < 2 ^ 64) (hc : c < 2 ^ 64) (hd : d < 2 ^ 64) :
  Calls Tryz.prog 139 #[setV a b c d] w fun e w' => e = .returned (setV ((X3.full ^^^ a : Nat)) ((X3.full ^^^ b : Nat)) ((X3.full ^^^ c : Nat)) ((X3.full ^^^ d : Nat))) ∧ Below w.heap.size w w' := by
 go_enter Tryz.func139, Tryz.ntmps139
 go_wp2
 go_loopw [4] (fun i wr => ∃ j : Nat, j ≤ 4 ∧ i = .int .i64 (j : Int) ∧ wr.heap[w.heap.size]? = some (.cells (exTo a b c d j) 43 (0, 0)) ∧ wr.heap[w.heap.size + 1]? = some (.cells #[.int .u64 0, .int .u64 0, .int .u64 0, .int .u64 0] 43 (0, 0)) ∧ Below w.heap.size w wr) (fun i _ => 4 - (RowKit.intOf i).toNat)
 case atStart =>
  refine ⟨0, by omega, rfl, ?_, ?_, below_two _ _ _⟩
  ·exact (Below.heap_alloc _ _ _ (by simp)).trans (new_block _ _)
  ·exact new_block2 _ _ _
 case round =>
  obtain ⟨j, hj, rfl, hl, ha0, hB⟩ := hrel
  obtain rfl | rfl | rfl | rfl | rfl : j = 0 ∨ j = 1 ∨ j = 2 ∨ j = 3 ∨ j = 4 := by omega
  ·have c0 : wr.cell? ⟨w.heap.size, 0, none⟩ = some (U a) := by rw [Lib.cell_of_heap hl]; rfl
   have f0 : wr.frozen? ⟨w.heap.size, 0, none⟩ = false := Lib.frozen_of_heap hl 0
   have e0 := not64 a ha
   go_wp2_with fail
   have z := heap_setCell_same wr w.heap.size 0 _ 43 (U (X3.full ^^^ a)) hl
   exact ⟨⟨1, by omega, rfl, z, (Below.heap_setCell _ _ _ _ (by simp)).trans ha0, hB.setCell (Nat.le_refl _) _⟩, by decide⟩
  ·have c0 : wr.cell? ⟨w.heap.size, 1, none⟩ = some (U b) := by rw [Lib.cell_of_heap hl]; rfl
   have f0 : wr.frozen? ⟨w.heap.size, 1, none⟩ = false := Lib.frozen_of_heap hl 1
   have e0 := not64 b hb
   go_wp2_with fail
   have z := heap_setCell_same wr w.heap.size 1 _ 43 (U (X3.full ^^^ b)) hl
   exact ⟨⟨2, by omega, rfl, z, (Below.heap_setCell _ _ _ _ (by simp)).trans ha0, hB.setCell (Nat.le_refl _) _⟩, by decide⟩
  ·have c0 : wr.cell? ⟨w.heap.size, 2, none⟩ = some (U c) := by rw [Lib.cell_of_heap hl]; rfl
   have f0 : wr.frozen? ⟨w.heap.size, 2, none⟩ = false := Lib.frozen_of_heap hl 2
   have e0 := not64 c hc
   go_wp2_with fail
   have z := heap_setCell_same wr w.heap.size 2 _ 43 (U (X3.full ^^^ c)) hl
   exact ⟨⟨3, by omega, rfl, z, (Below.heap_setCell _ _ _ _ (by simp)).trans ha0, hB.setCell (Nat.le_refl _) _⟩, by decide⟩
  ·have c0 : wr.cell? ⟨w.heap.size, 3, none⟩ = some (U d) := by rw [Lib.cell_of_heap hl]; rfl
   have f0 : wr.frozen? ⟨w.heap.size, 3, none⟩ = false := Lib.frozen_of_heap hl 3
   have e0 := not64 d hd
   go_wp2_with fail
   have z := heap_setCell_same wr w.heap.size 3 _ 43 (U (X3.full ^^^ d)) hl
   exact ⟨⟨4, by omega, rfl, z, (Below.heap_setCell _ _ _ _ (by simp)).trans ha0, hB.setCell (Nat.le_refl _) _⟩, by decide⟩
  ·have hl' : wr.heap[w.heap.size]? = some (.cells #[U (X3.full ^^^ a), U (X3.full ^^^ b), U (X3.full ^^^ c), U (X3.full ^^^ d)] 43 (0, 0)) := hl
   clear hl
   have c0 : wr.cell? ⟨w.heap.size, 0, none⟩ = some (U (X3.full ^^^ a)) := by rw [Lib.cell_of_heap hl']; rfl
   have d0 : wr.cell? ⟨w.heap.size + 1, 0, none⟩ = some (.int .u64 0) := by rw [Lib.cell_of_heap ha0]; rfl
   have f0 : wr.frozen? ⟨w.heap.size + 1, 0, none⟩ = false := Lib.frozen_of_heap ha0 0
   have c1 : wr.cell? ⟨w.heap.size, 1, none⟩ = some (U (X3.full ^^^ b)) := by rw [Lib.cell_of_heap hl']; rfl
   have d1 : wr.cell? ⟨w.heap.size + 1, 1, none⟩ = some (.int .u64 0) := by rw [Lib.cell_of_heap ha0]; rfl
   have f1 : wr.frozen? ⟨w.heap.size + 1, 1, none⟩ = false := Lib.frozen_of_heap ha0 1
   have c2 : wr.cell? ⟨w.heap.size, 2, none⟩ = some (U (X3.full ^^^ c)) := by rw [Lib.cell_of_heap hl']; rfl
   have d2 : wr.cell? ⟨w.heap.size + 1, 2, none⟩ = some (.int .u64 0) := by rw [Lib.cell_of_heap ha0]; rfl
   have f2 : wr.frozen? ⟨w.heap.size + 1, 2, none⟩ = false := Lib.frozen_of_heap ha0 2
   have c3 : wr.cell? ⟨w.heap.size, 3, none⟩ = some (U (X3.full ^^^ d)) := by rw [Lib.cell_of_heap hl']; rfl
   have d3 : wr.cell? ⟨w.heap.size + 1, 3, none⟩ = some (.int .u64 0) := by rw [Lib.cell_of_heap ha0]; rfl
   have f3 : wr.frozen? ⟨w.heap.size + 1, 3, none⟩ = false := Lib.frozen_of_heap ha0 3
   go_wp2_with fail
   have z0 := heap_setCell_same wr (w.heap.size + 1) 0 _ 43 (U (X3.full ^^^ a)) ha0
   have z1 := heap_setCell_same _ (w.heap.size + 1) 1 _ 43 (U (X3.full ^^^ b)) z0
   have z2 := heap_setCell_same _ (w.heap.size + 1) 2 _ 43 (U (X3.full ^^^ c)) z1
   have z3 := heap_setCell_same _ (w.heap.size + 1) 3 _ 43 (U (X3.full ^^^ d)) z2
   have hB4 : Below w.heap.size w ((((wr.setCell ⟨w.heap.size + 1, 0, none⟩ (U (X3.full ^^^ a))).setCell ⟨w.heap.size + 1, 1, none⟩ (U (X3.full ^^^ b))).setCell ⟨w.heap.size + 1, 2, none⟩ (U (X3.full ^^^ c))).setCell ⟨w.heap.size + 1, 3, none⟩ (U (X3.full ^^^ d))) := (((hB.setCell (Nat.le_succ _) _).setCell (Nat.le_succ _) _).setCell (Nat.le_succ _) _).setCell (Nat.le_succ _) _
   generalize ((((wr.setCell ⟨w.heap.size + 1, 0, none⟩ (U (X3.full ^^^ a))).setCell ⟨w.heap.size + 1, 1, none⟩ (U (X3.full ^^^ b))).setCell ⟨w.heap.size + 1, 2, none⟩ (U (X3.full ^^^ c))).setCell ⟨w.heap.size + 1, 3, none⟩ (U (X3.full ^^^ d))) = w4 at *
   have y0 : w4.cell? ⟨w.heap.size + 1, 0, none⟩ = some (U (X3.full ^^^ a)) := by rw [Lib.cell_of_heap z3]; rfl
   have y1 : w4.cell? ⟨w.heap.size + 1, 1, none⟩ = some (U (X3.full ^^^ b)) := by rw [Lib.cell_of_heap z3]; rfl
   have y2 : w4.cell? ⟨w.heap.size + 1, 2, none⟩ = some (U (X3.full ^^^ c)) := by rw [Lib.cell_of_heap z3]; rfl
   have y3 : w4.cell? ⟨w.heap.size + 1, 3, none⟩ = some (U (X3.full ^^^ d)) := by rw [Lib.cell_of_heap z3]; rfl
   exact bodyPost_ret (v := setV ((X3.full ^^^ a : Nat)) ((X3.full ^^^ b : Nat)) ((X3.full ^^^ c : Nat)) ((X3.full ^^^ d : Nat))) (by simp [results, Tryz.results139, go_sem, y0, y1, y2, y3]) rfl ⟨rfl, hB4⟩
end Go.Proofs.YtochckefnjobhaaGreatDoor
namespace Go.Proofs.YtochckefnjobhaaGreatDoor
open Go Go.RowKit Go.Lib
set_option linter.unusedVariables false
theorem passed_any (b : Nat) (s : ByteArray) (c : Nat) (i : Nat) (w : World) (h : Rd b s i w) (hs : s.size ≤ maxLen) (hi : i ≤ s.size) :
  Calls Tryz.prog 104 #[.pointer (some ⟨b, 0, none⟩), .int .u8 (c : Int)] w fun e w' =>
   e = .returned (.bool (X3.passed (LL s) i c)) ∧ (Rd b s (if X3.passed (LL s) i c then i + 1 else i) w' ∧ Gr b w w') := by
 by_cases hlt : i < s.size
 ·have e : X3.passed (LL s) i c = decide ((s[i]'hlt).toNat = c) := by unfold X3.passed; rw [ll_at hlt]
  rw [e]
  by_cases hc : (s[i]'hlt).toNat = c
  ·subst hc
   simp only [decide_true, if_true]
   exact passed_yes b s i w h hs hlt
  ·simp only [hc, decide_false]
   exact passed_no b s c i w h hs hlt (by omega)
 ·obtain rfl : i = s.size := by omega
  have e : X3.passed (LL s) s.size c = false := by unfold X3.passed; rw [ll_end]
  rw [e]
  exact passed_end b s c w h hs
theorem passed_le {s : ByteArray} {i c : Nat} (h : X3.passed (LL s) i c = true) : i + 1 ≤ s.size := by
 have := X3.passed_lt h
 have e : (LL s).length = s.size := rfl
 omega
theorem gr_new {b k : Nat} {w w' : World} (h : Gr b w w') (hk : w.heap.size ≤ k) (i : Nat) (v : Value) : Gr b w (w'.setCell ⟨k, i, none⟩ v) :=
 ⟨h.os, h.tape, h.output, by have := h.size; simpa using this, fun j hj hne => (Below.heap_setCell _ _ _ j (by show j ≠ k; omega)).trans (h.block j hj hne)⟩
theorem gr_alloc {b : Nat} {w w' : World} (h : Gr b w w') (o : Obj) : Gr b w (w'.alloc o) := World.grownBy.trans h (World.grownBy_alloc w' o _)
def posOf (b : Nat) (w : World) : Nat := match w.cell? ⟨b, 1, none⟩ with | some (.int _ n) => n.toNat | _ => 0
theorem posOf_rd {b : Nat} {s : ByteArray} {i : Nat} {w : World} (h : Rd b s i w) : posOf b w = i := by
 unfold posOf
 rw [Lib.cell_of_heap h]
 rfl
mutual
inductive RepS (S : Nat → Prop) (w : World) : X3.RX → Value → Prop
 | empty : RepS S w .empty (nodeV 0 0 0 0 0 noKids)
 | bytes (x y z u : Nat) (hx : x < 2 ^ 64) (hy : y < 2 ^ 64) (hz : z < 2 ^ 64) (hu : u < 2 ^ 64) : RepS S w (.bytes x y z u) (nodeV 1 x y z u noKids)
 | cat (l : List X3.RX) (g cap : Nat) (h : RepLS S w l g 0) (hc : l.length ≤ cap) (hg : S g) (hw : g < w.heap.size) (h0 : l ≠ []) : RepS S w (.cat l) (nodeV 2 0 0 0 0 (.slice (some ⟨g, 0, none⟩) l.length cap))
 | alt (l : List X3.RX) (g cap : Nat) (h : RepLS S w l g 0) (hc : l.length ≤ cap) (hg : S g) (hw : g < w.heap.size) (h0 : l ≠ []) : RepS S w (.alt l) (nodeV 3 0 0 0 0 (.slice (some ⟨g, 0, none⟩) l.length cap))
 | star (r : X3.RX) (g cap : Nat) (h : RepLS S w [r] g 0) (hc : 1 ≤ cap) (hg : S g) (hw : g < w.heap.size) : RepS S w (.star r) (nodeV 4 0 0 0 0 (.slice (some ⟨g, 0, none⟩) 1 cap))
inductive RepLS (S : Nat → Prop) (w : World) : List X3.RX → Nat → Nat → Prop
 | nil (g j : Nat) : RepLS S w [] g j
 | cons (r : X3.RX) (l : List X3.RX) (g j : Nat) (k x y z u : Int) (kv : Value) (h : RepS S w r (nodeV k x y z u kv))
   (c0 : w.cell? ⟨g, 6 * j, none⟩ = some (.int .i64 k)) (c1 : w.cell? ⟨g, 6 * j + 1, none⟩ = some (.int .u64 x)) (c2 : w.cell? ⟨g, 6 * j + 2, none⟩ = some (.int .u64 y))
   (c3 : w.cell? ⟨g, 6 * j + 3, none⟩ = some (.int .u64 z)) (c4 : w.cell? ⟨g, 6 * j + 4, none⟩ = some (.int .u64 u)) (c5 : w.cell? ⟨g, 6 * j + 5, none⟩ = some kv)
   (h2 : RepLS S w l g (j + 1)) : RepLS S w (r :: l) g j
end
abbrev Rep (B : Nat) (w : World) (r : X3.RX) (v : Value) : Prop := RepS (fun g => B ≤ g) w r v
abbrev RepL (B : Nat) (w : World) (l : List X3.RX) (g j : Nat) : Prop := RepLS (fun g => B ≤ g) w l g j
theorem Rep.empty {B : Nat} {w : World} : Rep B w .empty (nodeV 0 0 0 0 0 noKids) := RepS.empty
theorem Rep.bytes {B : Nat} {w : World} (x y z u : Nat) (hx : x < 2 ^ 64) (hy : y < 2 ^ 64) (hz : z < 2 ^ 64) (hu : u < 2 ^ 64) : Rep B w (.bytes x y z u) (nodeV 1 x y z u noKids) := RepS.bytes x y z u hx hy hz hu
def KeepS (S : Nat → Prop) (w w' : World) : Prop := w.heap.size ≤ w'.heap.size ∧ ∀ g, S g → g < w.heap.size → w'.heap[g]? = w.heap[g]?
abbrev Keep (B : Nat) (w w' : World) : Prop := KeepS (fun g => B ≤ g) w w'
theorem keep_below {B : Nat} {w w' : World} (h : Below w.heap.size w w') : Keep B w w' := ⟨h.size, fun g _ hg => h.block g hg⟩
theorem keepS_below {S : Nat → Prop} {w w' : World} (h : Below w.heap.size w w') : KeepS S w w' := ⟨h.size, fun g _ hg => h.block g hg⟩
theorem keep_gr {B b : Nat} {w w' : World} (hb : b < B) (h : Gr b w w') : Keep B w w' := ⟨h.size, fun g h1 h2 => h.block g h2 (fun e => by have := Option.some.inj e; have h1' : B ≤ g := h1; omega)⟩
theorem keepS_gr {S : Nat → Prop} {b : Nat} {w w' : World} (hb : ¬ S b) (h : Gr b w w') : KeepS S w w' := ⟨h.size, fun g h1 h2 => h.block g h2 (fun e => by have := Option.some.inj e; subst this; exact hb h1)⟩
mutual
theorem RepS.kept {S : Nat → Prop} {w w' : World} (hg : KeepS S w w') : ∀ {r : X3.RX} {v : Value}, RepS S w r v → RepS S w' r v
 | _, _, .empty => .empty
 | _, _, .bytes x y z u hx hy hz hu => .bytes x y z u hx hy hz hu
 | _, _, .cat l g cap h hc hn hw h0 => .cat l g cap (RepLS.kept hg hn hw h) hc hn (Nat.lt_of_lt_of_le hw hg.1) h0
 | _, _, .alt l g cap h hc hn hw h0 => .alt l g cap (RepLS.kept hg hn hw h) hc hn (Nat.lt_of_lt_of_le hw hg.1) h0
 | _, _, .star r g cap h hc hn hw => .star r g cap (RepLS.kept hg hn hw h) hc hn (Nat.lt_of_lt_of_le hw hg.1)
theorem RepLS.kept {S : Nat → Prop} {w w' : World} (hg : KeepS S w w') {g : Nat} (hn : S g) (hw : g < w.heap.size) : ∀ {l : List X3.RX} {j : Nat}, RepLS S w l g j → RepLS S w' l g j
 | _, _, .nil _ _ => .nil _ _
 | _, _, .cons r l _ j k x y z u kv h c0 c1 c2 c3 c4 c5 h2 =>
  have e : ∀ q, w'.cell? ⟨g, q, none⟩ = w.cell? ⟨g, q, none⟩ := fun q => World.cell?_of_block (hg.2 g hn hw)
  .cons r l g j k x y z u kv (RepS.kept hg h) ((e _).trans c0) ((e _).trans c1) ((e _).trans c2) ((e _).trans c3) ((e _).trans c4) ((e _).trans c5) (RepLS.kept hg hn hw h2)
end
mutual
theorem RepS.monoS {S S' : Nat → Prop} {w : World} (hB : ∀ g, S g → g < w.heap.size → S' g) : ∀ {r : X3.RX} {v : Value}, RepS S w r v → RepS S' w r v
 | _, _, .empty => .empty
 | _, _, .bytes x y z u hx hy hz hu => .bytes x y z u hx hy hz hu
 | _, _, .cat l g cap h hc hn hw h0 => .cat l g cap (RepLS.monoS hB h) hc (hB _ hn hw) hw h0
 | _, _, .alt l g cap h hc hn hw h0 => .alt l g cap (RepLS.monoS hB h) hc (hB _ hn hw) hw h0
 | _, _, .star r g cap h hc hn hw => .star r g cap (RepLS.monoS hB h) hc (hB _ hn hw) hw
theorem RepLS.monoS {S S' : Nat → Prop} {w : World} (hB : ∀ g, S g → g < w.heap.size → S' g) {g : Nat} : ∀ {l : List X3.RX} {j : Nat}, RepLS S w l g j → RepLS S' w l g j
 | _, _, .nil _ _ => .nil _ _
 | _, _, .cons r l _ j k x y z u kv h c0 c1 c2 c3 c4 c5 h2 => .cons r l g j k x y z u kv (RepS.monoS hB h) c0 c1 c2 c3 c4 c5 (RepLS.monoS hB h2)
end
theorem Rep.kept {B : Nat} {w w' : World} (hg : Keep B w w') {r : X3.RX} {v : Value} (h : Rep B w r v) : Rep B w' r v := RepS.kept hg h
theorem RepL.kept {B : Nat} {w w' : World} (hg : Keep B w w') {g : Nat} (hn : B ≤ g) (hw : g < w.heap.size) {l : List X3.RX} {j : Nat} (h : RepL B w l g j) : RepL B w' l g j := RepLS.kept hg hn hw h
theorem Rep.mono {B B' : Nat} {w : World} (hB : B' ≤ B) {r : X3.RX} {v : Value} (h : Rep B w r v) : Rep B' w r v := RepS.monoS (fun g hg _ => Nat.le_trans hB hg) h
theorem RepL.mono {B B' : Nat} {w : World} (hB : B' ≤ B) {g : Nat} {l : List X3.RX} {j : Nat} (h : RepL B w l g j) : RepL B' w l g j := RepLS.monoS (fun g hg _ => Nat.le_trans hB hg) h
def RP (b : Nat) (s : ByteArray) (w : World) (r : X3.PR X3.RX) (e : Ending) (w' : World) : Prop :=
 match r with
 | .ok r j => ∃ v, e = .returned v ∧ Rep w.heap.size w' r v ∧ (Rd b s j w' ∧ Gr b w w' ∧ j ≤ s.size)
 | .err c => e = flt c ∧ Gr b w w'
end Go.Proofs.YtochckefnjobhaaGreatDoor
