/- nfa's machine: closed. -/
import Derived.Test.YtochckefnjobhaaGreatDoorRa
import Derived.Test.YtochckefnjobhaaGreatDoorXs
import Derived.Test.YtochckefnjobhaaGreatDoorZa
import Derived.Sort.OwnSortedInts
namespace Go.Proofs.YtochckefnjobhaaGreatDoor
open Go Go.RowKit Go.Lib
open X3 (RX Pl)
set_option linter.unusedVariables false
set_option linter.unusedSimpArgs false
structure Mach (T : Nat → Nat) (B m : Nat) (w : World) (pv : Value) (AS : List Value) (P : List Pl) (bv : Value) : Prop where
 box : w.heap[m]? = some (.cells #[pv, bv] 156 (0, 0))
 mB : B ≤ m
 row : w.ownsRow B 159 9 pv P.length (cellsP T 0 P AS)
 lenA : AS.length = P.length
 also : ∀ (k : Nat) (pl : Pl) (av : Value), P[k]? = some pl → AS[k]? = some av → w.ownsRow B 3 1 av pl.also.length (pl.also.map fun (q : Nat) => Value.int .i64 (q : Int))
theorem MRep.mach {T : Nat → Nat} {B m : Nat} {w : World} {pv : Value} {AS : List Value} {P : List Pl} (h : MRep T B m w pv AS P) : Mach T B m w pv AS P (.slice none 0 0) := ⟨h.box, h.mB, h.row, h.lenA, h.also⟩
theorem Mach.kept {T : Nat → Nat} {B m : Nat} {w w' : World} {pv bv : Value} {AS : List Value} {P : List Pl} (h : Mach T B m w pv AS P bv) (hk : ∀ g, g < w.heap.size → Own m pv AS g → w'.heap[g]? = w.heap[g]?) : Mach T B m w' pv AS P bv := by
 have lt : ∀ {e : TypeId} {sz : Nat} {v : Value} {n : Nat} {xs : List Value} (h : w.ownsRow B e sz v n xs) (g : Nat), v.ownBlock = some g → g < w.heap.size := by
  intro e sz v n xs h g hg
  rcases h.2 with ⟨rfl, _⟩ | ⟨g', cap, cur, rfl, _, hh, _⟩
  ·cases hg
  ·injection hg with hg; subst hg; exact (Array.getElem?_eq_some_iff.1 hh).1
 refine ⟨(hk m (Array.getElem?_eq_some_iff.1 h.box).1 (.inl rfl)).trans h.box, h.mB, owns_kept h.row fun g hg => hk g (lt h.row g hg) (.inr (.inl hg)), h.lenA, fun k pl av hp ha => ?_⟩
 have ho := h.also k pl av hp ha
 exact owns_kept ho fun g hg => hk g (lt ho g hg) (.inr (.inr ⟨av, List.mem_iff_getElem?.2 ⟨_, ha⟩, hg⟩))
theorem Mach.grown {T : Nat → Nat} {B m : Nat} {w w' : World} {pv bv v : Value} {AS : List Value} {P : List Pl} (h : Mach T B m w pv AS P bv) (hg : w.grownBy w' v.ownBlock) (hap : ∀ g, Own m pv AS g → v.ownBlock ≠ some g) : Mach T B m w' pv AS P bv :=
 h.kept fun g hl ho => hg.block g hl (fun e => hap g ho e.symm)
theorem Mach.below {T : Nat → Nat} {B m : Nat} {w w' : World} {pv bv : Value} {AS : List Value} {P : List Pl} (h : Mach T B m w pv AS P bv) (hb : Below w.heap.size w w') : Mach T B m w' pv AS P bv :=
 h.kept fun g hl _ => hb.block g hl
theorem Mach.at_ {T : Nat → Nat} {B m : Nat} {w : World} {pv bv : Value} {AS : List Value} {P : List Pl} (h : Mach T B m w pv AS P bv) {k : Nat} {pl : Pl} (hp : P[k]? = some pl) :
  ∃ (pg cap : Nat) (kd x y z u : Int) (av : Value), pv = .slice (some ⟨pg, 0, none⟩) P.length cap ∧ AS[k]? = some av ∧ bcs pl.b = [.int .i64 kd, .int .u64 x, .int .u64 y, .int .u64 z, .int .u64 u, noKids] ∧ nodeOf pl.b = nodeV kd x y z u noKids ∧
   w.cell? ⟨pg, k * 9, none⟩ = some (.int .i64 kd) ∧ w.cell? ⟨pg, k * 9 + 1, none⟩ = some (.int .u64 x) ∧ w.cell? ⟨pg, k * 9 + 2, none⟩ = some (.int .u64 y) ∧ w.cell? ⟨pg, k * 9 + 3, none⟩ = some (.int .u64 z) ∧ w.cell? ⟨pg, k * 9 + 4, none⟩ = some (.int .u64 u) ∧ w.cell? ⟨pg, k * 9 + 5, none⟩ = some noKids ∧
   w.cell? ⟨pg, k * 9 + 6, none⟩ = some (.int .i64 (pl.next : Int)) ∧ w.cell? ⟨pg, k * 9 + 7, none⟩ = some av ∧ w.cell? ⟨pg, k * 9 + 8, none⟩ = some (.int .u64 (T k : Int)) := by
 have hkl : k < P.length := (List.getElem?_eq_some_iff.1 hp).1
 obtain ⟨av, hav⟩ : ∃ av, AS[k]? = some av := ⟨_, List.getElem?_eq_getElem (by rw [h.lenA]; exact hkl)⟩
 obtain ⟨kd, x, y, z, u, hb, hn⟩ := bcs_shape pl.b
 rcases h.row.2 with ⟨_, h0⟩ | ⟨pg, cap, cur, rfl, hB, hg, hc, hcm, hs, ht⟩
 ·omega
 have key : ∀ j, j < 9 → w.cell? ⟨pg, k * 9 + j, none⟩ = (plc (T k) pl av)[j]? := fun j hj => by
  rw [Lib.cell_of_heap hg, ← cellsP_at T P AS k pl av h.lenA hp hav j hj, ← ht, List.getElem?_take, if_pos (by omega), Array.getElem?_toList]
 have e : plc (T k) pl av = [.int .i64 kd, .int .u64 x, .int .u64 y, .int .u64 z, .int .u64 u, noKids, .int .i64 (pl.next : Int), av, .int .u64 (T k : Int)] := by simp [plc, hb]
 rw [e] at key
 exact ⟨pg, cap, kd, x, y, z, u, av, rfl, hav, hb, hn, key 0 (by decide), key 1 (by decide), key 2 (by decide), key 3 (by decide), key 4 (by decide), key 5 (by decide), key 6 (by decide), key 7 (by decide), key 8 (by decide)⟩
theorem info4 : (Tryz.prog.info? 4).map (fun i => (i.zero, i.size, i.bytes)) = some (some (.bool false), 1, 1) := by kernel_rfl
theorem made_bools (n : Nat) (hn : n ≤ 1000000) (w : World) : (Instr.makeSlice 37 (.int .i64 (n : Int)) (.int .i64 (n : Int))).run Tryz.prog w = .ok (.slice (some ⟨w.heap.size, 0, none⟩) n n) (w.alloc (.cells (Array.replicate n (.bool false)) 4)) := by
 obtain ⟨i0, hi, hz0, hz1, hz2⟩ := info_parts info4
 have := run_makeSlice (P := Tryz.prog) (w := w) 37 4 i0 (.bool false) Tryz.underlying37 hi hz0 .i64 .i64 (n : Int) (n : Int) (by omega) (by omega) (by rw [hz1]; omega) (by rw [hz2]; omega) (by omega)
 rw [this, hz1]
 have e : madeCells (Value.bool false).cells ((n : Int).toNat * 1) = Array.replicate n (.bool false) := by
  rw [Int.toNat_natCast, Nat.mul_one]
  refine Array.ext (by simp [madeCells]) fun i h1 h2 => ?_
  simp [madeCells, Value.cells, Nat.mod_one]
 rw [e, Int.toNat_natCast]
theorem bools_cell {W : World} {fb : Nat} {F : List Bool} (h : W.heap[fb]? = some (.cells (F.map Value.bool).toArray 4 (0, 0))) {i : Nat} {b : Bool} (hi : F[i]? = some b) : W.cell? ⟨fb, i, none⟩ = some (.bool b) ∧ W.frozen? ⟨fb, i, none⟩ = false ∧
  (W.setCell ⟨fb, i, none⟩ (.bool true)).heap[fb]? = some (.cells ((F.set i true).map Value.bool).toArray 4 (0, 0)) := by
 refine ⟨by rw [Lib.cell_of_heap h]; simp [hi], Lib.frozen_of_heap h i, ?_⟩
 rw [heap_setCell_same W fb i _ 4 (.bool true) h]
 simp [List.map_set]
end Go.Proofs.YtochckefnjobhaaGreatDoor
