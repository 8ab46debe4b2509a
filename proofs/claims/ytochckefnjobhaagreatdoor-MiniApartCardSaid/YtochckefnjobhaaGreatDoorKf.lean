/- Automata that are built, of any classes. -/
import Derived.Test.YtochckefnjobhaaGreatDoorKe
namespace Go.Proofs.YtochckefnjobhaaGreatDoor
open Go Go.RowKit Go.Lib
open X5 (Aut)
set_option linter.unusedVariables false
set_option linter.unusedSimpArgs false
theorem ivs_size (l : List Int) : (ivs l).size = l.length := by simp [ivs]
theorem ivs_one (l : List Int) : (ivs l).all (·.oneCell') = true := by
 rw [Array.all_eq_true]
 intro i hi
 simp [ivs, Value.oneCell']
abbrev dvi (cs : List Int) (nv tv : Value) : Array Value := ivs cs ++ #[nv, tv]
theorem dvi_size (cs : List Int) (hl : cs.length = 256) (nv tv : Value) : (dvi cs nv tv).size = 258 := by
 rw [Array.size_append, ivs_size, hl]; rfl
theorem dvi_one (cs : List Int) {nv tv : Value} (hn : nv.oneCell' = true) (ht : tv.oneCell' = true) : (dvi cs nv tv).all (·.oneCell') = true := by
 rw [Array.all_append, ivs_one]
 simp [hn, ht]
theorem fill30i (N : Array Value) (hs : N.size = 256) : Tryz.prog.built 26 [(0, .agg N)] = some (N ++ #[nil1, nil1]) := by
 rw [built30]
 have hz : (Array.replicate 256 (Value.int .i64 0) ++ #[nil1, nil1]).size = 258 := by rw [Array.size_append, Array.size_replicate]; rfl
 generalize hZ : Array.replicate 256 (Value.int .i64 0) ++ #[nil1, nil1] = Z at *
 have hZ1 : Z[256]? = some nil1 := by rw [← hZ, Array.getElem?_append_right (by rw [Array.size_replicate]; omega), Array.size_replicate]; rfl
 have hZ2 : Z[257]? = some nil1 := by rw [← hZ, Array.getElem?_append_right (by rw [Array.size_replicate]; omega), Array.size_replicate]; rfl
 have e1 : Instr.fill (fun i => (#[(0, 256), (256, 1), (257, 1)] : Array (Nat × Nat))[i]?) Z [(0, .agg N)] = some (N.toList.zipIdx.foldl (fun (cs : Array Value) (x : Value × Nat) => cs.setIfInBounds (0 + x.2) x.1) Z) := by
  simp [Instr.fill, Value.cells, hs, hz]
  rw [show (256 : Nat) = N.zipIdx.size by simp [hs], ← Array.foldl_toList, Array.toList_zipIdx]
 rw [e1]
 congr 1
 refine Array.ext_getElem? fun i => ?_
 by_cases hi : i < 258
 ·rw [fold_set N.toList 0 Z i (by omega)]
  by_cases h1 : i < 256
  ·rw [if_pos ⟨Nat.zero_le _, by rw [Array.length_toList, hs]; omega⟩, Array.getElem?_append_left (by rw [hs]; exact h1), Nat.sub_zero, Array.getElem?_toList]
  ·rw [if_neg (by rw [Array.length_toList, hs]; omega), Array.getElem?_append_right (by rw [hs]; omega), hs]
   rcases (show i = 256 ∨ i = 257 by omega) with rfl | rfl
   ·rw [hZ1]; rfl
   ·rw [hZ2]; rfl
 ·rw [Array.getElem?_eq_none (by rw [fold_size N.toList.zipIdx Z]; omega), Array.getElem?_eq_none (by rw [Array.size_append, hs]; simp; omega)]
section
variable {ops : Array Oper} {rest : List Oper} {o : Oper} {a : Act} {w : World} {Q : Exit → Act → World → Prop}
theorem wpList_build30i (hg : o.guard = none) (x : Operand) (hop : o.op = .build 26 #[(0, x)]) (cv : Array Value) (hl : cv.size = 256) (hx : a.eval x = .agg cv) (dc : Array Value) (hd : cv ++ #[nil1, nil1] = dc)
  (hK : wpList Tryz.prog ops Q rest (a.put o.dst (.agg dc)) w) : wpList Tryz.prog ops Q (o :: rest) a w := by
 subst hd
 refine wpList_plain hg fun K' hK' => ?_
 have hrun := run_build (P := Tryz.prog) w 26 #[(0, .agg cv)] _ (fill30i cv hl)
 generalize cv ++ #[nil1, nil1] = N at *
 unfold Oper.wp
 simp [execOp, hop, hx, hrun, Result.andThen]
 exact hK' _ _ hK
theorem wpList_load26i (hg : o.guard = none) (p : Operand) (hop : o.op = .load 22 p) (g : Nat) (hp : a.eval p = .pointer (some ⟨g, 0, none⟩)) (cv : Array Value) (nv tv : Value) (dc : Array Value) (hd : cv ++ #[nv, tv] = dc) (hb : w.heap[g]? = some (.cells dc 26 (0, 0))) (h1 : cv.size = 256)
  (hK : wpList Tryz.prog ops Q rest (a.put o.dst (.agg cv)) w) : wpList Tryz.prog ops Q (o :: rest) a w := by
 subst hd
 refine wpList_plain hg fun K' hK' => ?_
 have hl : (loadCells ⟨g, 0, none⟩ cv.toList.length).run Tryz.prog w = .ok cv.toList.toArray w :=
  run_loadCells_list (P := Tryz.prog) w ⟨g, 0, none⟩ cv.toList (fun j v hv => by
   have hadd : (⟨g, 0, none⟩ : Addr).add j = ⟨g, j, none⟩ := by unfold Addr.add; split <;> simp_all
   have hj : j < cv.size := by
    have := (List.getElem?_eq_some_iff.1 hv).1
    rwa [Array.length_toList] at this
   rw [hadd, cell_of_row w g j _ 26 (0, 0) hb, Array.getElem?_append_left hj, ← Array.getElem?_toList]
   exact hv)
 rw [Array.length_toList, h1] at hl
 have hag : (isAgg 22).run Tryz.prog w = .ok true w := by kernel_rfl
 have hsz : (sizeOf 22).run Tryz.prog w = .ok 256 w := by kernel_rfl
 have hrun : (loadVar 22 ⟨g, 0, none⟩).run Tryz.prog w = .ok (.agg cv) w := by
  simp [loadVar, Sem.run_bind, hag, hsz, hl, Result.andThen]
 unfold Oper.wp
 simp only [execOp, hop, hp, Instr.loadAt, Instr.sureAddr, Sem.run_bind, Sem.run_pure, Result.andThen_ok, hrun]
 exact hK' _ _ hK
end
theorem set_mid {cv : Array Value} (hs : cv.size = 256) (a b c : Value) : (cv ++ #[a, b]).setIfInBounds 256 c = cv ++ #[c, b] := by
 refine Array.ext_getElem? fun i => ?_
 rw [Array.getElem?_setIfInBounds]
 by_cases h1 : i < 256
 ·rw [if_neg (by omega), Array.getElem?_append_left (by omega), Array.getElem?_append_left (by omega)]
 ·by_cases h2 : i = 256
  ·subst h2
   rw [if_pos rfl, if_pos (by simp [hs]), Array.getElem?_append_right (by omega), hs]; rfl
  ·rw [if_neg (by omega), Array.getElem?_append_right (by omega), Array.getElem?_append_right (by omega), hs]
   by_cases h3 : i = 257
   ·subst h3; rfl
   ·rw [Array.getElem?_eq_none (by simp; omega), Array.getElem?_eq_none (by simp; omega)]
theorem set_end {cv : Array Value} (hs : cv.size = 256) (a b c : Value) : (cv ++ #[a, b]).setIfInBounds 257 c = cv ++ #[a, c] := by
 refine Array.ext_getElem? fun i => ?_
 rw [Array.getElem?_setIfInBounds]
 by_cases h1 : i < 256
 ·rw [if_neg (by omega), Array.getElem?_append_left (by omega), Array.getElem?_append_left (by omega)]
 ·by_cases h2 : i = 257
  ·subst h2
   rw [if_pos rfl, if_pos (by simp [hs]), Array.getElem?_append_right (by omega), hs]; rfl
  ·rw [if_neg (by omega), Array.getElem?_append_right (by omega), Array.getElem?_append_right (by omega), hs]
   by_cases h3 : i = 256
   ·subst h3; rfl
   ·rw [Array.getElem?_eq_none (by simp; omega), Array.getElem?_eq_none (by simp; omega)]
def inBl (CV : List Value) (n : Nat) : List Nat := (CV.take n).filterMap Value.ownBlock
theorem inBl_mem {CV : List Value} {n b : Nat} : b ∈ inBl CV n ↔ ∃ (i : Nat) (u : Value), i < n ∧ CV[i]? = some u ∧ u.ownBlock = some b := by
 unfold inBl
 rw [List.mem_filterMap]
 constructor
 ·rintro ⟨u, hu, hb⟩
  obtain ⟨i, hi⟩ := List.mem_iff_getElem?.1 hu
  rw [List.getElem?_take] at hi
  split at hi
  ·exact ⟨i, u, by assumption, hi, hb⟩
  ·cases hi
 ·rintro ⟨i, u, hi, hu, hb⟩
  exact ⟨u, List.mem_iff_getElem?.2 ⟨i, by rw [List.getElem?_take, if_pos hi]; exact hu⟩, hb⟩
structure NxOk (B : Nat) (v : Value) (CV : List Value) (NX : List (List Int)) (w : World) : Prop where
 row : w.ownsRow B 87 1 v CV.length CV
 few : NX.length ≤ CV.length
 each : ∀ (i : Nat) u x, CV[i]? = some u → NX[i]? = some x → w.ownsRow B 3 1 u x.length (zs x)
 off : ∀ b ∈ inBl CV NX.length, v.ownBlock ≠ some b
def nxI (B : Nat) (v : Value) (CV : List Value) (NX : List (List Int)) : Item where
 bl := v.ownBlock.toList ++ inBl CV NX.length
 ok w := NxOk B v CV NX w
 kept h hw := ⟨owns_kept hw.row fun g hg => h g (by rw [hg]; simp), hw.few, fun i u x hu hx => owns_kept (hw.each i u x hu hx) fun g hg => h g (List.mem_append.2 (.inr (inBl_mem.2 ⟨i, u, (List.getElem?_eq_some_iff.1 hx).1, hu, hg⟩))), hw.off⟩
end Go.Proofs.YtochckefnjobhaaGreatDoor
