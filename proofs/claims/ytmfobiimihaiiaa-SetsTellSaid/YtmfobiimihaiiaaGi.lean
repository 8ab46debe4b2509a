/- sets.Empty and sets.Lives. -/
import Derived.Test.YtmfobiimihaiiaaGh
namespace Go.Proofs.Ytmfobiimihaiiaa
open Go Go.RowKit Go.Lib Go.Joins

theorem info4 : (Try.prog.info? 4).map (fun i => (i.zero, i.size, i.bytes)) = some (some (.bool false), 1, 1) := by kernel_rfl
theorem made_bools (n : Nat) (hn : n ≤ 1000000) (w : World) : (Instr.makeSlice 33 (.int .i64 (n : Int)) (.int .i64 (n : Int))).run Try.prog w = .ok (.slice (some ⟨w.heap.size, 0, none⟩) n n) (w.alloc (.cells (Array.replicate n (.bool false)) 4)) := by
  obtain ⟨i0, hi, hz0, hz1, hz2⟩ := info_parts info4
  have := run_makeSlice (P := Try.prog) (w := w) 33 4 i0 (.bool false) Try.underlying33 hi hz0 .i64 .i64 (n : Int) (n : Int) (by omega) (by omega) (by rw [hz1]; omega) (by rw [hz2]; omega) (by omega)
  rw [this, hz1]
  have e : madeCells (Value.bool false).cells ((n : Int).toNat * 1) = Array.replicate n (.bool false) := by
    rw [Int.toNat_natCast, Nat.mul_one]
    refine Array.ext (by simp [madeCells]) fun i h1 h2 => ?_
    simp [madeCells, Value.cells, Nat.mod_one]
  rw [e, Int.toNat_natCast]

set_option maxRecDepth 100000 in
set_option maxHeartbeats 2000000 in
theorem everyE {G : GD} {gv tv ov sv pv : Value} {tf : Nat → Nat → Value} {rv : Nat → Value} {w : World} (h : GrAt w gv G tv ov sv pv tf rv) (hV : validB G = true) :
    Calls Try.prog 27 #[gv, .func (.func 28) #[] #[]] w fun e W' =>
      ∃ lb L, e = .returned (.slice (some ⟨lb, 0, none⟩) G.sorts.length G.sorts.length) ∧ Least false G.prods G.sorts.length L ∧ W'.heap[lb]? = some (.cells (L.map Value.bool).toArray 4) ∧ w.heap.size ≤ lb ∧ Below w.heap.size w W' := by
  have hs := h.sorts
  have hgv := h.eq
  subst hgv
  obtain ⟨sa, sc, rfl, hsn, _⟩ := hs
  obtain ⟨n60, s60, p120⟩ := valid_few hV
  obtain ⟨w0, hw0⟩ : ∃ w0, w0 = (w.alloc (.cells #[tv, ov, .slice sa G.sorts.length sc, pv, .int .i64 G.start] 27)).alloc (.cells #[.func (.func 28) #[] #[]] 53) := ⟨_, rfl⟩
  have hB0 : Below w.heap.size w w0 := by rw [hw0]; exact ((Below.refl _ _).alloc (Nat.le_refl _) _).alloc (by simp) _
  have b1 : w0.heap[w.heap.size]? = some (.cells #[tv, ov, .slice sa G.sorts.length sc, pv, .int .i64 G.start] 27) := by
    rw [hw0]; exact (Below.heap_alloc _ _ _ (by simp)).trans (new_block w _)
  have b2 : w0.heap[w.heap.size + 1]? = some (.cells #[.func (.func 28) #[] #[]] 53) := by
    rw [hw0]
    have := new_block (w.alloc (.cells #[tv, ov, .slice sa G.sorts.length sc, pv, .int .i64 G.start] 27)) (.cells #[.func (.func 28) #[] #[]] 53)
    rwa [World.size_alloc] at this
  have hG := h.mono hB0
  have kv := Valid_any hG
  rw [hV] at kv
  have s0 := hB0.size
  have q2 := cell_of_block b1 2
  have q3 := cell_of_block b1 3
  have q4 := cell_of_block b2 0
  simp only [List.getElem?_toArray, List.getElem?_cons_zero, List.getElem?_cons_succ] at q2 q3 q4
  generalize hns : G.sorts.length = ns at *
  go_enter Try.func27, Try.ntmps27
  go_wp2_with fail
  rw [← hw0]
  clear hw0
  refine kv.mono ?_
  rintro e w1 ⟨rfl, hB1⟩
  replace q2 := cell_below hB1 q2
  have km := made_bools ns (by omega)
  have i0 : (0 : Int) ≤ (ns : Int) := by omega
  have i1 : (ns : Int) ≤ 60 := by omega
  obtain ⟨w3, hw3⟩ : ∃ w3, w3 = (w1.alloc (.cells (Array.replicate ns (.bool false)) 4)).alloc (.cells #[.slice (some ⟨w1.heap.size, 0, none⟩) ns ns] 33) := ⟨_, rfl⟩
  have hB3 : Below w1.heap.size w1 w3 := by rw [hw3]; exact ((Below.refl _ _).alloc (Nat.le_refl _) _).alloc (by simp) _
  have c1 : w3.heap[w1.heap.size]? = some (.cells ((List.replicate ns false).map Value.bool).toArray 4) := by
    rw [hw3, show ((List.replicate ns false).map Value.bool).toArray = Array.replicate ns (.bool false) by simp]; exact (Below.heap_alloc _ _ _ (by simp)).trans (new_block w1 _)
  have c2 : w3.heap[w1.heap.size + 1]? = some (.cells #[.slice (some ⟨w1.heap.size, 0, none⟩) ns ns] 33) := by
    rw [hw3]
    have := new_block (w1.alloc (.cells (Array.replicate ns (.bool false)) 4)) (.cells #[.slice (some ⟨w1.heap.size, 0, none⟩) ns ns] 33)
    rwa [World.size_alloc] at this
  have s1 := hB1.size
  have kg := growE (W := w3) (Bg := w.heap.size) (Bi := w.heap.size + 1) (Be := w1.heap.size + 1) (lb := w1.heap.size) hG hV q3 q4 (hB1.trans (hB3.mono s1)) (by rw [hns]; exact c2) (by rw [hns]; exact c1) s1
  rw [hns] at kg
  have KG := hid kg
  clear kg c1 c2 hG kv hV
  go_wp2_with fail
  rw [← hw3]
  clear hw3
  refine KG.out.mono ?_
  rintro e w4 ⟨rfl, L, hL, hlb, hF⟩
  go_wp2
  go_ret
  exact ⟨w1.heap.size, L, rfl, hL, hlb, by omega, hB0.trans ((hB1.mono s0).trans ((hB3.mono (by omega)).trans (hF.toBelow (by have := hB3.size; omega) (by rintro k rfl; omega))))⟩

set_option maxRecDepth 100000 in
set_option maxHeartbeats 2000000 in
theorem everyL {G : GD} {gv tv ov sv pv : Value} {tf : Nat → Nat → Value} {rv : Nat → Value} {w : World} (h : GrAt w gv G tv ov sv pv tf rv) (hV : validB G = true) :
    Calls Try.prog 27 #[gv, .func (.func 30) #[] #[]] w fun e W' =>
      ∃ lb L, e = .returned (.slice (some ⟨lb, 0, none⟩) G.sorts.length G.sorts.length) ∧ Least true G.prods G.sorts.length L ∧ W'.heap[lb]? = some (.cells (L.map Value.bool).toArray 4) ∧ w.heap.size ≤ lb ∧ Below w.heap.size w W' := by
  have hs := h.sorts
  have hgv := h.eq
  subst hgv
  obtain ⟨sa, sc, rfl, hsn, _⟩ := hs
  obtain ⟨n60, s60, p120⟩ := valid_few hV
  obtain ⟨w0, hw0⟩ : ∃ w0, w0 = (w.alloc (.cells #[tv, ov, .slice sa G.sorts.length sc, pv, .int .i64 G.start] 27)).alloc (.cells #[.func (.func 30) #[] #[]] 53) := ⟨_, rfl⟩
  have hB0 : Below w.heap.size w w0 := by rw [hw0]; exact ((Below.refl _ _).alloc (Nat.le_refl _) _).alloc (by simp) _
  have b1 : w0.heap[w.heap.size]? = some (.cells #[tv, ov, .slice sa G.sorts.length sc, pv, .int .i64 G.start] 27) := by
    rw [hw0]; exact (Below.heap_alloc _ _ _ (by simp)).trans (new_block w _)
  have b2 : w0.heap[w.heap.size + 1]? = some (.cells #[.func (.func 30) #[] #[]] 53) := by
    rw [hw0]
    have := new_block (w.alloc (.cells #[tv, ov, .slice sa G.sorts.length sc, pv, .int .i64 G.start] 27)) (.cells #[.func (.func 30) #[] #[]] 53)
    rwa [World.size_alloc] at this
  have hG := h.mono hB0
  have kv := Valid_any hG
  rw [hV] at kv
  have s0 := hB0.size
  have q2 := cell_of_block b1 2
  have q3 := cell_of_block b1 3
  have q4 := cell_of_block b2 0
  simp only [List.getElem?_toArray, List.getElem?_cons_zero, List.getElem?_cons_succ] at q2 q3 q4
  generalize hns : G.sorts.length = ns at *
  go_enter Try.func27, Try.ntmps27
  go_wp2_with fail
  rw [← hw0]
  clear hw0
  refine kv.mono ?_
  rintro e w1 ⟨rfl, hB1⟩
  replace q2 := cell_below hB1 q2
  have km := made_bools ns (by omega)
  have i0 : (0 : Int) ≤ (ns : Int) := by omega
  have i1 : (ns : Int) ≤ 60 := by omega
  obtain ⟨w3, hw3⟩ : ∃ w3, w3 = (w1.alloc (.cells (Array.replicate ns (.bool false)) 4)).alloc (.cells #[.slice (some ⟨w1.heap.size, 0, none⟩) ns ns] 33) := ⟨_, rfl⟩
  have hB3 : Below w1.heap.size w1 w3 := by rw [hw3]; exact ((Below.refl _ _).alloc (Nat.le_refl _) _).alloc (by simp) _
  have c1 : w3.heap[w1.heap.size]? = some (.cells ((List.replicate ns false).map Value.bool).toArray 4) := by
    rw [hw3, show ((List.replicate ns false).map Value.bool).toArray = Array.replicate ns (.bool false) by simp]; exact (Below.heap_alloc _ _ _ (by simp)).trans (new_block w1 _)
  have c2 : w3.heap[w1.heap.size + 1]? = some (.cells #[.slice (some ⟨w1.heap.size, 0, none⟩) ns ns] 33) := by
    rw [hw3]
    have := new_block (w1.alloc (.cells (Array.replicate ns (.bool false)) 4)) (.cells #[.slice (some ⟨w1.heap.size, 0, none⟩) ns ns] 33)
    rwa [World.size_alloc] at this
  have s1 := hB1.size
  have kg := growL (W := w3) (Bg := w.heap.size) (Bi := w.heap.size + 1) (Be := w1.heap.size + 1) (lb := w1.heap.size) hG hV q3 q4 (hB1.trans (hB3.mono s1)) (by rw [hns]; exact c2) (by rw [hns]; exact c1) s1
  rw [hns] at kg
  have KG := hid kg
  clear kg c1 c2 hG kv hV
  go_wp2_with fail
  rw [← hw3]
  clear hw3
  refine KG.out.mono ?_
  rintro e w4 ⟨rfl, L, hL, hlb, hF⟩
  go_wp2
  go_ret
  exact ⟨w1.heap.size, L, rfl, hL, hlb, by omega, hB0.trans ((hB1.mono s0).trans ((hB3.mono (by omega)).trans (hF.toBelow (by have := hB3.size; omega) (by rintro k rfl; omega))))⟩


set_option maxRecDepth 100000 in
theorem every_not {G : GD} {gv tv ov sv pv : Value} {tf : Nat → Nat → Value} {rv : Nat → Value} {w : World} (f : Value) (h : GrAt w gv G tv ov sv pv tf rv) (hV : validB G = false) (hf : f = .func (.func 28) #[] #[] ∨ f = .func (.func 30) #[] #[]) :
    Calls Try.prog 27 #[gv, f] w fun e W' => e = .returned (.slice none 0 0) ∧ Below w.heap.size w W' := by
  have hgv := h.eq
  subst hgv
  obtain ⟨w0, hw0⟩ : ∃ w0, w0 = (w.alloc (.cells #[tv, ov, sv, pv, .int .i64 G.start] 27)).alloc (.cells #[f] 53) := ⟨_, rfl⟩
  have hB0 : Below w.heap.size w w0 := by rw [hw0]; exact ((Below.refl _ _).alloc (Nat.le_refl _) _).alloc (by simp) _
  have hs := h.sorts
  have ht := h.terms
  have ho := h.over
  have hp := h.prods
  have hG := h.mono hB0
  have kv := Valid_any hG
  rw [hV] at kv
  obtain ⟨ta, tc, rfl, _, _⟩ := ht
  obtain ⟨oa, oc, rfl, _, _⟩ := ho
  obtain ⟨sa, sc, rfl, _, _⟩ := hs
  obtain ⟨pa, pc, rfl, _, _⟩ := hp
  rcases hf with rfl | rfl
  all_goals
    go_enter Try.func27, Try.ntmps27
    go_wp2_with fail
    rw [← hw0]
    clear hw0
    refine kv.mono ?_
    rintro e w1 ⟨rfl, hB1⟩
    go_wp2
    go_ret
    exact ⟨rfl, hB0.trans (hB1.mono hB0.size)⟩

theorem Empty_any {G : GD} {gv tv ov sv pv : Value} {tf : Nat → Nat → Value} {rv : Nat → Value} {w : World} (h : GrAt w gv G tv ov sv pv tf rv) (hV : validB G = true) :
    Calls Try.prog 12 #[gv] w fun e W' =>
      ∃ lb L, e = .returned (.slice (some ⟨lb, 0, none⟩) G.sorts.length G.sorts.length) ∧ Least false G.prods G.sorts.length L ∧ W'.heap[lb]? = some (.cells (L.map Value.bool).toArray 4) ∧ w.heap.size ≤ lb ∧ Below w.heap.size w W' := by
  have hgv := h.eq
  subst hgv
  have k := hid fun (w' : World) (hb : Below w.heap.size w w') => everyE (h.mono hb) hV
  clear h hV
  generalize G.sorts.length = n at *
  generalize G.prods = ps at *
  generalize G.start = st at *
  go_enter Try.func12, Try.ntmps12
  go_wp2_with fail
  have hb := (Below.refl w.heap.size w).alloc (Nat.le_refl _) (.cells #[tv, ov, sv, pv, .int .i64 st] 27)
  refine (k.out _ hb).mono ?_
  rintro e w1 ⟨lb, L, rfl, h1, h2, h3, h4⟩
  go_wp2
  go_ret
  exact ⟨lb, L, rfl, h1, h2, Nat.le_trans hb.size h3, hb.trans (h4.mono hb.size)⟩
theorem Lives_any {G : GD} {gv tv ov sv pv : Value} {tf : Nat → Nat → Value} {rv : Nat → Value} {w : World} (h : GrAt w gv G tv ov sv pv tf rv) (hV : validB G = true) :
    Calls Try.prog 14 #[gv] w fun e W' =>
      ∃ lb L, e = .returned (.slice (some ⟨lb, 0, none⟩) G.sorts.length G.sorts.length) ∧ Least true G.prods G.sorts.length L ∧ W'.heap[lb]? = some (.cells (L.map Value.bool).toArray 4) ∧ w.heap.size ≤ lb ∧ Below w.heap.size w W' := by
  have hgv := h.eq
  subst hgv
  have k := hid fun (w' : World) (hb : Below w.heap.size w w') => everyL (h.mono hb) hV
  clear h hV
  generalize G.sorts.length = n at *
  generalize G.prods = ps at *
  generalize G.start = st at *
  go_enter Try.func14, Try.ntmps14
  go_wp2_with fail
  have hb := (Below.refl w.heap.size w).alloc (Nat.le_refl _) (.cells #[tv, ov, sv, pv, .int .i64 st] 27)
  refine (k.out _ hb).mono ?_
  rintro e w1 ⟨lb, L, rfl, h1, h2, h3, h4⟩
  go_wp2
  go_ret
  exact ⟨lb, L, rfl, h1, h2, Nat.le_trans hb.size h3, hb.trans (h4.mono hb.size)⟩

end Go.Proofs.Ytmfobiimihaiiaa
